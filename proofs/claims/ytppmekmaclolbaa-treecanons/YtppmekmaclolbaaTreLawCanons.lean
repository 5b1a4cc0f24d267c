/- Layer 7: the statement TreeCanons, walked. -/
import Derived.Test.YtppmekmaclolbaaTreLawChecks
import Derived.Test.YtppmekmaclolbaaTreRefCanon
namespace Go.Proofs.Ytppmekmaclolbaa
set_option linter.unusedVariables false
open Go.RowKit Go.Maps
open Nam Tre

set_option maxRecDepth 100000 in
set_option maxHeartbeats 1000000 in
theorem canons_walk (a : Option Addr) (n c : Nat) (L : List (Nv × Nod)) (w : World) (hl : Ns w a n L) (hc : n ≤ c) (hcm : c ≤ 9223372036854775807) :
    Calls Try.prog 4 #[.slice a n c] w fun e w' => e = .returned (.bool true) ∧ Below w.heap.size w w' := by
  have HL := hide hl
  clear hl
  go_enter Try.func4, Try.ntmps4
  go_wp2_with (go_at_call 9; refine (shown_any _).mono ?_)
  rintro e w1 ⟨rfl, hb1⟩
  have E1 := hide hb1
  clear hb1
  go_wp2_with (go_at_call 10; refine (few_any a n c L _ (HL.out.below E1.out) hc hcm).mono ?_)
  rintro e w2 ⟨ao, k, c', rfl, hk, hown, hns, hb2⟩
  have hcap := cap_owns hown
  have E2 := hide (E1.out.trans (hb2.mono E1.out.size))
  have HN := hide hns
  have h20 := fun p hp => Nat.le_trans (fewL_names L p hp) (by omega : 20 ≤ 1000000)
  have H20 := hide h20
  obtain ⟨h1, h2, h3⟩ := hcap
  have H3 := hide h3
  clear hown hns hb2 h20 h3
  generalize fewL L = F at *
  go_wp2_with (at_builtin; refine wpList_append_nod _ rfl _ _ rfl w2.heap.size _ _ _ [] rfl (emptyN' (by simp) (by simp)) _ _ _ (F.map (fun p => p.1)) rfl (HN.out.sh.below (by repeat (first | exact HB5.out | exact HB4.out | exact HB3.out | exact Below.refl _ _ | apply up_drew | apply up_drewN | apply up_alloc))) H3.out (by omega) (by simp) ?_)
  intro ao3 c3 w3 hown3 hg3
  try rw [List.nil_append, Nat.zero_add] at hown3
  try rw [Nat.zero_add]
  have hb3 : Below w2.heap.size w2 w3 := Below.grown (by repeat (first | exact HB5.out | exact HB4.out | exact HB3.out | exact Below.refl _ _ | apply up_drew | apply up_drewN | apply up_alloc)) hg3 (by simp) (fun k e => by simp [Value.ownBlock] at e; omega)
  have E3 := hide (E2.out.trans (hb3.mono E2.out.size))
  have HN3 := hide (HN.out.below hb3)
  have HO3 := hide ((sh_of_owns hown3).ns (fun p hp => (HN.out.below hb3).2.1 p hp))
  obtain ⟨g1, g2, _⟩ := cap_owns hown3
  clear hown3 hg3 hb3
  obtain ⟨z, hz⟩ : ∃ z, check (nds F) = z := ⟨_, rfl⟩
  by_cases h0 : z = 0
  · subst h0
    have HND := hide (check_zero hz).2.2.2.1
    have HC1 := hide (Canon_ok ao3 k c3 F w3 HO3.out g1 g2 hz)
    have HZ := hide hz
    clear hz
    go_wp2_with (go_at_call 13; refine HC1.out.mono ?_)
    rintro e w4 ⟨blk, L4, rfl, hown4, hgood4, hic4, hb4⟩
    have E4 := hide (E3.out.trans (hb4.mono E3.out.size))
    have HN4 := hide (HN3.out.below hb4)
    have HO4 := hide (HO3.out.below hb4)
    have HA4 := hide ((sh_of_owns hown4).ns (fun p hp => (hgood4 p hp).rep))
    have HF4 := hide (fun p hp => (hgood4 p hp).few)
    have HI4 := hide hic4
    have HC2 := hide (refCanon_ok ao k c' F w4 HN4.out h1 h2 H20.out HZ.out)
    clear hown4 hgood4 hic4 hb4 HC1
    go_wp2_with (go_at_call 14; refine HC2.out.mono ?_)
    rintro e w5 ⟨ao5, c5, L5, rfl, hn5, hic5, hb5⟩
    have E5 := hide (E4.out.trans (hb5.mono E4.out.size))
    have HC3 := hide (refSameRows (some ⟨blk, 0, none⟩) ao5 k k c5 L4 L5 w5 (HA4.out.below hb5) hn5 (canon_one HND.out HI4.out hic5) HF4.out (Nat.le_refl _) (by omega))
    have HN5 := hide (HN4.out.below hb5)
    have HO5 := hide (HO4.out.below hb5)
    clear hn5 hic5 hb5 HC2
    go_wp2_with (go_at_call 15; refine HC3.out.mono ?_)
    rintro e w6 ⟨rfl, hb6⟩
    have E6 := hide (E5.out.trans (hb6.mono E5.out.size))
    have HC4 := hide (refSameRows ao3 ao k c3 c' F F w6 (HO5.out.below hb6) (HN5.out.below hb6) rfl H20.out g1 g2)
    clear hb6 HC3
    go_wp2_with (go_at_call 15; refine HC4.out.mono ?_)
    rintro e w7 ⟨rfl, hb7⟩
    have E7 := hide (E6.out.trans (hb7.mono E6.out.size))
    clear hb7
    go_wp2
    go_ret
    exact ⟨rfl, E7.out⟩
  · have HC1 := hide (Canon_no ao3 k c3 F w3 HO3.out g1 g2 z hz h0)
    have HZ := hide hz
    have H0 := hide h0
    clear hz h0
    go_wp2_with (go_at_call 13; refine HC1.out.mono ?_)
    rintro e w4 ⟨rfl, hb4⟩
    have E4 := hide (E3.out.trans (hb4.mono E3.out.size))
    have HN4 := hide (HN3.out.below hb4)
    have HO4 := hide (HO3.out.below hb4)
    have HC2 := hide (refCanon_no ao k c' F w4 HN4.out h1 h2 H20.out z HZ.out H0.out)
    clear hb4 HC1
    go_wp2_with (go_at_call 14; refine HC2.out.mono ?_)
    rintro e w5 ⟨rfl, hb5⟩
    have E5 := hide (E4.out.trans (hb5.mono E4.out.size))
    have HC3 := hide (refSameRows none none 0 0 0 [] [] w5 (Ns.nil _ _) (Ns.nil _ _) rfl (fun p hp => by simp at hp) (Nat.le_refl _) (by omega))
    have HN5 := hide (HN4.out.below hb5)
    have HO5 := hide (HO4.out.below hb5)
    clear hb5 HC2
    go_wp2_with (go_at_call 15; refine HC3.out.mono ?_)
    rintro e w6 ⟨rfl, hb6⟩
    have E6 := hide (E5.out.trans (hb6.mono E5.out.size))
    have HC4 := hide (refSameRows ao3 ao k c3 c' F F w6 (HO5.out.below hb6) (HN5.out.below hb6) rfl H20.out g1 g2)
    clear hb6 HC3
    go_wp2_with (go_at_call 15; refine HC4.out.mono ?_)
    rintro e w7 ⟨rfl, hb7⟩
    have E7 := hide (E6.out.trans (hb7.mono E6.out.size))
    have hzz : (z == z) = true := by simp
    clear hb7
    go_wp2
    go_ret
    exact ⟨rfl, E7.out⟩
end Go.Proofs.Ytppmekmaclolbaa

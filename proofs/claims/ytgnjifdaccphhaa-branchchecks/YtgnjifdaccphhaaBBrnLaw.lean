import Derived.Test.YtgnjifdaccphhaaBJTabXat
import Derived.Test.YtgnjifdaccphhaaBTreOpen
set_option linter.unusedVariables false
namespace Go.Proofs.Ytgnjifdaccphhaa
open Go.RowKit Go.Maps
open Nam Tre Mrg Brn
theorem fewL18_names (L : List (Nv × Nod)) : ∀ p ∈ fewL18 L, p.2.names.length ≤ 18 := by
 intro p hp
 simp only [fewL18, List.mem_map] at hp
 obtain ⟨q, hq, rfl⟩ := hp
 simp [Tre.cut18]; omega
set_option maxRecDepth 100000 in
theorem bchecks_walk (a : Option Addr) (n c : Nat) (L : List (Nv × Nod)) (w : World) (hl : Ns w a n L) (hc : n ≤ c) (hcm : c ≤ 9223372036854775807) :
  Calls Try.prog 3 #[.slice a n c] w fun e w' => e = .returned (.bool true) ∧ Below w.heap.size w w' := by
 have HL := hide hl
 clear hl
 go_enter Try.func3, Try.ntmps3
 go_wp2_with (go_at_call 4; refine (bshown_any _).mono ?_)
 rintro e w1 ⟨rfl, hb1⟩
 have E1 := hide hb1
 clear hb1
 go_wp2_with (go_at_call 5; refine (few18_any a n c L _ (HL.out.below E1.out) hc hcm).mono ?_)
 rintro e w2 ⟨ao, k, c', rfl, hk, hown, hns, hb2⟩
 have hcap := cap_owns hown
 have E2 := hide (E1.out.trans (hb2.mono E1.out.size))
 have HN := hide hns
 have h20 := fun p hp => Nat.le_trans (fewL18_names L p hp) (by omega : 18 ≤ 1000000)
 have H20 := hide h20
 obtain ⟨h1, h2, _⟩ := hcap
 clear hown hns hb2 h20
 go_wp2_with (go_at_call 6; refine (bCheck_any ao k c' (fewL18 L) _ HN.out h1 h2 (by omega)).mono ?_)
 rintro e w3 ⟨rfl, hb3⟩
 have E3 := hide (E2.out.trans (hb3.mono E2.out.size))
 have HN3 := hide (HN.out.below hb3)
 clear hb3
 have HC := hide (refCheck18_any ao k c' (fewL18 L) w3 HN3.out h1 h2 H20.out)
 generalize checkB (nds (fewL18 L)) = z at *
 go_wp2_with (go_at_call 7; refine HC.out.mono ?_)
 rintro e w4 ⟨rfl, hb4⟩
 have E4 := hide (E3.out.trans (hb4.mono E3.out.size))
 clear hb4
 have hzz : (z == z) = true := by simp
 go_wp2
 go_ret
 exact ⟨rfl, E4.out⟩
end Go.Proofs.Ytgnjifdaccphhaa

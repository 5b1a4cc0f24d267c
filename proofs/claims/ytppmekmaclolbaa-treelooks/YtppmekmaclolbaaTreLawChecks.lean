/- Layer 7: the statement TreeChecks, walked. -/
import Derived.Test.YtppmekmaclolbaaTreShown
import Derived.Test.YtppmekmaclolbaaTreFew
import Derived.Test.YtppmekmaclolbaaTreRefCheck
import Derived.Test.YtppmekmaclolbaaTreOpen
namespace Go.Proofs.Ytppmekmaclolbaa
set_option linter.unusedVariables false
open Go.RowKit Go.Maps
open Nam Tre

theorem fewL_names (L : List (Nv × Nod)) : ∀ p ∈ fewL L, p.2.names.length ≤ 20 := by
  intro p hp
  simp only [fewL, List.mem_map] at hp
  obtain ⟨q, hq, rfl⟩ := hp
  simp [Tre.cut]; omega
set_option maxRecDepth 100000 in
theorem checks_walk (a : Option Addr) (n c : Nat) (L : List (Nv × Nod)) (w : World) (hl : Ns w a n L) (hc : n ≤ c) (hcm : c ≤ 9223372036854775807) :
    Calls Try.prog 3 #[.slice a n c] w fun e w' => e = .returned (.bool true) ∧ Below w.heap.size w w' := by
  have HL := hide hl
  clear hl
  go_enter Try.func3, Try.ntmps3
  go_wp2_with (go_at_call 9; refine (shown_any _).mono ?_)
  rintro e w1 ⟨rfl, hb1⟩
  have E1 := hide hb1
  clear hb1
  go_wp2_with (go_at_call 10; refine (few_any a n c L _ (HL.out.below E1.out) hc hcm).mono ?_)
  rintro e w2 ⟨ao, k, c', rfl, hk, hown, hns, hb2⟩
  have hcap := cap_owns hown
  have E2 := hide (E1.out.trans (hb2.mono E1.out.size))
  have HN := hide hns
  have h20 := fun p hp => Nat.le_trans (fewL_names L p hp) (by omega : 20 ≤ 1000000)
  have H20 := hide h20
  obtain ⟨h1, h2, _⟩ := hcap
  clear hown hns hb2 h20
  go_wp2_with (go_at_call 11; refine (Check_any ao k c' (fewL L) _ HN.out h1 h2).mono ?_)
  rintro e w3 ⟨rfl, hb3⟩
  have E3 := hide (E2.out.trans (hb3.mono E2.out.size))
  have HN3 := hide (HN.out.below hb3)
  clear hb3
  have HC := hide (refCheck_any ao k c' (fewL L) w3 HN3.out h1 h2 H20.out)
  generalize check (nds (fewL L)) = z at *
  go_wp2_with (go_at_call 12; refine HC.out.mono ?_)
  rintro e w4 ⟨rfl, hb4⟩
  have E4 := hide (E3.out.trans (hb4.mono E3.out.size))
  clear hb4
  have hzz : (z == z) = true := by simp
  go_wp2
  go_ret
  exact ⟨rfl, E4.out⟩
end Go.Proofs.Ytppmekmaclolbaa

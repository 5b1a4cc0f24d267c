/- Layer 6: the walk of NameSplits. -/
import Derived.Test.YtlaeplfbkpjpgaaNamBack
import Derived.Test.YtlaeplfbkpjpgaaNamRefSplit
namespace Go.Proofs.Ytlaeplfbkpjpgaa
set_option linter.unusedVariables false
open Go.RowKit Go.Maps
open Nam

theorem bool_self (b : Bool) : (b == b) = true := by cases b <;> rfl
set_option maxRecDepth 100000 in
theorem splits_walk (s : ByteArray) (a0 : Option Addr) (n0 c0 : Nat) (l0 : List ByteArray) (w : World) (hs : s.size ≤ maxLen) (h0 : Rs w a0 n0 l0) (h0c : n0 ≤ c0) (h0m : c0 ≤ 9223372036854775807) (h0s : (jn l0).length ≤ 1000000000) :
    Calls Try.prog 5 #[.string s, .slice a0 n0 c0] w fun e w' => e = .returned (.bool true) ∧ Below w.heap.size w w' := by
  have hj := Nat.le_trans (jn_len l0 30) h0s
  clear hs h0s
  go_enter Try.func5, Try.ntmps5
  go_wp2_with (go_at_call 9; refine (shown_any w).mono ?_)
  rintro e w1 ⟨rfl, hb1⟩
  replace h0 := h0.below hb1
  have HB1 := hide hb1
  clear hb1
  go_wp2_with (go_at_call 12; refine (few_any a0 n0 c0 l0 w1 h0 h0c h0m).mono ?_)
  rintro e w' ⟨n, rfl, r0, q0, t0, rfl⟩
  clear h0 h0c
  generalize l0.take 30 = l at r0 hj
  have HJ := hide hj
  have R := hide r0
  clear r0 hj
  go_wp2_with (go_at_call 19; refine (Split_any s _).mono ?_)
  rintro e w2 ⟨ao, m, c, S, rfl, ra, hS, hm, hb2⟩
  have HB2 := hide (HB1.out.trans (hb2.mono HB1.out.size))
  have R2 := hide (R.out.below hb2)
  have RA := hide ra
  have HS := hide hS
  clear hb2 ra hS
  generalize hx : (split s.toList).2.1 = x at *
  generalize hy : (split s.toList).2.2 = y at *
  have HX := hide hx
  have HY := hide hy
  clear hx hy
  go_wp2_with (go_at_call 20; refine (refSplit_any s _).mono ?_)
  rintro e w3 ⟨bo, k, d, T, rfl, rb, hT, hk, hb3⟩
  rw [HX.out, HY.out]
  have hST := nm_inj (HS.out.trans hT.symm)
  subst hST
  obtain rfl : m = k := RA.out.1.symm.trans rb.1
  have HB3 := hide (HB2.out.trans (hb3.mono HB2.out.size))
  have R3 := hide (R2.out.below hb3)
  have RA3 := hide (RA.out.below hb3)
  have RB := hide rb
  clear hb3 rb hT HX HY HS
  have z1 := bool_self x
  go_wp2_with (go_at_call 16; refine (refSame_self ao bo m c d S _ RA3.out RB.out (by omega)).mono ?_)
  rintro e w4 ⟨rfl, q, rfl⟩
  go_wp2_with (go_at_call 21; refine (Join_any a0 n c0 l _ (R3.out.drewN q) (by omega) HJ.out).mono ?_)
  rintro e w5 ⟨rfl, hb5⟩
  have R5 := hide ((R3.out.drewN q).below hb5)
  have HB5 := hide ((below_drewN HB3.out q).trans (hb5.mono (below_drewN HB3.out q).size))
  clear hb5
  go_wp2_with (go_at_call 22; refine (refJoin_any a0 n c0 l _ R5.out (by omega) HJ.out).mono ?_)
  rintro e w6 ⟨rfl, rfl⟩
  go_wp2
  go_ret
  exact ⟨rfl, HB5.out⟩
end Go.Proofs.Ytlaeplfbkpjpgaa

/- Layer 6: the walks of NameRows and NameTotal. -/
import Derived.Test.YtlaeplfbkpjpgaaNamShown
namespace Go.Proofs.Ytlaeplfbkpjpgaa
set_option linter.unusedVariables false
open Go.RowKit Go.Maps
open Nam

/-- Three rows of names lie in the world, of which all that was there in w is as it was. -/
def Ok (w : World) (a b c : Option Addr × Nat × List ByteArray) (w' : World) : Prop := Below w.heap.size w w' ∧ Rs w' a.1 a.2.1 a.2.2 ∧ Rs w' b.1 b.2.1 b.2.2 ∧ Rs w' c.1 c.2.1 c.2.2
theorem Ok.drew {w w' w2 : World} {a b c : Option Addr × Nat × List ByteArray} (h : Hid (Ok w a b c w')) (hq : ∃ q, w2 = w'.drewN q) : Hid (Ok w a b c w2) := by
  obtain ⟨q, rfl⟩ := hq
  exact ⟨below_drewN h.out.1 q, h.out.2.1.drewN q, h.out.2.2.1.drewN q, h.out.2.2.2.drewN q⟩
theorem bool_eq_self (b : Bool) : (b == b) = true := by cases b <;> rfl
set_option maxRecDepth 100000 in
theorem rows_walk (a0 : Option Addr) (n0 c0 : Nat) (l0 : List ByteArray) (a1 : Option Addr) (n1 c1 : Nat) (l1 : List ByteArray) (w : World) (h0 : Rs w a0 n0 l0) (h0c : n0 ≤ c0) (h0m : c0 ≤ 9223372036854775807) (h0s : ∀ s ∈ l0, s.size ≤ 9223372036854775807)
    (h1 : Rs w a1 n1 l1) (h1c : n1 ≤ c1) (h1m : c1 ≤ 9223372036854775807) (h1s : ∀ s ∈ l1, s.size ≤ 9223372036854775807) :
    Calls Try.prog 4 #[.slice a0 n0 c0, .slice a1 n1 c1] w fun e w' => e = .returned (.bool true) ∧ Below w.heap.size w w' := by
  clear h0s h1s
  go_enter Try.func4, Try.ntmps4
  go_wp2_with (go_at_call 9; refine (shown_any w).mono ?_)
  rintro e w1 ⟨rfl, hb1⟩
  replace h0 := h0.below hb1
  replace h1 := h1.below hb1
  have HB := hide hb1
  clear hb1
  go_wp2_with (go_at_call 12; refine (few_any a0 n0 c0 l0 w1 h0 h0c h0m).mono ?_)
  rintro e w' ⟨m0, rfl, r0, q0, t0, rfl⟩
  clear h0 h0c
  generalize l0.take 30 = k0 at r0
  go_wp2_with (go_at_call 12; refine (few_any a1 n1 c1 l1 _ h1 h1c h1m).mono ?_)
  rintro e w' ⟨m1, rfl, r1, q1, t1, rfl⟩
  clear h1 h1c
  generalize l1.take 30 = k1 at r1
  have H : Hid (Ok w (a0, m0, k0) (a1, m1, k1) (a1, m1, k1) w') := ⟨HB.out, r0, r1, r1⟩
  clear r0 r1 HB
  have z := bool_eq_self (less (nm k0) (nm k1))
  go_wp2_with (go_at_call 13; refine (Less_any a0 a1 m0 c0 m1 c1 k0 k1 _ H.out.2.1 H.out.2.2.1 (by omega) (by omega)).mono ?_)
  rintro e w2 ⟨rfl, hq⟩
  replace H := Ok.drew H hq
  clear hq
  go_wp2_with (go_at_call 14; refine (refLess_any a0 a1 m0 c0 m1 c1 k0 k1 _ H.out.2.1 H.out.2.2.1 (by omega) (by omega)).mono ?_)
  rintro e w3 ⟨rfl, hq⟩
  replace H := Ok.drew H hq
  clear hq
  go_wp2_with (go_at_call 13; refine (Less_any a1 a0 m1 c1 m0 c0 k1 k0 _ H.out.2.2.1 H.out.2.1 (by omega) (by omega)).mono ?_)
  rintro e w4 ⟨rfl, hq⟩
  replace H := Ok.drew H hq
  clear hq
  go_wp2_with (go_at_call 14; refine (refLess_any a1 a0 m1 c1 m0 c0 k1 k0 _ H.out.2.2.1 H.out.2.1 (by omega) (by omega)).mono ?_)
  rintro e w5 ⟨rfl, hq⟩
  replace H := Ok.drew H hq
  clear hq
  go_wp2_with (go_at_call 15; refine (Same_any a0 a1 m0 c0 m1 c1 k0 k1 _ H.out.2.1 H.out.2.2.1 (by omega) (by omega)).mono ?_)
  rintro e w6 ⟨rfl, hq⟩
  replace H := Ok.drew H hq
  clear hq
  go_wp2_with (go_at_call 16; refine (refSame_any a0 a1 m0 c0 m1 c1 k0 k1 _ H.out.2.1 H.out.2.2.1 (by omega) (by omega)).mono ?_)
  rintro e w7 ⟨rfl, hq⟩
  replace H := Ok.drew H hq
  clear hq
  go_wp2_with (go_at_call 17; refine (Below_any a0 a1 m0 c0 m1 c1 k0 k1 _ H.out.2.1 H.out.2.2.1 (by omega) (by omega) q0 h0m).mono ?_)
  rintro e w8 ⟨rfl, hq⟩
  replace H := Ok.drew H hq
  clear hq
  go_wp2_with (go_at_call 18; refine (refBelow_any a0 a1 m0 c0 m1 c1 k0 k1 _ H.out.2.1 H.out.2.2.1 (by omega) (by omega) q0 h0m).mono ?_)
  rintro e w9 ⟨rfl, hq⟩
  replace H := Ok.drew H hq
  clear hq
  go_wp2
  go_ret
  exact ⟨rfl, H.out.1⟩
end Go.Proofs.Ytlaeplfbkpjpgaa

/- Layer 11: two rows of numbers held against each other. -/
import Derived.Test.YtgkclldiphcogaaNums
import Derived.BigQuiet
namespace Go.Proofs.Ytgkclldiphcogaa
set_option linter.unusedVariables false
open Go.RowKit Go.Maps
open Lz (g)

theorem numsSame_any (a b : Option Addr) (n m c d : Nat) (l k : List Int) (w : World) (ha : Zs w a n l) (hb : Zs w b m k) (hn : n ≤ 1000000) (hm : m ≤ 1000000) (q : Bool) (hq : decide (l = k) = q) :
    Calls Try.prog 9 #[.slice a n c, .slice b m d] w fun e w' => e = .returned (.bool q) ∧ ∃ j, w' = w.drewN j := by
  have hl := ha.1
  have hk := hb.1
  by_cases e : n = m
  · subst e
    have HA := hide ha
    have HB := hide hb
    have HQ : Hid (decide (l.drop 0 = k.drop 0) = q) := by rw [List.drop_zero, List.drop_zero]; exact hq
    clear ha hb hq
    go_enter Try.func9, Try.ntmps9
    go_wp2
    go_loopw [5] (fun r wr => ∃ i j : Nat, r = .int .i64 i ∧ i ≤ n ∧ wr = w.drewN j ∧ Hid (decide (l.drop i = k.drop i) = q)) (fun r _ => n - (intOf r).toNat)
    case atStart => exact ⟨0, 0, rfl, Nat.zero_le _, rfl, HQ⟩
    case round =>
      obtain ⟨i, j, rfl, hi, rfl, HI⟩ := hrel
      by_cases hp : i < n
      · obtain ⟨b1, o1, rfl, hb1, hc1⟩ := HA.out.at (by omega)
        obtain ⟨b2, o2, rfl, hb2, hc2⟩ := HB.out.at (by omega)
        have c1 := hc1 i hp
        have c2 := hc2 i hp
        have hd : (i : Int) < (n : Int) := by omega
        have HS1 : Hid (l.drop i = g l i :: l.drop (i + 1)) := by
          have := List.drop_eq_getElem_cons (l := l) (i := i) (by omega)
          rw [← g_get l i (by omega)] at this
          exact this
        have HS2 : Hid (k.drop i = g k i :: k.drop (i + 1)) := by
          have := List.drop_eq_getElem_cons (l := k) (i := i) (by omega)
          rw [← g_get k i (by omega)] at this
          exact this
        clear hc1 hc2
        generalize g l i = A at *
        generalize g k i = B at *
        by_cases hx : A = B
        · subst hx
          go_wp2
          go_quiet (fail)
          go_wp2
          go_roundw
          case rel => exact ⟨i + 1, _, rfl, by omega, rfl, by show _ = _; have := HI.out; rw [HS1.out, HS2.out] at this; rw [← this]; simp⟩
          case measure => simp [intOf]; omega
        · have HF : Hid (false = q) := by show _ = _; have := HI.out; rw [HS1.out, HS2.out] at this; rw [← this]; simp [hx]
          go_wp2
          go_quiet (fail)
          go_wp2
          go_ret
          exact ⟨ret_bool HF.out, dr2 _ _ _⟩
      · obtain rfl : i = n := by omega
        go_wp2
        go_ret
        exact ⟨ret_bool (by have := HI.out; rw [List.drop_of_length_le (by omega), List.drop_of_length_le (by omega)] at this; rw [← this]; simp), j, rfl⟩
  · have hne : ((n : Int) != (m : Int)) = true := by simp; omega
    have hq' : q = false := by rw [← hq]; simp; intro h; rw [h] at hl; omega
    go_enter Try.func9, Try.ntmps9
    go_wp2
    go_ret
    exact ⟨ret_bool hq'.symm, 0, rfl⟩
end Go.Proofs.Ytgkclldiphcogaa

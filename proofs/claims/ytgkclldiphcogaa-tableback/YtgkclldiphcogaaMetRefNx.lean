/- The walks of the reference's reader's Next, and of its Read where the arguments or the places are wrong. -/
import Derived.Test.YtgkclldiphcogaaMetRefRd
namespace Go.Proofs.Ytgkclldiphcogaa
set_option linter.unusedVariables false
open Go.RowKit Go.Maps
open Lz (g)
open Crc (ent)
open Frm Mtr

theorem yReadNeg_any (y : Nat) (ref n : Int) (w : World) (hq : -9223372036854775808 ≤ ref ∧ ref ≤ 9223372036854775807) (hn : -9223372036854775808 ≤ n ∧ n ≤ 9223372036854775807) (h : ref < 0 ∨ n < 0) :
    Calls Try.prog 46 #[.pointer (some ⟨y, 0, none⟩), .int .i64 ref, .int .i64 n] w fun r w' => r = .returned (.tuple #[.slice none 0 0, .int .i64 0, .int .i64 1]) ∧ w' = w := by
  by_cases h1 : ref < 0
  · go_enter Try.func46, Try.ntmps46
    go_wp2
    go_ret3
    exact ⟨rfl, rfl⟩
  · have h2 : n < 0 := by omega
    have g1 : decide (ref < 0) = false := by simp; omega
    go_enter Try.func46, Try.ntmps46
    go_wp2
    go_ret3
    exact ⟨rfl, rfl⟩
theorem yReadNot_any (y n0 c0 : Nat) (Im : List Int) (a b : Int) (ao0 : Option Addr) (ref n : Int) (w : World) (h : RdY w y Im a b ao0 n0 c0) (ha : -9223372036854775808 ≤ a ∧ a ≤ 9223372036854775807) (hb : -9223372036854775808 ≤ b ∧ b ≤ 9223372036854775807) (hno : ¬ (0 ≤ a ∧ b ≤ n0 ∧ a ≤ b)) (hq : 0 ≤ ref ∧ ref ≤ 9223372036854775807) (hn : 0 ≤ n ∧ n ≤ 9223372036854775807) :
    Calls Try.prog 46 #[.pointer (some ⟨y, 0, none⟩), .int .i64 ref, .int .i64 n] w fun r w' => r = .returned (.tuple #[.slice none 0 0, .int .i64 0, .int .i64 2]) ∧ Below w.heap.size w w' := by
  have g1 : decide (ref < 0) = false := by simp; omega
  have g2 : decide (n < 0) = false := by simp; omega
  have HM := hide (yMay_any y n0 c0 Im a b ao0 w h ha hb false (by symm; simpa using hno))
  clear h hno
  go_enter Try.func46, Try.ntmps46
  go_wp2_with fail
  refine HM.out.mono ?_
  rintro r w1 ⟨rfl, hb1⟩
  have HB := hide hb1
  clear hb1 HM
  go_wp2
  go_ret3
  exact ⟨rfl, HB.out⟩
theorem nxt_cut {Im : List Int} {a b : Nat} (hb : b ≤ Im.length) (k : Nat) :
    (if (skip ((Im.take b).drop a) k).2 = 0 then (256 * (skip ((Im.take b).drop a) k).1, (0 : Int)) else (0, 2)) = if (skip Im ((a + k : Nat) : Int)).2 ≠ 0 ∨ (b : Int) < (skip Im ((a + k : Nat) : Int)).1 then (0, 2) else (256 * ((skip Im ((a + k : Nat) : Int)).1 - a), 0) := by
  obtain ⟨h1, h2⟩ := skip_cut (a := a) hb k
  by_cases h : (skip ((Im.take b).drop a) k).2 = 0
  · obtain ⟨e1, e2, e3⟩ := h1 h
    rw [if_pos h, if_neg (fun hx => by
      rcases hx with hx | hx
      · exact hx e1
      · omega), e3]
    congr 1; omega
  · rw [if_neg h]
    by_cases h3 : (skip Im ((a + k : Nat) : Int)).2 = 0
    · have h4 : (b : Int) < (skip Im ((a + k : Nat) : Int)).1 := by
        have := h2 h3
        omega
      rw [if_pos (.inr h4)]
    · rw [if_pos (.inl h3)]
theorem skip_far {X : List Int} {k : Int} (h : (X.length : Int) < k) : (skip X k).2 = 2 := by
  unfold skip spot
  rw [if_pos (.inr (by omega))]
end Go.Proofs.Ytgkclldiphcogaa

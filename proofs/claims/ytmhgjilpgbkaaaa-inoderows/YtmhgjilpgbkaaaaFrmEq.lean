/- Two arrays of three bytes, held against each other. -/
import Derived.Test.YtmhgjilpgbkaaaaFrmPlain
import Derived.Stop.BytesEq
namespace Go.Proofs.Ytmhgjilpgbkaaaa
set_option linter.unusedVariables false
open Go.RowKit Go.Maps

def a3 (x y z : Int) : Array Value := #[.int .u8 x, .int .u8 y, .int .u8 z]
theorem part3 (w : World) (x y z : Int) (i : Nat) (v : Int) (hv : (a3 x y z)[i]? = some (.int .u8 v)) : (part 5 (a3 x y z) i).run Try.prog w = .ok (.int .u8 v) w := by
  simp [part, isAgg, run_underlying Try.underlying5, hv]
theorem equalIn3 (w : World) (d : Nat) (x y z x' y' z' : Int) : (Op.equalIn (d + 2) 109 (.agg (a3 x y z)) (.agg (a3 x' y' z'))).run Try.prog w = .ok (decide (x = x' ∧ y = y' ∧ z = z')) w := by
  have pe : ∀ a b : Int, (Op.equalIn (d + 1) 5 (.int .u8 a) (.int .u8 b)).run Try.prog w = .ok (a == b) w := fun a b => by
    rw [run_equalIn_int w d 5 .u8 .u8 _ _ Try.underlying5]
  rw [Op.equalIn]
  simp only [Sem.run_bind, run_underlying Try.underlying109, Result.andThen_ok, Try.sizeOf5, Std.Legacy.Range.forIn_eq_forIn_range', Std.Legacy.Range.size, Nat.sub_zero, Nat.add_sub_cancel, Nat.div_one]
  rw [show List.range' 0 3 1 = [0, 1, 2] from rfl]
  have q0 := fun w => part3 w x y z 0 x rfl
  have q1 := fun w => part3 w x y z 1 y rfl
  have q2 := fun w => part3 w x y z 2 z rfl
  have r0 := fun w => part3 w x' y' z' 0 x' rfl
  have r1 := fun w => part3 w x' y' z' 1 y' rfl
  have r2 := fun w => part3 w x' y' z' 2 z' rfl
  generalize a3 x y z = A at *
  generalize a3 x' y' z' = B at *
  simp only [List.forIn_cons, Sem.run_bind, Result.andThen_ok, Nat.mul_one, q0, r0, pe]
  by_cases h0 : x = x'
  · by_cases h1 : y = y'
    · by_cases h2 : z = z'
      · simp [h0, h1, h2, q1, q2, r1, r2, pe]
      · simp [h0, h1, h2, q1, q2, r1, r2, pe]
    · simp [h0, h1, q1, r1, pe]
  · simp [h0]
theorem neq3 (w : World) (x y z x' y' z' : Int) : (binOp .neq 109 (.agg #[.int .u8 x, .int .u8 y, .int .u8 z]) (.agg #[.int .u8 x', .int .u8 y', .int .u8 z'])).run Try.prog w = .ok (.bool (!decide (x = x' ∧ y = y' ∧ z = z'))) w := by
  have := equalIn3 w 9998 x y z x' y' z'
  unfold a3 at this
  rw [run_neq_struct, this]
  rfl
end Go.Proofs.Ytmhgjilpgbkaaaa

/- The walk of the reference's Unpack: packed bytes are unpacked, or refused, as the document says. -/
import Derived.Test.YtaobfoenopccjabUnpack2
namespace Go.Proofs.Ytaobfoenopccjab
set_option linter.unusedVariables false
open Go.RowKit Go.Maps
open Lz (g cp up unpack)

theorem up_at (most : Int) (zs ys : List Int) (a n len : Nat) (hz : zs.length = len) (ha : a < len) (hy : ys.length = n) : up most (zs.drop a) ys =
      if g zs a < 128 then
        if (len : Int) - a - 1 < g zs a + 1 then ([], 2) else
        if most - n < g zs a + 1 then ([], 3) else up most (zs.drop (a + ((g zs a).toNat + 2))) (ys ++ ((zs.take (a + (g zs a).toNat + 2)).drop (a + 1)))
      else
        if (len : Int) - a < 2 ∨ (n : Int) < g zs (a + 1) + 1 then ([], 2) else
        if most - n < g zs a - 125 then ([], 3) else up most (zs.drop (a + 2)) (cp ((g zs (a + 1)).toNat + 1) (g zs a - 125).toNat ys) := by
  have hlen : (zs.drop a).length = len - a := by simp [hz]
  rw [Lz.up_step most (zs.drop a) ys (by omega), hlen, hy, Lz.g_drop, Lz.g_drop, Nat.add_zero]
  have e1 : (((len - a : Nat) : Int) < g zs a + 2) = ((len : Int) - a - 1 < g zs a + 1) := by apply propext; constructor <;> intro h <;> omega
  have e2 : (len - a < 2 ∨ (n : Int) < g zs (a + 1) + 1) = ((len : Int) - a < 2 ∨ (n : Int) < g zs (a + 1) + 1) := by apply propext; constructor <;> intro h <;> omega
  have e3 : List.drop 1 (List.take ((g zs a).toNat + 2) (List.drop a zs)) = (zs.take (a + (g zs a).toNat + 2)).drop (a + 1) := by
    rw [List.take_drop, List.drop_drop]; congr 2
  simp only [e1, e2, e3, List.drop_drop]

end Go.Proofs.Ytaobfoenopccjab

import Derived.Test.YtoohanojfoichaaGreatDoorOJSupPure
import Derived.ProofKit
import Derived.OpenShut
import Derived.ChangeArms
import Derived.Lib.LaidTab
import Derived.LaidMore
import Derived.Stop.Joined
set_option linter.unusedVariables false
namespace Go.Proofs.YtoohanojfoichaaGreatDoor
set_option maxRecDepth 100000
open Go.RowKit Go.Maps Go.ChangeShapes Go.WideShapes Go.ChangeAt
open Sup
theorem gWid : Tryz.prog.globalNamed "lamella/super.widths" = some 0 := by kernel_rfl
theorem tWid : (Tryz.prog.globals[0]?).map (·.type) = some 112 := by kernel_rfl
def laid1 : List (String × DataW Unit) := [("lamella/super.widths", Rows.laid_lamella_super_widths)]
theorem wid_of_laid {W : World} (h : laidMetH Tryz.prog laid1 W) : Wid W := by
 rw [MakeChecks.laidMetH_plain _ _ _ (by kernel_rfl)] at h
 have ht : Lib.TabIs Tryz.prog W "lamella/super.widths" .i64 [4, 4, 4, 4, 4, 4, 4, 2, 2, 2] :=
  Lib.tabIs_of_head gWid tWid Tryz.underlying112 Tryz.underlying3 (by kernel_rfl) (by kernel_rfl) h
 unfold Lib.TabIs World.var? at ht
 rw [gWid] at ht
 simp only [Option.bind_some] at ht
 cases hc : W.heap[0]? with
 | none => rw [hc] at ht; simp at ht
 | some o =>
  cases o with
  | cells cs t fz =>
   rw [hc] at ht
   obtain rfl := Option.some.inj ht
   exact ⟨t, fz, hc⟩
  | _ => rw [hc] at ht; simp at ht
theorem door_met (os : Os) (args : Array Value) : laidMetH Tryz.prog laid1 ((World.doorLaid Tryz.prog 14 os).forCall (fun _ _ => 0) ⟨#[], args, []⟩).memory :=
 laidMetH_of_parts3 (fuel := 8) (laidMet_of_run' 8 (by kernel_rfl) (by kernel_rfl)) (by kernel_rfl) (by kernel_rfl)
end Go.Proofs.YtoohanojfoichaaGreatDoor

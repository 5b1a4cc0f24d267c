/- Layer 8: a superblock that came in, opened; what the package variable holds, out of the row's condition. -/
import Derived.Test.YthghodmjpdooaaaDoorSupBlock
import Derived.ProofKit
import Derived.OpenShut
import Derived.ChangeArms
import Derived.Lib.LaidTab
import Derived.LaidMore
import Derived.Stop.Joined
namespace Go.Proofs.YthghodmjpdooaaaDoor
set_option linter.unusedVariables false
set_option maxRecDepth 100000
open Go.RowKit Go.Maps Go.ChangeShapes Go.WideShapes Go.ChangeAt
open Sup

/-- A superblock that came in. -/
theorem open_super {H : Type} {enc : TypeId × Value → H} {W : World} {base : Nat} {v : Value} {d : DataW H} {p : List MemPlace} (hok : Value.okWide Tryd.prog W .any base 23 v)
    (h : DataW.Trod enc Tryd.prog W 0 (fun _ => true) true 23 v d p) : ∃ s, v = .agg (sv s) := by
  unfold Value.okWide at hok
  rw [Tryd.underlying23] at hok
  obtain ⟨cs, rfl, hsz, _⟩ := hok
  obtain ⟨fuel, hf⟩ := h
  have ci : Tryd.prog.cellsOf 3 = 1 := by kernel_rfl
  have ce : Tryd.prog.cellsOf 23 = 10 := by kernel_rfl
  obtain ⟨xs, k, hk, hxy, hlen, hxl, hfld⟩ := DataW.trod_struct Tryd.underlying23 hf
  rw [ce] at hlen
  have e : (Value.agg cs).cells.toList = cs.toList := by simp [Value.cells]
  rw [e] at hfld hlen
  obtain ⟨l⟩ := cs
  simp only at hlen hfld
  match xs, hxl, l, hlen with
  | [y0, y1, y2, y3, y4, y5, y6, y7, y8, y9], _, [v0, v1, v2, v3, v4, v5, v6, v7, v8, v9], _ =>
    have g0 := hfld 0 _ rfl
    have g1 := hfld 1 _ rfl
    have g2 := hfld 2 _ rfl
    have g3 := hfld 3 _ rfl
    have g4 := hfld 4 _ rfl
    have g5 := hfld 5 _ rfl
    have g6 := hfld 6 _ rfl
    have g7 := hfld 7 _ rfl
    have g8 := hfld 8 _ rfl
    have g9 := hfld 9 _ rfl
    simp [ci] at g0 g1 g2 g3 g4 g5 g6 g7 g8 g9
    obtain ⟨a0, q0, _⟩ := DataW.trod_int Tryd.underlying3 g0
    obtain ⟨a1, q1, _⟩ := DataW.trod_int Tryd.underlying3 g1
    obtain ⟨a2, q2, _⟩ := DataW.trod_int Tryd.underlying3 g2
    obtain ⟨a3, q3, _⟩ := DataW.trod_int Tryd.underlying3 g3
    obtain ⟨a4, q4, _⟩ := DataW.trod_int Tryd.underlying3 g4
    obtain ⟨a5, q5, _⟩ := DataW.trod_int Tryd.underlying3 g5
    obtain ⟨a6, q6, _⟩ := DataW.trod_int Tryd.underlying3 g6
    obtain ⟨a7, q7, _⟩ := DataW.trod_int Tryd.underlying3 g7
    obtain ⟨a8, q8, _⟩ := DataW.trod_int Tryd.underlying3 g8
    obtain ⟨a9, q9, _⟩ := DataW.trod_int Tryd.underlying3 g9
    simp at q0 q1 q2 q3 q4 q5 q6 q7 q8 q9
    subst q0 q1 q2 q3 q4 q5 q6 q7 q8 q9
    exact ⟨⟨a0, a1, a2, a3, a4, a5, a6, a7, a8, a9⟩, rfl⟩
theorem gWid : Tryd.prog.globalNamed "lamella/super.widths" = some 0 := by kernel_rfl
theorem tWid : (Tryd.prog.globals[0]?).map (·.type) = some 65 := by kernel_rfl
/-- The program's own initialiser lays the widths; what the row lists. -/
def laid1 : List (String × DataW Unit) := [("lamella/super.widths", Rows.laid_lamella_super_widths)]
theorem wid_of_laid {W : World} (h : laidMetH Tryd.prog laid1 W) : Wid W := by
  rw [MakeChecks.laidMetH_plain _ _ _ (by kernel_rfl)] at h
  have ht : Lib.TabIs Tryd.prog W "lamella/super.widths" .i64 [4, 4, 4, 4, 4, 4, 4, 2, 2, 2] :=
    Lib.tabIs_of_head gWid tWid Tryd.underlying65 Tryd.underlying3 (by kernel_rfl) (by kernel_rfl) h
  unfold Lib.TabIs World.var? at ht
  rw [gWid] at ht
  simp only [Option.bind_some] at ht
  cases hc : W.heap[0]? with
  | none => rw [hc] at ht; simp at ht
  | some o =>
    cases o with
    | cells cs t fz =>
      rw [hc] at ht
      obtain rfl := Option.some.inj ht
      exact ⟨t, fz, hc⟩
    | _ => rw [hc] at ht; simp at ht
/-- The heap that the initialisers leave meets the row's condition. -/
theorem door_met (os : Os) (args : Array Value) : laidMetH Tryd.prog laid1 ((World.doorLaid Tryd.prog 14 os).forCall (fun _ _ => 0) ⟨#[], args, []⟩).memory :=
  laidMetH_of_parts3 (fuel := 8) (laidMet_of_run' 8 (by kernel_rfl) (by kernel_rfl)) (by kernel_rfl) (by kernel_rfl)
end Go.Proofs.YthghodmjpdooaaaDoor

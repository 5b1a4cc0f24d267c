/- Layer 9: the document's example holds: what stands at the head of each statement; a record that came in, opened. -/
import Derived.Test.YtmhgjilpgbkaaaaInoPut
import Derived.ProofKit
import Derived.OpenShut
namespace Go.Proofs.Ytmhgjilpgbkaaaa
set_option linter.unusedVariables false
open Go.RowKit Go.Maps Go.ChangeShapes Go.WideShapes Go.ChangeAt
open Lz (g)
open Cur
open Ino

namespace Ino
def exRec : Rec := ⟨3, 0, 0, 0, 1, 0, 0, 0, 0, 0, ⟨#[97, 98]⟩⟩
theorem ex_may : exRec.may = true := by
  unfold Rec.may Rec.headOk Rec.ownOk
  rw [if_neg (by decide), if_neg (by decide), if_pos (by decide)]
  unfold Rec.linkOk
  decide
theorem ex_put : putB exRec = [3, 0, 0, 0, 0, 0, 0, 1, 0, 0, 0, 0, 0, 2, 97, 98] := by
  unfold putB ownB headB
  rw [if_neg (by decide), if_neg (by decide), if_pos (by decide)]
  decide
end Ino
set_option maxRecDepth 100000 in
theorem shown_any (w : World) : Calls Try.prog 9 #[] w fun r w' => r = .returned (.bool true) ∧ Below w.heap.size w w' := by
  have HP := hide (iPut_any exRec w)
  unfold PutAns at HP
  rw [ex_may, ex_put] at HP
  unfold iv exRec at HP
  go_enter Try.func9, Try.ntmps9
  go_wp2_with fail
  refine HP.out.mono ?_
  rintro r w1 (⟨_, ao, c, rfl, hN⟩ | ⟨h, _⟩)
  rotate_left
  · cases h
  have hs : (convert 25 9 (.slice ao 16 c)).run Try.prog w1 = _ := str_any hN.bs c
  have e : strOfNums [3, 0, 0, 0, 0, 0, 0, 1, 0, 0, 0, 0, 0, 2, 97, 98] = ⟨#[3, 0, 0, 0, 0, 0, 0, 1, 0, 0, 0, 0, 0, 2, 97, 98]⟩ := rfl
  rw [e] at hs
  have HB1 := hide hN.bel
  clear hN e HP
  go_wp2
  go_ret
  exact ⟨rfl, HB1.out⟩
set_option maxRecDepth 100000 in
/-- A record that came in. -/
theorem open_inode {H : Type} {enc : TypeId × Value → H} {W : World} {base : Nat} {v : Value} {d : DataW H} {p : List MemPlace} (hok : Value.okWide Try.prog W .any base 23 v)
    (h : DataW.Trod enc Try.prog W 0 (fun _ => true) true 23 v d p) : ∃ s : Rec, v = .agg (iv s) ∧ (s.In ∧ s.target.size ≤ 9223372036854775807) := by
  unfold Value.okWide at hok
  rw [Try.underlying23] at hok
  obtain ⟨cs, rfl, hsz, _⟩ := hok
  obtain ⟨fuel, hf⟩ := h
  have ci : Try.prog.cellsOf 3 = 1 := by kernel_rfl
  have c9 : Try.prog.cellsOf 9 = 1 := by kernel_rfl
  have ce : Try.prog.cellsOf 23 = 11 := by kernel_rfl
  obtain ⟨xs, k, hk, hxy, hlen, hxl, hfld⟩ := DataW.trod_struct Try.underlying23 hf
  rw [ce] at hlen
  have e : (Value.agg cs).cells.toList = cs.toList := by simp [Value.cells]
  rw [e] at hfld hlen
  obtain ⟨l⟩ := cs
  simp only at hlen hfld
  match xs, hxl, l, hlen with
  | [y0, y1, y2, y3, y4, y5, y6, y7, y8, y9, y10], _, [v0, v1, v2, v3, v4, v5, v6, v7, v8, v9, v10], _ =>
    have g0 := hfld 0 _ rfl
    have g1 := hfld 1 _ rfl
    have g2 := hfld 2 _ rfl
    have g3 := hfld 3 _ rfl
    have g4 := hfld 4 _ rfl
    have g5 := hfld 5 _ rfl
    have g6 := hfld 6 _ rfl
    have g7 := hfld 7 _ rfl
    have g8 := hfld 8 _ rfl
    have g9 := hfld 9 _ rfl
    have g10 := hfld 10 _ rfl
    simp [ci, c9] at g0 g1 g2 g3 g4 g5 g6 g7 g8 g9 g10
    obtain ⟨a0, q0, _, x0⟩ := DataW.trod_int Try.underlying3 g0
    obtain ⟨a1, q1, _, x1⟩ := DataW.trod_int Try.underlying3 g1
    obtain ⟨a2, q2, _, x2⟩ := DataW.trod_int Try.underlying3 g2
    obtain ⟨a3, q3, _, x3⟩ := DataW.trod_int Try.underlying3 g3
    obtain ⟨a4, q4, _, x4⟩ := DataW.trod_int Try.underlying3 g4
    obtain ⟨a5, q5, _, x5⟩ := DataW.trod_int Try.underlying3 g5
    obtain ⟨a6, q6, _, x6⟩ := DataW.trod_int Try.underlying3 g6
    obtain ⟨a7, q7, _, x7⟩ := DataW.trod_int Try.underlying3 g7
    obtain ⟨a8, q8, _, x8⟩ := DataW.trod_int Try.underlying3 g8
    obtain ⟨a9, q9, _, x9⟩ := DataW.trod_int Try.underlying3 g9
    obtain ⟨a10, q10, _, x10⟩ := DataW.trod_string Try.underlying9 g10
    simp at q0 q1 q2 q3 q4 q5 q6 q7 q8 q9 q10
    subst q0 q1 q2 q3 q4 q5 q6 q7 q8 q9 q10
    exact ⟨⟨a0, a1, a2, a3, a4, a5, a6, a7, a8, a9, a10⟩, rfl, ⟨wf_i64_bd x0, wf_i64_bd x1, wf_i64_bd x2, wf_i64_bd x3, wf_i64_bd x4, wf_i64_bd x5, wf_i64_bd x6, wf_i64_bd x7, wf_i64_bd x8, wf_i64_bd x9⟩, by unfold maxLen at x10; omega⟩
end Go.Proofs.Ytmhgjilpgbkaaaa

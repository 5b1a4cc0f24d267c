/- Layer 11: what came in, opened: nodes whose owners are numbers; attributes; rows of attributes; asks. -/
import Derived.Test.YtgkclldiphcogaaTabIDs
import Derived.Test.YtgkclldiphcogaaTreOpen
namespace Go.Proofs.Ytgkclldiphcogaa
set_option linter.unusedVariables false
set_option maxRecDepth 100000
open Go.RowKit Go.Maps Go.ChangeShapes Go.WideShapes Go.ChangeAt
open Nam Tre Tab
open Lz (g)

section
variable {H : Type} {enc : TypeId × Value → H} {W : World} {fuel : Nat} {cs : List Value} {y : DataW H × List MemPlace}
theorem attr_trodw (hf : DataW.trod enc Try.prog W 0 (fun _ => true) true fuel 64 cs = some y) : ∃ a b c : Int, cs = [.int .i64 a, .int .i64 b, .int .i64 c] ∧ (Lit.int .i64 b).wf = true ∧ (Lit.int .i64 c).wf = true := by
  have c3 : Try.prog.cellsOf 3 = 1 := by kernel_rfl
  have ce : Try.prog.cellsOf 64 = 3 := by kernel_rfl
  obtain ⟨xs, k, hk, hxy, hlen, hxl, hfld⟩ := DataW.trod_struct Try.underlying64 hf
  rw [ce] at hlen
  match xs, hxl, cs, hlen with
  | [y0, y1, y2], _, [v0, v1, v2], _ =>
    have g0 := hfld 0 _ rfl
    have g1 := hfld 1 _ rfl
    have g2 := hfld 2 _ rfl
    simp [c3] at g0 g1 g2
    obtain ⟨n0, q0, _, w0⟩ := DataW.trod_int Try.underlying3 g0
    obtain ⟨n1, q1, _, w1⟩ := DataW.trod_int Try.underlying3 g1
    obtain ⟨n2, q2, _, w2⟩ := DataW.trod_int Try.underlying3 g2
    simp at q0 q1 q2
    subst q0 q1 q2
    exact ⟨n0, n1, n2, rfl, w1, w2⟩
theorem nod_trodw (hf : DataW.trod enc Try.prog W 0 (fun _ => true) true fuel 67 cs = some y) : ∃ v0 v1 v2 v3 a b v6 v7 v8 v9, cs = [v0, v1, v2, v3, .int .i64 a, .int .i64 b, v6, v7, v8, v9] ∧ (Lit.int .i64 a).wf = true ∧ (Lit.int .i64 b).wf = true := by
  have c38 : Try.prog.cellsOf 64 = 3 := by kernel_rfl
  have ce : Try.prog.cellsOf 67 = 10 := by kernel_rfl
  obtain ⟨xs, k, hk, hxy, hlen, hxl, hfld⟩ := DataW.trod_struct Try.underlying67 hf
  rw [ce] at hlen
  match xs, hxl, cs, hlen with
  | [y0, y1, y2, y3, y4, y5, y6, y7], _, [v0, v1, v2, v3, v4, v5, v6, v7, v8, v9], _ =>
    have g3 := hfld 3 _ rfl
    simp [c38] at g3
    obtain ⟨a, b, c, q3, w1, w2⟩ := attr_trodw g3
    simp at q3
    obtain ⟨rfl, rfl, rfl⟩ := q3
    exact ⟨_, _, _, _, _, _, _, _, _, _, rfl, w1, w2⟩
end
/-- A slice of nodes that came in: their owners are numbers. -/
theorem open_nodesw {H : Type} {enc : TypeId × Value → H} {W : World} {base : Nat} {v : Value} {d : DataW H} {p : List MemPlace} (hok : Value.okWide Try.prog W .any base 22 v)
    (h : DataW.Trod enc Try.prog W 0 (fun _ => true) true 22 v d p) : ∃ a len cap L, v = .slice a len cap ∧ Ns W a len L ∧ Wf L ∧ len ≤ cap ∧ cap ≤ 9223372036854775807 := by
  obtain ⟨a, len, cap, L, rfl, hN, h1, h2⟩ := open_nodes hok h
  refine ⟨a, len, cap, L, rfl, hN, ?_, h1, h2⟩
  obtain ⟨fuel, hf⟩ := h
  rcases Deep.open_slice Try.underlying22 hf with ⟨hcs, _⟩ | ⟨x, l, c, m, n, D, Pl, hcs, _, hl, hm, hmm, _, hx⟩
  · simp [Value.cells] at hcs
    obtain ⟨rfl, rfl, rfl⟩ := hcs
    have : L = [] := List.eq_nil_of_length_eq_zero hN.1
    subst this
    intro q hq
    simp at hq
  · simp [Value.cells] at hcs
    obtain ⟨rfl, rfl, rfl⟩ := hcs
    have ce : Try.prog.cellsOf 67 = 10 := by kernel_rfl
    have hlm : len ≤ m := by rw [hmm]; simp; exact hl
    intro q hq
    obtain ⟨i, hi, rfl⟩ := List.getElem_of_mem hq
    have hil : i < len := by have := hN.1; omega
    obtain ⟨cs', e1, e2⟩ := hx i (by omega)
    rw [ce] at e1
    obtain ⟨_, hlen, hcell⟩ := World.cells?_some e1
    obtain ⟨v0, v1, v2, v3, ua, ub, v6, v7, v8, v9, rfl, w1, w2⟩ := nod_trodw e2
    obtain ⟨b, off, rfl', hb, hat⟩ := hN.at (by omega)
    obtain rfl := Option.some.inj rfl'
    have n4 := (hat i hil).c4
    have n5 := (hat i hil).c5
    have t4 := hcell 4 (by simp)
    have t5 := hcell 5 (by simp)
    rw [Deep.add_add, Addr.add_lit, ← Nat.add_assoc] at t4 t5
    rw [n4] at t4
    rw [n5] at t5
    simp at t4 t5
    rw [gl_lt L i hi] at t4 t5
    rw [t4, t5]
    exact ⟨w1, w2⟩
/-- A slice of attributes that came in. -/
theorem open_xats {H : Type} {enc : TypeId × Value → H} {W : World} {base : Nat} {v : Value} {d : DataW H} {p : List MemPlace} (hok : Value.okWide Try.prog W .any base 28 v)
    (h : DataW.Trod enc Try.prog W 0 (fun _ => true) true 28 v d p) : ∃ a len cap l, v = .slice a len cap ∧ XsR W a len l ∧ len ≤ cap ∧ cap ≤ 9223372036854775807 ∧ (a = none → cap = 0) := by
  obtain ⟨a, len, cap, rfl⟩ := okWide_slice Try.underlying28 hok
  obtain ⟨fuel, hf⟩ := h
  obtain ⟨a', len', cap', l, hcs, r⟩ := xs_trod hf
  simp [Value.cells] at hcs
  obtain ⟨rfl, rfl, rfl⟩ := hcs
  exact ⟨_, _, _, l, rfl, r⟩
end Go.Proofs.Ytgkclldiphcogaa

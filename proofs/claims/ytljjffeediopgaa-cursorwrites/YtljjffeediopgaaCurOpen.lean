/- A slice of calls and a slice of ints that came in, opened. -/
import Derived.Test.YtljjffeediopgaaCurState
import Derived.Deep.SlicePairs
import Derived.ProofKit
namespace Go.Proofs.Ytljjffeediopgaa
set_option linter.unusedVariables false
open Go.RowKit Go.Maps Go.ChangeShapes Go.WideShapes Go.ChangeAt
open Lz (g)

/-- A call: three numbers and a string. -/
structure OpR where
  kind : Int
  x : Int
  n : Int
  s : ByteArray
def In64 (x : Int) : Prop := -9223372036854775808 ≤ x ∧ x ≤ 9223372036854775807
/-- The calls in memory. -/
def OpsB (w : World) (a : Option Addr) (len cap : Nat) (O : Nat → OpR) : Prop :=
  len ≤ 9223372036854775807 ∧ (len = 0 ∨ ∃ b off, a = some ⟨b, off, none⟩ ∧ b < w.heap.size ∧ ∀ i, i < len →
    w.cell? ⟨b, off + i * 4, none⟩ = some (.int .i64 (O i).kind) ∧ w.cell? ⟨b, off + i * 4 + 1, none⟩ = some (.int .i64 (O i).x) ∧ w.cell? ⟨b, off + i * 4 + 2, none⟩ = some (.int .i64 (O i).n) ∧ w.cell? ⟨b, off + i * 4 + 3, none⟩ = some (.string (O i).s) ∧
    In64 (O i).kind ∧ In64 (O i).x ∧ In64 (O i).n ∧ (O i).s.size ≤ 9223372036854775807)
theorem OpsB.below {w w' : World} {a : Option Addr} {len cap : Nat} {O : Nat → OpR} (h : OpsB w a len cap O) (hb : Below w.heap.size w w') : OpsB w' a len cap O := by
  refine ⟨h.1, ?_⟩
  rcases h.2 with h0 | ⟨b, off, h1, h2, h3⟩
  · exact .inl h0
  · refine .inr ⟨b, off, h1, Nat.lt_of_lt_of_le h2 hb.size, fun i hi => ?_⟩
    obtain ⟨e0, e1, e2, e3, r⟩ := h3 i hi
    exact ⟨(hb.cell (by exact h2)).trans e0, (hb.cell (by exact h2)).trans e1, (hb.cell (by exact h2)).trans e2, (hb.cell (by exact h2)).trans e3, r⟩

theorem open_ops {H : Type} {enc : TypeId × Value → H} {W : World} {base : Nat} {v : Value} {d : DataW H} {p : List MemPlace} (hok : Value.okWide Try.prog W .any base 23 v)
    (h : DataW.Trod enc Try.prog W 0 (fun _ => true) true 23 v d p) : ∃ a len cap O, v = .slice a len cap ∧ OpsB W a len cap O := by
  obtain ⟨a, len, cap, rfl⟩ := okWide_slice Try.underlying23 hok
  obtain ⟨fuel, hf⟩ := h
  rcases Deep.open_slice Try.underlying23 hf with ⟨hcs, _⟩ | ⟨x, l, c, m, n, D, Pl, hcs, _, hl, hm, hmm, _, hx⟩
  · simp [Value.cells] at hcs
    obtain ⟨rfl, rfl, rfl⟩ := hcs
    exact ⟨none, 0, 0, fun _ => ⟨0, 0, 0, ByteArray.empty⟩, rfl, by omega, .inl rfl⟩
  · simp [Value.cells] at hcs
    obtain ⟨rfl, rfl, rfl⟩ := hcs
    have ce : Try.prog.cellsOf 33 = 4 := by kernel_rfl
    have c3 : Try.prog.cellsOf 3 = 1 := by kernel_rfl
    have c9 : Try.prog.cellsOf 9 = 1 := by kernel_rfl
    have hlm : len ≤ m := by rw [hmm]; simp; exact hl
    have each : ∀ i, i < len → ∃ o : OpR, W.cell? (x.add (i * 4)) = some (.int .i64 o.kind) ∧ W.cell? (x.add (i * 4 + 1)) = some (.int .i64 o.x) ∧ W.cell? (x.add (i * 4 + 2)) = some (.int .i64 o.n) ∧ W.cell? (x.add (i * 4 + 3)) = some (.string o.s) ∧
        In64 o.kind ∧ In64 o.x ∧ In64 o.n ∧ o.s.size ≤ 9223372036854775807 := by
      intro i hi
      obtain ⟨cs', h1, h2⟩ := hx i (by omega)
      rw [ce] at h1
      obtain ⟨_, hlen, hcell⟩ := World.cells?_some h1
      obtain ⟨xs, k, hk, hxy, _, hxl, hfld⟩ := DataW.trod_struct Try.underlying33 h2
      match xs, hxl, cs', hlen with
      | [y0, y1, y2, y3], _, [v0, v1, v2, v3], _ =>
        have g0 := hfld 0 _ rfl
        have g1 := hfld 1 _ rfl
        have g2 := hfld 2 _ rfl
        have g3 := hfld 3 _ rfl
        simp [c3, c9] at g0 g1 g2 g3
        have e0 := hcell 0 (by omega)
        have e1 := hcell 1 (by omega)
        have e2 := hcell 2 (by omega)
        have e3 := hcell 3 (by omega)
        rw [Deep.add_add] at e0 e1 e2 e3
        obtain ⟨n0, q0, _, w0⟩ := DataW.trod_int Try.underlying3 g0
        obtain ⟨n1, q1, _, w1⟩ := DataW.trod_int Try.underlying3 g1
        obtain ⟨n2, q2, _, w2⟩ := DataW.trod_int Try.underlying3 g2
        obtain ⟨s3, q3, _, w3⟩ := DataW.trod_string Try.underlying9 g3
        simp at q0 q1 q2 q3
        subst q0 q1 q2 q3
        exact ⟨⟨n0, n1, n2, s3⟩, by simpa using e0, by simpa using e1, by simpa using e2, by simpa using e3, wf_i64_bd w0, wf_i64_bd w1, wf_i64_bd w2, by unfold maxLen at w3; omega⟩
    obtain ⟨O, hO⟩ : ∃ O : Nat → OpR, ∀ i, i < len → W.cell? (x.add (i * 4)) = some (.int .i64 (O i).kind) ∧ W.cell? (x.add (i * 4 + 1)) = some (.int .i64 (O i).x) ∧ W.cell? (x.add (i * 4 + 2)) = some (.int .i64 (O i).n) ∧ W.cell? (x.add (i * 4 + 3)) = some (.string (O i).s) ∧
        In64 (O i).kind ∧ In64 (O i).x ∧ In64 (O i).n ∧ (O i).s.size ≤ 9223372036854775807 := by
      refine ⟨fun i => if h : i < len then (each i h).choose else ⟨0, 0, 0, ByteArray.empty⟩, fun i hi => ?_⟩
      simp only [dif_pos hi]
      exact (each i hi).choose_spec
    refine ⟨_, len, cap, O, rfl, by unfold maxLen at hm; omega, ?_⟩
    by_cases e : len = 0
    · exact .inl e
    · obtain ⟨b, off, spot⟩ := x
      have h00 := (hO 0 (by omega)).1
      have hspot : spot = none := by simpa [Addr.add] using World.cell?_spot h00
      subst hspot
      have hlt : b < W.heap.size := by
        have := World.block_lt_of_cell? W _ h00
        simpa [Addr.add] using this
      refine .inr ⟨b, off, rfl, hlt, fun i hi => ?_⟩
      have := hO i hi
      simp only [Addr.add_lit, ← Nat.add_assoc] at this
      exact this

/-- Numbers in memory. -/
def IntsB (w : World) (a : Option Addr) (len cap : Nat) (Z : Nat → Int) : Prop :=
  len ≤ 9223372036854775807 ∧ (len = 0 ∨ ∃ b off, a = some ⟨b, off, none⟩ ∧ b < w.heap.size ∧ ∀ i, i < len → w.cell? ⟨b, off + i, none⟩ = some (.int .i64 (Z i)) ∧ In64 (Z i))
theorem IntsB.below {w w' : World} {a : Option Addr} {len cap : Nat} {Z : Nat → Int} (h : IntsB w a len cap Z) (hb : Below w.heap.size w w') : IntsB w' a len cap Z := by
  refine ⟨h.1, ?_⟩
  rcases h.2 with h0 | ⟨b, off, h1, h2, h3⟩
  · exact .inl h0
  · exact .inr ⟨b, off, h1, Nat.lt_of_lt_of_le h2 hb.size, fun i hi => ⟨(hb.cell (by exact h2)).trans (h3 i hi).1, (h3 i hi).2⟩⟩
theorem open_ints' {H : Type} {enc : TypeId × Value → H} {W : World} {base : Nat} {v : Value} {d : DataW H} {p : List MemPlace} (hok : Value.okWide Try.prog W .any base 55 v)
    (h : DataW.Trod enc Try.prog W 0 (fun _ => true) true 55 v d p) : ∃ a len cap Z, v = .slice a len cap ∧ IntsB W a len cap Z := by
  obtain ⟨a, len, cap, rfl⟩ := okWide_slice Try.underlying55 hok
  obtain ⟨fuel, hf⟩ := h
  rcases open_ints Try.underlying55 Try.underlying3 (by kernel_rfl) hf with ⟨hcs, _⟩ | ⟨x, l, c, zs, hcs, _, hl, hm, hz, _, hcell, hwz⟩
  · simp [Value.cells] at hcs
    obtain ⟨rfl, rfl, rfl⟩ := hcs
    exact ⟨none, 0, 0, fun _ => 0, rfl, by omega, .inl rfl⟩
  · simp [Value.cells] at hcs
    obtain ⟨rfl, rfl, rfl⟩ := hcs
    have hz' : zs.length = cap := by simpa using hz
    refine ⟨_, len, cap, fun i => zs.getD i 0, rfl, by unfold maxLen at hm; omega, ?_⟩
    by_cases e : len = 0
    · exact .inl e
    · obtain ⟨b, off, spot⟩ := x
      have h00 := hcell 0 (by omega)
      have hspot : spot = none := by simpa [Addr.add] using World.cell?_spot h00
      subst hspot
      have hlt : b < W.heap.size := by
        have := World.block_lt_of_cell? W _ h00
        simpa [Addr.add] using this
      refine .inr ⟨b, off, rfl, hlt, fun i hi => ?_⟩
      have h1 := hcell i (by omega)
      rw [Addr.add_lit] at h1
      refine ⟨h1, wf_i64_bd (hwz _ ?_)⟩
      have hi2 : i < zs.length := by omega
      simp only [List.getD, List.getElem?_eq_getElem hi2, Option.getD_some]
      exact List.getElem_mem hi2
end Go.Proofs.Ytljjffeediopgaa

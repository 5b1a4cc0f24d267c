/- Layer 12: a slice of asks (five numbers each) that came in, opened. -/
import Derived.Test.YtifmikdknifcoaaBase
import Derived.Deep.SlicePairs
import Derived.ProofKit
import Derived.OpenShut
namespace Go.Proofs.Ytifmikdknifcoaa
set_option linter.unusedVariables false
set_option maxRecDepth 100000
open Go.RowKit Go.Maps Go.ChangeShapes Go.WideShapes Go.ChangeAt
open Lz (g)

/-- An ask. -/
structure Ask5 where
  start : Int
  size : Int
  off : Int
  n : Int
  fin : Int
/-- Its numbers lie from a place on, and are numbers. -/
structure Ask5At (w : World) (b off : Nat) (o : Ask5) : Prop where
  c0 : w.cell? ⟨b, off, none⟩ = some (.int .i64 o.start)
  c1 : w.cell? ⟨b, off + 1, none⟩ = some (.int .i64 o.size)
  c2 : w.cell? ⟨b, off + 2, none⟩ = some (.int .i64 o.off)
  c3 : w.cell? ⟨b, off + 3, none⟩ = some (.int .i64 o.n)
  c4 : w.cell? ⟨b, off + 4, none⟩ = some (.int .i64 o.fin)
structure Ask5In (o : Ask5) : Prop where
  i0 : In64 o.start
  i1 : In64 o.size
  i2 : In64 o.off
  i3 : In64 o.n
  i4 : In64 o.fin
/-- The asks in memory. -/
def Asks5 (w : World) (a : Option Addr) (len cap : Nat) (K : Nat → Ask5) : Prop :=
  len ≤ 9223372036854775807 ∧ (len = 0 ∨ ∃ b off, a = some ⟨b, off, none⟩ ∧ b < w.heap.size ∧ ∀ i, i < len → Ask5At w b (off + i * 5) (K i) ∧ Ask5In (K i))
theorem Ask5At.below {w w' : World} {B b off : Nat} {o : Ask5} (h : Ask5At w b off o) (hb : Below B w w') (hl : b < B) : Ask5At w' b off o :=
  ⟨(hb.cell (by exact hl)).trans h.c0, (hb.cell (by exact hl)).trans h.c1, (hb.cell (by exact hl)).trans h.c2, (hb.cell (by exact hl)).trans h.c3, (hb.cell (by exact hl)).trans h.c4⟩

theorem open_asks5 {H : Type} {enc : TypeId × Value → H} {W : World} {base : Nat} {v : Value} {d : DataW H} {p : List MemPlace} (hok : Value.okWide Try.prog W .any base 43 v)
    (h : DataW.Trod enc Try.prog W 0 (fun _ => true) true 43 v d p) : ∃ a len cap K, v = .slice a len cap ∧ Asks5 W a len cap K := by
  obtain ⟨a, len, cap, rfl⟩ := okWide_slice Try.underlying43 hok
  obtain ⟨fuel, hf⟩ := h
  rcases Deep.open_slice Try.underlying43 hf with ⟨hcs, _⟩ | ⟨x, l, c, m, n, D, Pl, hcs, _, hl, hm, hmm, _, hx⟩
  · simp [Value.cells] at hcs
    obtain ⟨rfl, rfl, rfl⟩ := hcs
    exact ⟨none, 0, 0, fun _ => ⟨0, 0, 0, 0, 0⟩, rfl, by omega, .inl rfl⟩
  · simp [Value.cells] at hcs
    obtain ⟨rfl, rfl, rfl⟩ := hcs
    have ce : Try.prog.cellsOf 45 = 5 := by kernel_rfl
    have c3 : Try.prog.cellsOf 3 = 1 := by kernel_rfl
    have hlm : len ≤ m := by rw [hmm]; simp; exact hl
    have each : ∀ i, i < len → ∃ o : Ask5, (W.cell? (x.add (i * 5)) = some (.int .i64 o.start) ∧ W.cell? (x.add (i * 5 + 1)) = some (.int .i64 o.size) ∧ W.cell? (x.add (i * 5 + 2)) = some (.int .i64 o.off) ∧ W.cell? (x.add (i * 5 + 3)) = some (.int .i64 o.n) ∧ W.cell? (x.add (i * 5 + 4)) = some (.int .i64 o.fin)) ∧ Ask5In o := by
      intro i hi
      obtain ⟨cs', h1, h2⟩ := hx i (by omega)
      rw [ce] at h1
      obtain ⟨_, hlen, hcell⟩ := World.cells?_some h1
      obtain ⟨xs, k, hk, hxy, _, hxl, hfld⟩ := DataW.trod_struct Try.underlying45 h2
      match xs, hxl, cs', hlen with
      | [y0, y1, y2, y3, y4], _, [v0, v1, v2, v3, v4], _ =>
        have g0 := hfld 0 _ rfl
        have g1 := hfld 1 _ rfl
        have g2 := hfld 2 _ rfl
        have g3 := hfld 3 _ rfl
        have g4 := hfld 4 _ rfl
        simp [c3] at g0 g1 g2 g3 g4
        have e0 := hcell 0 (by omega)
        have e1 := hcell 1 (by omega)
        have e2 := hcell 2 (by omega)
        have e3 := hcell 3 (by omega)
        have e4 := hcell 4 (by omega)
        rw [Deep.add_add] at e0 e1 e2 e3 e4
        obtain ⟨n0, q0, _, w0⟩ := DataW.trod_int Try.underlying3 g0
        obtain ⟨n1, q1, _, w1⟩ := DataW.trod_int Try.underlying3 g1
        obtain ⟨n2, q2, _, w2⟩ := DataW.trod_int Try.underlying3 g2
        obtain ⟨n3, q3, _, w3⟩ := DataW.trod_int Try.underlying3 g3
        obtain ⟨n4, q4, _, w4⟩ := DataW.trod_int Try.underlying3 g4
        simp at q0 q1 q2 q3 q4
        subst q0 q1 q2 q3 q4
        exact ⟨⟨n0, n1, n2, n3, n4⟩, ⟨by simpa using e0, by simpa using e1, by simpa using e2, by simpa using e3, by simpa using e4⟩, ⟨wf_i64_bd w0, wf_i64_bd w1, wf_i64_bd w2, wf_i64_bd w3, wf_i64_bd w4⟩⟩
    obtain ⟨O, hO⟩ : ∃ O : Nat → Ask5, ∀ i, i < len → (W.cell? (x.add (i * 5)) = some (.int .i64 (O i).start) ∧ W.cell? (x.add (i * 5 + 1)) = some (.int .i64 (O i).size) ∧ W.cell? (x.add (i * 5 + 2)) = some (.int .i64 (O i).off) ∧ W.cell? (x.add (i * 5 + 3)) = some (.int .i64 (O i).n) ∧ W.cell? (x.add (i * 5 + 4)) = some (.int .i64 (O i).fin)) ∧ Ask5In (O i) := by
      refine ⟨fun i => if h : i < len then (each i h).choose else ⟨0, 0, 0, 0, 0⟩, fun i hi => ?_⟩
      simp only [dif_pos hi]
      exact (each i hi).choose_spec
    refine ⟨_, len, cap, O, rfl, by unfold maxLen at hm; omega, ?_⟩
    by_cases e : len = 0
    · exact .inl e
    · obtain ⟨b, off, spot⟩ := x
      have h00 := (hO 0 (by omega)).1.1
      have hspot : spot = none := by simpa [Addr.add] using World.cell?_spot h00
      subst hspot
      have hlt : b < W.heap.size := by
        have := World.block_lt_of_cell? W _ h00
        simpa [Addr.add] using this
      refine .inr ⟨b, off, rfl, hlt, fun i hi => ?_⟩
      have := hO i hi
      simp only [Addr.add_lit, ← Nat.add_assoc] at this
      exact ⟨⟨this.1.1, this.1.2.1, this.1.2.2.1, this.1.2.2.2.1, this.1.2.2.2.2⟩, this.2⟩
end Go.Proofs.Ytifmikdknifcoaa

/- Layer 13: a slice of asks that came in, opened. -/
import Derived.Test.YtgmkldfjbjnkcaaBase
import Derived.Deep.SlicePairs
import Derived.ProofKit
import Derived.OpenShut
namespace Go.Proofs.Ytgmkldfjbjnkcaa
set_option linter.unusedVariables false
set_option maxRecDepth 100000
open Go.RowKit Go.Maps Go.ChangeShapes Go.WideShapes Go.ChangeAt
open Lz (g)

/-- The asks in memory. -/
def AsksF (w : World) (a : Option Addr) (len cap : Nat) (K : Nat → Int × Int × Int) : Prop :=
  len ≤ 9223372036854775807 ∧ (len = 0 ∨ ∃ b off, a = some ⟨b, off, none⟩ ∧ b < w.heap.size ∧ ∀ i, i < len →
    w.cell? ⟨b, off + i * 3, none⟩ = some (.int .i64 (K i).1) ∧ w.cell? ⟨b, off + i * 3 + 1, none⟩ = some (.int .i64 (K i).2.1) ∧ w.cell? ⟨b, off + i * 3 + 2, none⟩ = some (.int .i64 (K i).2.2) ∧ In64 (K i).1 ∧ In64 (K i).2.1 ∧ In64 (K i).2.2)
theorem AsksF.below {w w' : World} {a : Option Addr} {len cap : Nat} {K : Nat → Int × Int × Int} (h : AsksF w a len cap K) (hb : Below w.heap.size w w') : AsksF w' a len cap K := by
  refine ⟨h.1, ?_⟩
  rcases h.2 with h0 | ⟨b, off, h1, h2, h3⟩
  · exact .inl h0
  · refine .inr ⟨b, off, h1, Nat.lt_of_lt_of_le h2 hb.size, fun i hi => ?_⟩
    obtain ⟨e0, e1, e2, r⟩ := h3 i hi
    exact ⟨(hb.cell (by exact h2)).trans e0, (hb.cell (by exact h2)).trans e1, (hb.cell (by exact h2)).trans e2, r⟩

theorem open_askf {H : Type} {enc : TypeId × Value → H} {W : World} {base : Nat} {v : Value} {d : DataW H} {p : List MemPlace} (hok : Value.okWide Try.prog W .any base 36 v)
    (h : DataW.Trod enc Try.prog W 0 (fun _ => true) true 36 v d p) : ∃ a len cap K, v = .slice a len cap ∧ AsksF W a len cap K := by
  obtain ⟨a, len, cap, rfl⟩ := okWide_slice Try.underlying36 hok
  obtain ⟨fuel, hf⟩ := h
  rcases Deep.open_slice Try.underlying36 hf with ⟨hcs, _⟩ | ⟨x, l, c, m, n, D, Pl, hcs, _, hl, hm, hmm, _, hx⟩
  · simp [Value.cells] at hcs
    obtain ⟨rfl, rfl, rfl⟩ := hcs
    exact ⟨none, 0, 0, fun _ => (0, 0, 0), rfl, by omega, .inl rfl⟩
  · simp [Value.cells] at hcs
    obtain ⟨rfl, rfl, rfl⟩ := hcs
    have ce : Try.prog.cellsOf 46 = 3 := by kernel_rfl
    have c3 : Try.prog.cellsOf 3 = 1 := by kernel_rfl
    have hlm : len ≤ m := by rw [hmm]; simp; exact hl
    have each : ∀ i, i < len → ∃ o : Int × Int × Int, W.cell? (x.add (i * 3)) = some (.int .i64 o.1) ∧ W.cell? (x.add (i * 3 + 1)) = some (.int .i64 o.2.1) ∧ W.cell? (x.add (i * 3 + 2)) = some (.int .i64 o.2.2) ∧ In64 o.1 ∧ In64 o.2.1 ∧ In64 o.2.2 := by
      intro i hi
      obtain ⟨cs', h1, h2⟩ := hx i (by omega)
      rw [ce] at h1
      obtain ⟨_, hlen, hcell⟩ := World.cells?_some h1
      obtain ⟨xs, k, hk, hxy, _, hxl, hfld⟩ := DataW.trod_struct Try.underlying46 h2
      match xs, hxl, cs', hlen with
      | [y0, y1, y2], _, [v0, v1, v2], _ =>
        have g0 := hfld 0 _ rfl
        have g1 := hfld 1 _ rfl
        have g2 := hfld 2 _ rfl
        simp [c3] at g0 g1 g2
        have e0 := hcell 0 (by omega)
        have e1 := hcell 1 (by omega)
        have e2 := hcell 2 (by omega)
        rw [Deep.add_add] at e0 e1 e2
        obtain ⟨n0, q0, _, w0⟩ := DataW.trod_int Try.underlying3 g0
        obtain ⟨n1, q1, _, w1⟩ := DataW.trod_int Try.underlying3 g1
        obtain ⟨n2, q2, _, w2⟩ := DataW.trod_int Try.underlying3 g2
        simp at q0 q1 q2
        subst q0 q1 q2
        exact ⟨(n0, n1, n2), by simpa using e0, by simpa using e1, by simpa using e2, wf_i64_bd w0, wf_i64_bd w1, wf_i64_bd w2⟩
    obtain ⟨O, hO⟩ : ∃ O : Nat → Int × Int × Int, ∀ i, i < len → W.cell? (x.add (i * 3)) = some (.int .i64 (O i).1) ∧ W.cell? (x.add (i * 3 + 1)) = some (.int .i64 (O i).2.1) ∧ W.cell? (x.add (i * 3 + 2)) = some (.int .i64 (O i).2.2) ∧ In64 (O i).1 ∧ In64 (O i).2.1 ∧ In64 (O i).2.2 := by
      refine ⟨fun i => if h : i < len then (each i h).choose else (0, 0, 0), fun i hi => ?_⟩
      simp only [dif_pos hi]
      exact (each i hi).choose_spec
    refine ⟨_, len, cap, O, rfl, by unfold maxLen at hm; omega, ?_⟩
    by_cases e : len = 0
    · exact .inl e
    · obtain ⟨b, off, spot⟩ := x
      have h00 := (hO 0 (by omega)).1
      have hspot : spot = none := by simpa [Addr.add] using World.cell?_spot h00
      subst hspot
      have hlt : b < W.heap.size := by
        have := World.block_lt_of_cell? W _ h00
        simpa [Addr.add] using this
      refine .inr ⟨b, off, rfl, hlt, fun i hi => ?_⟩
      have := hO i hi
      simp only [Addr.add_lit, ← Nat.add_assoc] at this
      exact this
end Go.Proofs.Ytgmkldfjbjnkcaa

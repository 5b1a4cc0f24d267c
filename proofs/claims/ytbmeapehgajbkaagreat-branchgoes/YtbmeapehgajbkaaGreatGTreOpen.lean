import Derived.Test.YtbmeapehgajbkaaGreatGJNamRow
import Derived.Deep.SlicePairs
import Derived.ProofKit
import Derived.OpenShut
import Derived.ChangeArms
set_option linter.unusedVariables false
namespace Go.Proofs.YtbmeapehgajbkaaGreat
set_option maxRecDepth 100000
open Go.RowKit Go.Maps Go.ChangeShapes Go.WideShapes Go.ChangeAt
open Nam Tre
open Lz (g)
section
variable {H : Type} {enc : TypeId × Value → H} {W : World} {fuel : Nat} {cs : List Value} {y : DataW H × List MemPlace}
theorem names_trod (hf : DataW.trod enc Tryz.prog W 0 (fun _ => true) true fuel 39 cs = some y) : ∃ a len cap l, cs = [.slice a len cap] ∧ Rs W a len l ∧ len ≤ cap ∧ cap ≤ 9223372036854775807 ∧ (a = none → cap = 0) := by
 rcases Deep.open_strs Tryz.underlying39 Tryz.underlying9 (by kernel_rfl) hf with ⟨hcs, _⟩ | ⟨x, l, c, m, Sx, hcs, _, hl, hm, hmm, _, hr⟩
 ·exact ⟨none, 0, 0, [], hcs, Rs.nil _ _, by omega, by omega, fun _ => rfl⟩
 ·simp only [if_true] at hmm
  subst hmm
  refine ⟨_, _, _, (List.range l).map Sx, hcs, ⟨by simp, ?_⟩, hl, by unfold maxLen at hm; omega, fun h => by cases h⟩
  by_cases e : l = 0
  ·exact .inl e
  ·obtain ⟨b, off, spot⟩ := x
   have hc0 := (hr 0 (by omega)).1
   have hspot : spot = none := by simpa [Addr.add] using World.cell?_spot hc0
   subst hspot
   have hlt : b < W.heap.size := by
    have := World.block_lt_of_cell? W _ hc0
    simpa [Addr.add] using this
   refine .inr ⟨b, off, rfl, hlt, fun i hi => ?_⟩
   simp at hi
   rw [gs_lt _ _ (by simpa using hi)]
   have := (hr i (by omega)).1
   rw [Addr.add_lit] at this
   simpa using this
theorem bytes_trod (hf : DataW.trod enc Tryz.prog W 0 (fun _ => true) true fuel 38 cs = some y) : ∃ a len cap l, cs = [.slice a len cap] ∧ Bs W a len l ∧ len ≤ cap ∧ cap ≤ 9223372036854775807 ∧ (a = none → cap = 0) := by
 rcases open_ints Tryz.underlying38 Tryz.underlying5 (by kernel_rfl) hf with ⟨hcs, _⟩ | ⟨x, l, c, zs, hcs, _, hl, hm, hz, _, hcell, hwz⟩
 ·exact ⟨none, 0, 0, [], hcs, ⟨rfl, fun i => by simp [g], .inl rfl⟩, by omega, by omega, fun _ => rfl⟩
 ·have hz' : zs.length = c := by simpa using hz
  have hrow : RowB W (some x) l c zs := .inr ⟨x, rfl, hl, hm, hz', hcell, hwz⟩
  obtain ⟨h1, h2, h3, _, h5⟩ := hrow.bs l (Nat.le_refl _)
  exact ⟨_, _, _, _, hcs, h1, h2, h3, h5⟩
theorem xat_trod (hf : DataW.trod enc Tryz.prog W 0 (fun _ => true) true fuel 96 cs = some y) : ∃ s va vn vc z, cs = [.string s, .slice va vn vc] ∧ Bs W va vn z ∧ vn ≤ vc ∧ vc ≤ 9223372036854775807 ∧ (va = none → vc = 0) ∧ s.size ≤ 9223372036854775807 := by
 have c9 : Tryz.prog.cellsOf 9 = 1 := by kernel_rfl
 have c39 : Tryz.prog.cellsOf 38 = 1 := by kernel_rfl
 have ce : Tryz.prog.cellsOf 96 = 2 := by kernel_rfl
 obtain ⟨xs, k, hk, hxy, hlen, hxl, hfld⟩ := DataW.trod_struct Tryz.underlying96 hf
 rw [ce] at hlen
 match xs, hxl, cs, hlen with
 | [y0, y1], _, [v0, v1], _ =>
  have g0 := hfld 0 _ rfl
  have g1 := hfld 1 _ rfl
  simp [c9, c39] at g0 g1
  obtain ⟨s, q0, _, w0⟩ := DataW.trod_string Tryz.underlying9 g0
  obtain ⟨a, len, cap, l, q1, h1, h2, h3, h4⟩ := bytes_trod g1
  simp at q0 q1
  subst q0 q1
  exact ⟨s, a, len, cap, l, rfl, h1, h2, h3, h4, by unfold maxLen at w0; omega⟩
theorem xs_trod (hf : DataW.trod enc Tryz.prog W 0 (fun _ => true) true fuel 42 cs = some y) : ∃ a len cap l, cs = [.slice a len cap] ∧ XsR W a len l ∧ len ≤ cap ∧ cap ≤ 9223372036854775807 ∧ (a = none → cap = 0) := by
 rcases Deep.open_slice Tryz.underlying42 hf with ⟨hcs, _⟩ | ⟨x, len, cap, m, n, D, Pl, hcs, _, hl, hm, hmm, _, hx⟩
 ·exact ⟨none, 0, 0, [], hcs, XsR.nil _ _, by omega, by omega, fun _ => rfl⟩
 ·have ce : Tryz.prog.cellsOf 96 = 2 := by kernel_rfl
  have hlm : len ≤ m := by rw [hmm]; simp; exact hl
  have each : ∀ i, i < len → ∃ o : ByteArray × List Int, W.cell? (x.add (i * 2)) = some (.string o.1) ∧ ∃ va vn vc, W.cell? (x.add (i * 2 + 1)) = some (.slice va vn vc) ∧ Bs W va vn o.2 ∧ vn ≤ vc ∧ vc ≤ 9223372036854775807 ∧ (va = none → vc = 0) ∧ o.1.size ≤ 9223372036854775807 := by
   intro i hi
   obtain ⟨cs', h1, h2⟩ := hx i (by omega)
   rw [ce] at h1
   obtain ⟨_, hlen, hcell⟩ := World.cells?_some h1
   obtain ⟨s, va, vn, vc, z, rfl, r1, r2, r3, r4⟩ := xat_trod h2
   have e0 := hcell 0 (by omega)
   have e1 := hcell 1 (by omega)
   rw [Deep.add_add] at e0 e1
   exact ⟨(s, z), by simpa using e0, va, vn, vc, by simpa using e1, r1, r2, r3, r4⟩
  obtain ⟨O, hO⟩ : ∃ O : Nat → ByteArray × List Int, ∀ i, i < len → W.cell? (x.add (i * 2)) = some (.string (O i).1) ∧ ∃ va vn vc, W.cell? (x.add (i * 2 + 1)) = some (.slice va vn vc) ∧ Bs W va vn (O i).2 ∧ vn ≤ vc ∧ vc ≤ 9223372036854775807 ∧ (va = none → vc = 0) ∧ (O i).1.size ≤ 9223372036854775807 := by
   refine ⟨fun i => if h : i < len then (each i h).choose else (⟨#[]⟩, []), fun i hi => ?_⟩
   simp only [dif_pos hi]
   exact (each i hi).choose_spec
  refine ⟨_, len, cap, (List.range len).map O, hcs, ⟨by simp, ?_⟩, hl, by unfold maxLen at hm; omega, fun h => by cases h⟩
  by_cases e : len = 0
  ·exact .inl e
  ·obtain ⟨b, off, spot⟩ := x
   have h00 := (hO 0 (by omega)).1
   have hspot : spot = none := by simpa [Addr.add] using World.cell?_spot h00
   subst hspot
   have hlt : b < W.heap.size := by
    have := World.block_lt_of_cell? W _ h00
    simpa [Addr.add] using this
   refine .inr ⟨b, off, rfl, hlt, fun i hi => ?_⟩
   have := hO i hi
   simp only [Addr.add_lit, ← Nat.add_assoc] at this
   rw [gx_lt _ _ (by simpa using hi)]
   simp only [List.getElem_map, List.getElem_range]
   exact this
theorem attr_trod (hf : DataW.trod enc Tryz.prog W 0 (fun _ => true) true fuel 41 cs = some y) : ∃ a b c : Int, cs = [.int .i64 a, .int .i64 b, .int .i64 c] := by
 have c3 : Tryz.prog.cellsOf 3 = 1 := by kernel_rfl
 have ce : Tryz.prog.cellsOf 41 = 3 := by kernel_rfl
 obtain ⟨xs, k, hk, hxy, hlen, hxl, hfld⟩ := DataW.trod_struct Tryz.underlying41 hf
 rw [ce] at hlen
 match xs, hxl, cs, hlen with
 | [y0, y1, y2], _, [v0, v1, v2], _ =>
  have g0 := hfld 0 _ rfl
  have g1 := hfld 1 _ rfl
  have g2 := hfld 2 _ rfl
  simp [c3] at g0 g1 g2
  obtain ⟨n0, q0, _, w0⟩ := DataW.trod_int Tryz.underlying3 g0
  obtain ⟨n1, q1, _, w1⟩ := DataW.trod_int Tryz.underlying3 g1
  obtain ⟨n2, q2, _, w2⟩ := DataW.trod_int Tryz.underlying3 g2
  simp at q0 q1 q2
  subst q0 q1 q2
  exact ⟨n0, n1, n2, rfl⟩
theorem nod_trod (hf : DataW.trod enc Tryz.prog W 0 (fun _ => true) true fuel 44 cs = some y) : ∃ v n, cs = v.cells.toList ∧ Rep W v n := by
 have c3 : Tryz.prog.cellsOf 3 = 1 := by kernel_rfl
 have c4 : Tryz.prog.cellsOf 4 = 1 := by kernel_rfl
 have c9 : Tryz.prog.cellsOf 9 = 1 := by kernel_rfl
 have c31 : Tryz.prog.cellsOf 39 = 1 := by kernel_rfl
 have c38 : Tryz.prog.cellsOf 41 = 3 := by kernel_rfl
 have c39 : Tryz.prog.cellsOf 38 = 1 := by kernel_rfl
 have c40 : Tryz.prog.cellsOf 42 = 1 := by kernel_rfl
 have ce : Tryz.prog.cellsOf 44 = 10 := by kernel_rfl
 obtain ⟨xs, k, hk, hxy, hlen, hxl, hfld⟩ := DataW.trod_struct Tryz.underlying44 hf
 rw [ce] at hlen
 match xs, hxl, cs, hlen with
 | [y0, y1, y2, y3, y4, y5, y6, y7], _, [v0, v1, v2, v3, v4, v5, v6, v7, v8, v9], _ =>
  have g0 := hfld 0 _ rfl
  have g1 := hfld 1 _ rfl
  have g2 := hfld 2 _ rfl
  have g3 := hfld 3 _ rfl
  have g4 := hfld 4 _ rfl
  have g5 := hfld 5 _ rfl
  have g6 := hfld 6 _ rfl
  have g7 := hfld 7 _ rfl
  simp [c3, c4, c9, c31, c38, c39, c40] at g0 g1 g2 g3 g4 g5 g6 g7
  obtain ⟨na, nn, nc, nl, q0, r1, r2, r3, r4⟩ := names_trod g0
  obtain ⟨ino, q1, _, w1⟩ := DataW.trod_int Tryz.underlying3 g1
  obtain ⟨kind, q2, _, _⟩ := DataW.trod_int Tryz.underlying3 g2
  obtain ⟨a, b, c, q3⟩ := attr_trod g3
  obtain ⟨da, dn, dc, dl, q4, s1, s2, s3, s4⟩ := bytes_trod g4
  obtain ⟨t, q5, _, wt⟩ := DataW.trod_string Tryz.underlying9 g5
  obtain ⟨xa, xn, xc, xl, q6, t1, t2, t3, t4⟩ := xs_trod g6
  obtain ⟨o, q7, _⟩ := DataW.trod_bool Tryz.underlying4 g7
  simp at q0 q1 q2 q3 q4 q5 q6 q7
  obtain ⟨rfl, rfl, rfl⟩ := q3
  subst q0 q1 q2 q4 q5 q6 q7
  exact ⟨⟨na, nn, nc, ino, kind, _, _, _, da, dn, dc, t, xa, xn, xc, o⟩, ⟨nl, ino, kind, _, _, _, dl, t, xl, o⟩, rfl, ⟨r1, r2, r3, r4, rfl, w1, rfl, rfl, rfl, rfl, s1, s2, s3, s4, rfl, by unfold maxLen at wt; exact wt, t1, t2, t3, t4, rfl⟩⟩
end
theorem open_nodes {H : Type} {enc : TypeId × Value → H} {W : World} {base : Nat} {v : Value} {d : DataW H} {p : List MemPlace} (hok : Value.okWide Tryz.prog W .any base 22 v)
  (h : DataW.Trod enc Tryz.prog W 0 (fun _ => true) true 22 v d p) : ∃ a len cap L, v = .slice a len cap ∧ Ns W a len L ∧ len ≤ cap ∧ cap ≤ 9223372036854775807 := by
 obtain ⟨a, len, cap, rfl⟩ := okWide_slice Tryz.underlying22 hok
 obtain ⟨fuel, hf⟩ := h
 rcases Deep.open_slice Tryz.underlying22 hf with ⟨hcs, _⟩ | ⟨x, l, c, m, n, D, Pl, hcs, _, hl, hm, hmm, _, hx⟩
 ·simp [Value.cells] at hcs
  obtain ⟨rfl, rfl, rfl⟩ := hcs
  exact ⟨none, 0, 0, [], rfl, Ns.nil _ _, by omega, by omega⟩
 ·simp [Value.cells] at hcs
  obtain ⟨rfl, rfl, rfl⟩ := hcs
  have ce : Tryz.prog.cellsOf 44 = 10 := by kernel_rfl
  have hlm : len ≤ m := by rw [hmm]; simp; exact hl
  have each : ∀ i, i < len → ∃ o : Nv × Nod, (∀ k, k < 10 → W.cell? (x.add (i * 10 + k)) = (o.1.cells.toList)[k]?) ∧ Rep W o.1 o.2 := by
   intro i hi
   obtain ⟨cs', h1, h2⟩ := hx i (by omega)
   rw [ce] at h1
   obtain ⟨_, hlen, hcell⟩ := World.cells?_some h1
   obtain ⟨u, nd, rfl, hr⟩ := nod_trod h2
   refine ⟨(u, nd), fun k hk => ?_, hr⟩
   have e0 := hcell k (by omega)
   rw [Deep.add_add] at e0
   exact e0
  obtain ⟨O, hO⟩ : ∃ O : Nat → Nv × Nod, ∀ i, i < len → (∀ k, k < 10 → W.cell? (x.add (i * 10 + k)) = ((O i).1.cells.toList)[k]?) ∧ Rep W (O i).1 (O i).2 := by
   refine ⟨fun i => if h : i < len then (each i h).choose else (nv0, nod0), fun i hi => ?_⟩
   simp only [dif_pos hi]
   exact (each i hi).choose_spec
  refine ⟨_, len, cap, (List.range len).map O, rfl, ⟨by simp, fun p hp => ?_, ?_⟩, hl, by unfold maxLen at hm; omega⟩
  ·simp only [List.mem_map, List.mem_range] at hp
   obtain ⟨i, hi, rfl⟩ := hp
   exact (hO i hi).2
  ·by_cases e : len = 0
   ·exact .inl e
   ·obtain ⟨b, off, spot⟩ := x
    have h00 := (hO 0 (by omega)).1 0 (by omega)
    have h01 : W.cell? ((⟨b, off, spot⟩ : Addr).add (0 * 10 + 0)) = some (.slice (O 0).1.na (O 0).1.nn (O 0).1.nc) := h00
    have hspot : spot = none := by simpa [Addr.add] using World.cell?_spot h01
    subst hspot
    have hlt : b < W.heap.size := by
     have := World.block_lt_of_cell? W _ h01
     simpa [Addr.add] using this
    refine .inr ⟨b, off, rfl, hlt, fun i hi => ?_⟩
    rw [gl_lt _ _ (by simpa using hi)]
    simp only [List.getElem_map, List.getElem_range]
    have hk := (hO i hi).1
    have key : ∀ k, k < 10 → W.cell? ⟨b, off + i * 10 + k, none⟩ = ((O i).1.cells.toList)[k]? := fun k hk' => by
     have := hk k hk'
     rw [Addr.add_lit, ← Nat.add_assoc] at this
     exact this
    exact ⟨key 0 (by omega), key 1 (by omega), key 2 (by omega), key 3 (by omega), key 4 (by omega), key 5 (by omega), key 6 (by omega), key 7 (by omega), key 8 (by omega), key 9 (by omega)⟩
end Go.Proofs.YtbmeapehgajbkaaGreat

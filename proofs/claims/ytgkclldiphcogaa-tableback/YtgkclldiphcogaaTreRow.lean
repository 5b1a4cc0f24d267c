/- Layer 7: nodes in memory. Nothing here speaks of one function of the program. -/
import Derived.Test.YtgkclldiphcogaaTrePure
import Derived.Test.YtgkclldiphcogaaNamLeaf
namespace Go.Proofs.Ytgkclldiphcogaa
set_option linter.unusedVariables false
open Go.RowKit Go.Maps Go.ChangeShapes Go.WideShapes Go.ChangeAt
open Nam Tre
open Lz (g)

/-- A node's cells: its lists by their places. -/
structure Nv where
  na : Option Addr
  nn : Nat
  nc : Nat
  ino : Int
  kind : Int
  mode : Int
  uid : Int
  gid : Int
  da : Option Addr
  dn : Nat
  dc : Nat
  tg : ByteArray
  xa : Option Addr
  xn : Nat
  xc : Nat
  op : Bool
def nv0 : Nv := ⟨none, 0, 0, 0, 0, 0, 0, 0, none, 0, 0, ⟨#[]⟩, none, 0, 0, false⟩
def nod0 : Nod := ⟨[], 0, 0, 0, 0, 0, [], ⟨#[]⟩, [], false⟩
def Nv.cells (v : Nv) : Array Value := #[.slice v.na v.nn v.nc, .int .i64 v.ino, .int .i64 v.kind, .int .i64 v.mode, .int .i64 v.uid, .int .i64 v.gid, .slice v.da v.dn v.dc, .string v.tg, .slice v.xa v.xn v.xc, .bool v.op]
/-- An attribute's cells, at a place. -/
def XatAt (w : World) (b o : Nat) (x : ByteArray × List Int) : Prop :=
  w.cell? ⟨b, o, none⟩ = some (.string x.1) ∧ ∃ va vn vc, w.cell? ⟨b, o + 1, none⟩ = some (.slice va vn vc) ∧ Bs w va vn x.2 ∧ vn ≤ vc ∧ vc ≤ 9223372036854775807 ∧ (va = none → vc = 0) ∧ x.1.size ≤ 9223372036854775807
/-- The slice at ao, n long, holds the attributes xs. -/
def gx (xs : List (ByteArray × List Int)) (i : Nat) : ByteArray × List Int := xs.getD i (⟨#[]⟩, [])
theorem gx_lt (xs : List (ByteArray × List Int)) (i : Nat) (h : i < xs.length) : gx xs i = xs[i] := by simp [gx, h]
def XsR (w : World) (ao : Option Addr) (n : Nat) (xs : List (ByteArray × List Int)) : Prop :=
  xs.length = n ∧ (n = 0 ∨ ∃ b off, ao = some ⟨b, off, none⟩ ∧ b < w.heap.size ∧ ∀ i, i < n → XatAt w b (off + i * 2) (gx xs i))
/-- A node's cells stand for a node. -/
structure Rep (w : World) (v : Nv) (n : Nod) : Prop where
  names : Rs w v.na v.nn n.names
  nc : v.nn ≤ v.nc
  ncm : v.nc ≤ 9223372036854775807
  nnil : v.na = none → v.nc = 0
  ino : n.ino = v.ino
  in64 : (Lit.int .i64 v.ino).wf = true
  kind : n.kind = v.kind
  mode : n.mode = v.mode
  uid : n.uid = v.uid
  gid : n.gid = v.gid
  data : Bs w v.da v.dn n.data
  dc : v.dn ≤ v.dc
  dcm : v.dc ≤ 9223372036854775807
  dnil : v.da = none → v.dc = 0
  tg : n.target = v.tg
  tgm : v.tg.size ≤ 9223372036854775807
  xs : XsR w v.xa v.xn n.xs
  xc : v.xn ≤ v.xc
  xcm : v.xc ≤ 9223372036854775807
  xnil : v.xa = none → v.xc = 0
  op : n.opq = v.op
theorem XatAt.below {w w' : World} {b o : Nat} {x : ByteArray × List Int} (h : XatAt w b o x) (hb : Below w.heap.size w w') (hlt : b < w.heap.size) : XatAt w' b o x := by
  obtain ⟨h1, va, vn, vc, h2, h3, h4⟩ := h
  exact ⟨(hb.cell (by exact hlt)).trans h1, va, vn, vc, (hb.cell (by exact hlt)).trans h2, h3.below hb, h4⟩
theorem XsR.below {w w' : World} {ao : Option Addr} {n : Nat} {xs : List (ByteArray × List Int)} (h : XsR w ao n xs) (hb : Below w.heap.size w w') : XsR w' ao n xs := by
  refine ⟨h.1, ?_⟩
  rcases h.2 with h0 | ⟨b, off, h1, h2, h3⟩
  · exact .inl h0
  · exact .inr ⟨b, off, h1, Nat.lt_of_lt_of_le h2 hb.size, fun i hi => (h3 i hi).below hb h2⟩
theorem XsR.at {w : World} {ao : Option Addr} {n : Nat} {xs : List (ByteArray × List Int)} (h : XsR w ao n xs) (hn : 0 < n) : ∃ b off, ao = some ⟨b, off, none⟩ ∧ b < w.heap.size ∧ ∀ i, i < n → XatAt w b (off + i * 2) (gx xs i) := by
  rcases h.2 with h0 | h1
  · omega
  · exact h1
theorem XsR.nil (w : World) (ao : Option Addr) : XsR w ao 0 [] := ⟨rfl, .inl rfl⟩
theorem XsR.take {w : World} {ao : Option Addr} {n : Nat} {xs : List (ByteArray × List Int)} (h : XsR w ao n xs) (k : Nat) (hk : k ≤ n) : XsR w ao k (xs.take k) := by
  obtain ⟨hz, h0⟩ := h
  refine ⟨by simp; omega, ?_⟩
  by_cases e : k = 0
  · exact .inl e
  · rcases h0 with h0 | ⟨b, off, h1, h2, h3⟩
    · omega
    · refine .inr ⟨b, off, h1, h2, fun i hi => ?_⟩
      have : gx (xs.take k) i = gx xs i := by simp [gx, hi]
      rw [this]; exact h3 i (by omega)
theorem Rep.below {w w' : World} {v : Nv} {n : Nod} (h : Rep w v n) (hb : Below w.heap.size w w') : Rep w' v n :=
  { h with names := h.names.below hb, data := h.data.below hb, xs := h.xs.below hb }
theorem Rep.drewN {w : World} {v : Nv} {n : Nod} (h : Rep w v n) (k : Nat) : Rep (w.drewN k) v n := h.below (by
  have : Below w.heap.size w (w.drewN k) := ⟨rfl, rfl, rfl, Nat.le_refl _, fun _ _ => rfl⟩
  exact this)
/-- The ten cells of a node, at a place. -/
structure NodAt (w : World) (b o : Nat) (v : Nv) : Prop where
  c0 : w.cell? ⟨b, o, none⟩ = some (.slice v.na v.nn v.nc)
  c1 : w.cell? ⟨b, o + 1, none⟩ = some (.int .i64 v.ino)
  c2 : w.cell? ⟨b, o + 2, none⟩ = some (.int .i64 v.kind)
  c3 : w.cell? ⟨b, o + 3, none⟩ = some (.int .i64 v.mode)
  c4 : w.cell? ⟨b, o + 4, none⟩ = some (.int .i64 v.uid)
  c5 : w.cell? ⟨b, o + 5, none⟩ = some (.int .i64 v.gid)
  c6 : w.cell? ⟨b, o + 6, none⟩ = some (.slice v.da v.dn v.dc)
  c7 : w.cell? ⟨b, o + 7, none⟩ = some (.string v.tg)
  c8 : w.cell? ⟨b, o + 8, none⟩ = some (.slice v.xa v.xn v.xc)
  c9 : w.cell? ⟨b, o + 9, none⟩ = some (.bool v.op)
theorem NodAt.same {w w' : World} {b o : Nat} {v : Nv} (h : NodAt w b o v) (hc : ∀ k, w'.cell? ⟨b, k, none⟩ = w.cell? ⟨b, k, none⟩) : NodAt w' b o v :=
  ⟨(hc _).trans h.c0, (hc _).trans h.c1, (hc _).trans h.c2, (hc _).trans h.c3, (hc _).trans h.c4, (hc _).trans h.c5, (hc _).trans h.c6, (hc _).trans h.c7, (hc _).trans h.c8, (hc _).trans h.c9⟩
theorem NodAt.below {w w' : World} {B b o : Nat} {v : Nv} (h : NodAt w b o v) (hb : Below B w w') (hlt : b < B) : NodAt w' b o v :=
  h.same (fun k => hb.cell (by exact hlt))
/-- A node in a block of its own. -/
structure Boxed (w : World) (b : Nat) (v : Nv) : Prop where
  lt : b < w.heap.size
  c0 : w.cell? ⟨b, 0, none⟩ = some (.slice v.na v.nn v.nc)
  c1 : w.cell? ⟨b, 1, none⟩ = some (.int .i64 v.ino)
  c2 : w.cell? ⟨b, 2, none⟩ = some (.int .i64 v.kind)
  c3 : w.cell? ⟨b, 3, none⟩ = some (.int .i64 v.mode)
  c4 : w.cell? ⟨b, 4, none⟩ = some (.int .i64 v.uid)
  c5 : w.cell? ⟨b, 5, none⟩ = some (.int .i64 v.gid)
  c6 : w.cell? ⟨b, 6, none⟩ = some (.slice v.da v.dn v.dc)
  c7 : w.cell? ⟨b, 7, none⟩ = some (.string v.tg)
  c8 : w.cell? ⟨b, 8, none⟩ = some (.slice v.xa v.xn v.xc)
  c9 : w.cell? ⟨b, 9, none⟩ = some (.bool v.op)
theorem boxed (w : World) (v : Nv) : Boxed (w.alloc (.cells v.cells 67)) w.heap.size v := by
  constructor <;> simp [Nv.cells]
theorem Boxed.same {w w' : World} {b : Nat} {v : Nv} (h : Boxed w b v) (hs : w.heap.size ≤ w'.heap.size) (hc : ∀ k, w'.cell? ⟨b, k, none⟩ = w.cell? ⟨b, k, none⟩) : Boxed w' b v :=
  ⟨Nat.lt_of_lt_of_le h.lt hs, (hc _).trans h.c0, (hc _).trans h.c1, (hc _).trans h.c2, (hc _).trans h.c3, (hc _).trans h.c4, (hc _).trans h.c5, (hc _).trans h.c6, (hc _).trans h.c7, (hc _).trans h.c8, (hc _).trans h.c9⟩
theorem Boxed.below {w w' : World} {b : Nat} {v : Nv} (h : Boxed w b v) (hb : Below w.heap.size w w') : Boxed w' b v := h.same hb.size (fun k => hb.cell (by exact h.lt))
/-- The pair at a place. -/
def gl (L : List (Nv × Nod)) (i : Nat) : Nv × Nod := L.getD i (nv0, nod0)
theorem gl_lt (L : List (Nv × Nod)) (i : Nat) (h : i < L.length) : gl L i = L[i] := by simp [gl, h]
theorem gl_mem (L : List (Nv × Nod)) (i : Nat) (h : i < L.length) : gl L i ∈ L := by rw [gl_lt L i h]; exact List.getElem_mem h
def nds (L : List (Nv × Nod)) : List Nod := L.map (·.2)
theorem nds_length (L : List (Nv × Nod)) : (nds L).length = L.length := by simp [nds]
theorem nds_drop (L : List (Nv × Nod)) (i : Nat) (h : i < L.length) : (nds L).drop i = (gl L i).2 :: (nds L).drop (i + 1) := by
  rw [List.drop_eq_getElem_cons (by rw [nds_length]; exact h), gl_lt L i h]
  simp [nds]
theorem nds_take (L : List (Nv × Nod)) (i : Nat) (h : i < L.length) : (nds L).take (i + 1) = (nds L).take i ++ [(gl L i).2] := by
  rw [List.take_succ_eq_append_getElem (by rw [nds_length]; exact h), gl_lt L i h]
  simp [nds]
/-- The slice at ao, n long, holds the nodes L. -/
def Ns (w : World) (ao : Option Addr) (n : Nat) (L : List (Nv × Nod)) : Prop :=
  L.length = n ∧ (∀ p ∈ L, Rep w p.1 p.2) ∧ (n = 0 ∨ ∃ b off, ao = some ⟨b, off, none⟩ ∧ b < w.heap.size ∧ ∀ i, i < n → NodAt w b (off + i * 10) (gl L i).1)
theorem Ns.below {w w' : World} {ao : Option Addr} {n : Nat} {L : List (Nv × Nod)} (h : Ns w ao n L) (hb : Below w.heap.size w w') : Ns w' ao n L := by
  refine ⟨h.1, fun p hp => (h.2.1 p hp).below hb, ?_⟩
  rcases h.2.2 with h0 | ⟨b, off, h1, h2, h3⟩
  · exact .inl h0
  · exact .inr ⟨b, off, h1, Nat.lt_of_lt_of_le h2 hb.size, fun i hi => (h3 i hi).below hb h2⟩
theorem Ns.at {w : World} {ao : Option Addr} {n : Nat} {L : List (Nv × Nod)} (h : Ns w ao n L) (hn : 0 < n) : ∃ b off, ao = some ⟨b, off, none⟩ ∧ b < w.heap.size ∧ ∀ i, i < n → NodAt w b (off + i * 10) (gl L i).1 := by
  rcases h.2.2 with h0 | h1
  · omega
  · exact h1
theorem Ns.rep {w : World} {ao : Option Addr} {n : Nat} {L : List (Nv × Nod)} (h : Ns w ao n L) (i : Nat) (hi : i < n) : Rep w (gl L i).1 (gl L i).2 :=
  h.2.1 _ (gl_mem L i (by rw [h.1]; exact hi))
theorem Ns.nil (w : World) (ao : Option Addr) : Ns w ao 0 [] := ⟨rfl, fun p hp => by simp at hp, .inl rfl⟩
/-- A world of which only the order of draws, or what is new, differs. -/
theorem below_refl (w : World) : Below w.heap.size w w := Below.refl _ _
theorem drewN_below {B : Nat} (w : World) (k : Nat) : Below B w (w.drewN k) := ⟨rfl, rfl, rfl, Nat.le_refl _, fun _ _ => rfl⟩
end Go.Proofs.Ytgkclldiphcogaa

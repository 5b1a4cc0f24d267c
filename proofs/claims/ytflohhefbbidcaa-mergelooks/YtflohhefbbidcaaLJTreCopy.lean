import Derived.Test.YtflohhefbbidcaaLJNamRow
import Derived.Deep.RegionLaw
import Derived.Deep.RegionHeld3
set_option linter.unusedVariables false
namespace Go.Proofs.Ytflohhefbbidcaa
open Go.RowKit Go.Maps
open Nam Tre
open Lz (g)
def Ab (B : Nat) (ao : Option Addr) : Prop := ∀ a, ao = some a → B ≤ a.block
theorem ab_of_owns {w : World} {B n c size e : Nat} {ao : Option Addr} {xs : List Value} (h : w.ownsRow B e size (.slice ao n c) n xs) : Ab B ao := by
 intro a ha
 subst ha
 exact (h.lt a.block rfl).1
theorem clone_strs (w : World) (ty : TypeId) (ao : Option Addr) (n c : Nat) (l : List ByteArray) (h : Rs w ao n l) (hnil : ao = none → c = 0) (hn : n ≤ 1000000) :
  ∃ ao' c' w', (Builtin.append_ #[31, 31] ty #[.slice none 0 0, .slice ao n c]).run Try.prog w = .ok (.slice ao' n c') w' ∧ w'.ownsRow w.heap.size 9 1 (.slice ao' n c') n (sv l) ∧ w.grownBy w' none := by
 obtain ⟨i0, hi, hz0, hz1, hz2⟩ := info_parts infoStr
 cases ao with
 | none =>
  obtain rfl : c = 0 := hnil rfl
  obtain rfl : n = 0 := by
   rcases h.2 with h0 | ⟨b, off, h1, _⟩
   ·exact h0
   ·simp at h1
  obtain rfl : l = [] := List.eq_nil_of_length_eq_zero h.1
  refine ⟨none, 0, w, ?_, World.ownsRow_nil _ _ _ _, World.grownBy.refl _ _⟩
  exact run_append_owned_none (P := Try.prog) w w.heap.size 31 ty 9 i0 1 Try.underlying31 hi _ 0 [] (World.ownsRow_nil _ _ _ _)
 | some ad =>
  obtain ⟨v', w', hr, ho, hg, _⟩ := run_append_own (P := Try.prog) w w.heap.size 31 ty 9 i0 (.string ⟨#[]⟩) 1 16 Try.underlying31 hi hz0 hz1 hz2 rfl (by decide) (.slice none 0 0) 0 [] (World.ownsRow_nil _ _ _ _) ad n c (sv l) (by rw [sv_length, h.1]; omega) (fun j u hu => by
   have hj : j < (sv l).length := (List.getElem?_eq_some_iff.1 hu).1
   rw [sv_length, h.1] at hj
   obtain ⟨b, off, h1, h2, h3⟩ := h.at (by omega)
   obtain rfl := Option.some.inj h1
   rw [Addr.add_lit, h3 j hj]
   simp only [sv, List.getElem?_map, List.getElem?_eq_getElem (show j < l.length by rw [h.1]; exact hj), gs_lt l j (by rw [h.1]; exact hj), Option.map_some] at hu ⊢
   exact hu) (sv_one _) (by unfold maxLen; omega) (by omega) (Nat.le_refl _)
  rw [Nat.zero_add, List.nil_append] at ho
  obtain ⟨ao', c', rfl⟩ := owns_shape ho
  exact ⟨ao', c', w', hr, ho, hg⟩
theorem clone_bytes (w : World) (ty : TypeId) (ao : Option Addr) (n c : Nat) (l : List Int) (h : Bs w ao n l) (hnil : ao = none → c = 0) (hn : n ≤ 1000000) :
  ∃ ao' c' w', (Builtin.append_ #[41, 41] ty #[.slice none 0 0, .slice ao n c]).run Try.prog w = .ok (.slice ao' n c') w' ∧ w'.ownsRow w.heap.size 5 1 (.slice ao' n c') n (bv l) ∧ w.grownBy w' none := by
 obtain ⟨i0, hi, hz0, hz1, hz2⟩ := info_parts infoByte
 cases ao with
 | none =>
  obtain rfl : c = 0 := hnil rfl
  obtain rfl : n = 0 := by
   rcases h.2.2 with h0 | ⟨b, off, h1, _⟩
   ·exact h0
   ·simp at h1
  obtain rfl : l = [] := List.eq_nil_of_length_eq_zero h.1
  refine ⟨none, 0, w, ?_, World.ownsRow_nil _ _ _ _, World.grownBy.refl _ _⟩
  exact run_append_owned_none (P := Try.prog) w w.heap.size 41 ty 5 i0 1 Try.underlying41 hi _ 0 [] (World.ownsRow_nil _ _ _ _)
 | some ad =>
  obtain ⟨v', w', hr, ho, hg, _⟩ := run_append_own (P := Try.prog) w w.heap.size 41 ty 5 i0 (.int .u8 0) 1 1 Try.underlying41 hi hz0 hz1 hz2 rfl (by decide) (.slice none 0 0) 0 [] (World.ownsRow_nil _ _ _ _) ad n c (bv l) (by rw [bv_length, h.1]; omega) (by
   rcases h.2.2 with h0 | ⟨b, off, h1, _, hseg⟩
   ·have : l = [] := List.eq_nil_of_length_eq_zero (by have := h.1; omega)
    subst this
    intro j u hu; simp [bv] at hu
   ·obtain rfl := Option.some.inj h1
    have := news_seg hseg n
    rw [List.take_of_length_le (by have := h.1; omega)] at this
    exact this) (bv_one _) (by unfold maxLen; omega) (by omega) (Nat.le_refl _)
  rw [Nat.zero_add, List.nil_append] at ho
  obtain ⟨ao', c', rfl⟩ := owns_shape ho
  exact ⟨ao', c', w', hr, ho, hg⟩
structure Xv where
 s : ByteArray
 va : Option Addr
 vn : Nat
 vc : Nat
def xv0 : Xv := ⟨⟨#[]⟩, none, 0, 0⟩
def xvs (X : List Xv) : List Value := X.flatMap (fun x => [.string x.s, .slice x.va x.vn x.vc])
theorem xvs_length (X : List Xv) : (xvs X).length = X.length * 2 := by
 induction X with
 | nil => rfl
 | cons x r ih =>
  have : xvs (x :: r) = [.string x.s, .slice x.va x.vn x.vc] ++ xvs r := by simp [xvs]
  rw [this, List.length_append, ih, List.length_cons]; simp; omega
theorem xvs_get (X : List Xv) (i : Nat) (h : i < X.length) : (xvs X)[i * 2]? = some (.string X[i].s) ∧ (xvs X)[i * 2 + 1]? = some (.slice X[i].va X[i].vn X[i].vc) := by
 induction X generalizing i with
 | nil => simp at h
 | cons x r ih =>
  have e : xvs (x :: r) = [.string x.s, .slice x.va x.vn x.vc] ++ xvs r := by simp [xvs]
  rw [e]
  cases i with
  | zero => exact ⟨rfl, rfl⟩
  | succ i =>
   have := ih i (by simpa using h)
   rw [List.getElem?_append_right (by simp; omega), List.getElem?_append_right (by simp; omega)]
   simp only [List.length_cons, List.length_nil]
   rw [show (i + 1) * 2 - (0 + 1 + 1) = i * 2 by omega, show (i + 1) * 2 + 1 - (0 + 1 + 1) = i * 2 + 1 by omega]
   exact this
theorem xvs_set (X : List Xv) (i : Nat) (a : Option Addr) (m c : Nat) (h : i < X.length) : (xvs X).set (i * 2 + 1) (.slice a m c) = xvs (X.set i ⟨X[i].s, a, m, c⟩) := by
 induction X generalizing i with
 | nil => simp at h
 | cons x r ih =>
  have e : ∀ y l, xvs (y :: l) = .string y.s :: .slice y.va y.vn y.vc :: xvs l := by simp [xvs]
  cases i with
  | zero => rw [e, List.set_cons_zero, e]; rfl
  | succ i =>
   rw [e, show (i + 1) * 2 + 1 = i * 2 + 1 + 1 + 1 by omega, List.set_cons_succ, List.set_cons_succ, ih i (by simpa using h), List.set_cons_succ, e]
   rfl
theorem xvs_one (X : List Xv) : ∀ u ∈ xvs X, u.oneCell' = true := by
 intro u hu
 simp only [xvs, List.mem_flatMap] at hu
 obtain ⟨x, _, hx⟩ := hu
 simp only [List.mem_cons, List.not_mem_nil, or_false] at hx
 rcases hx with h | h <;> (rw [h]; rfl)
def XRep (w : World) (x : Xv) (y : ByteArray × List Int) : Prop := y.1 = x.s ∧ Bs w x.va x.vn y.2 ∧ x.vn ≤ x.vc ∧ x.vc ≤ 9223372036854775807 ∧ (x.va = none → x.vc = 0) ∧ y.1.size ≤ 9223372036854775807
def gX (X : List Xv) (i : Nat) : Xv := X.getD i xv0
theorem gX_lt (X : List Xv) (i : Nat) (h : i < X.length) : gX X i = X[i] := by simp [gX, h]
theorem XsR.xv {w : World} {ao : Option Addr} {n : Nat} {xs : List (ByteArray × List Int)} (h : XsR w ao n xs) : ∃ X : List Xv, X.length = n ∧ (∀ i, i < n → XRep w (gX X i) (gx xs i)) ∧ (n = 0 ∨ ∃ b off, ao = some ⟨b, off, none⟩ ∧ ∀ j u, (xvs X)[j]? = some u → w.cell? ⟨b, off + j, none⟩ = some u) := by
 by_cases e : n = 0
 ·exact ⟨[], by simp [e], fun i hi => by omega, .inl e⟩
 ·obtain ⟨b, off, h1, h2, h3⟩ := h.at (by omega)
  have each : ∀ i, i < n → ∃ x : Xv, w.cell? ⟨b, off + i * 2, none⟩ = some (.string x.s) ∧ w.cell? ⟨b, off + i * 2 + 1, none⟩ = some (.slice x.va x.vn x.vc) ∧ XRep w x (gx xs i) := fun i hi => by
   obtain ⟨c1, va, vn, vc, c2, r1, r2, r3, r4, r5⟩ := h3 i hi
   exact ⟨⟨(gx xs i).1, va, vn, vc⟩, c1, c2, rfl, r1, r2, r3, r4, r5⟩
  obtain ⟨O, hO⟩ : ∃ O : Nat → Xv, ∀ i, i < n → w.cell? ⟨b, off + i * 2, none⟩ = some (.string (O i).s) ∧ w.cell? ⟨b, off + i * 2 + 1, none⟩ = some (.slice (O i).va (O i).vn (O i).vc) ∧ XRep w (O i) (gx xs i) := by
   refine ⟨fun i => if h : i < n then (each i h).choose else xv0, fun i hi => ?_⟩
   simp only [dif_pos hi]
   exact (each i hi).choose_spec
  refine ⟨(List.range n).map O, by simp, fun i hi => ?_, .inr ⟨b, off, h1, fun j u hu => ?_⟩⟩
  ·rw [gX_lt _ _ (by simpa using hi)]
   simpa using (hO i hi).2.2
  ·have hj : j < (xvs ((List.range n).map O)).length := (List.getElem?_eq_some_iff.1 hu).1
   rw [xvs_length] at hj
   simp only [List.length_map, List.length_range] at hj
   have hq : j / 2 < n := by omega
   have hg := xvs_get ((List.range n).map O) (j / 2) (by simpa using hq)
   simp only [List.getElem_map, List.getElem_range] at hg
   obtain ⟨k1, k2, _⟩ := hO (j / 2) hq
   rcases Nat.mod_two_eq_zero_or_one j with hm | hm
   ·rw [show j = j / 2 * 2 by omega, hg.1] at hu
    rw [show off + j = off + j / 2 * 2 by omega, k1]; exact hu
   ·rw [show j = j / 2 * 2 + 1 by omega, hg.2] at hu
    rw [show off + j = off + j / 2 * 2 + 1 by omega, k2]; exact hu
theorem infoXat : (Try.prog.info? 95).map (fun i => (i.zero, i.size, i.bytes)) = some (some (.agg #[.string ⟨#[]⟩, .slice none 0 0]), 2, 40) := by kernel_rfl
theorem clone_xats (w : World) (ty : TypeId) (ao : Option Addr) (n c : Nat) (X : List Xv) (hX : X.length = n) (h : n = 0 ∨ ∃ b off, ao = some ⟨b, off, none⟩ ∧ ∀ j u, (xvs X)[j]? = some u → w.cell? ⟨b, off + j, none⟩ = some u) (hnil : ao = none → c = 0) (hn : n ≤ 1000000) :
  ∃ ao' c' w', (Builtin.append_ #[42, 42] ty #[.slice none 0 0, .slice ao n c]).run Try.prog w = .ok (.slice ao' n c') w' ∧ w'.ownsRow w.heap.size 95 2 (.slice ao' n c') n (xvs X) ∧ w.grownBy w' none := by
 obtain ⟨i0, hi, hz0, hz1, hz2⟩ := info_parts infoXat
 cases ao with
 | none =>
  obtain rfl : c = 0 := hnil rfl
  obtain rfl : n = 0 := by
   rcases h with h0 | ⟨b, off, h1, _⟩
   ·exact h0
   ·simp at h1
  obtain rfl : X = [] := List.eq_nil_of_length_eq_zero hX
  refine ⟨none, 0, w, ?_, World.ownsRow_nil _ _ _ _, World.grownBy.refl _ _⟩
  exact run_append_owned_none (P := Try.prog) w w.heap.size 42 ty 95 i0 2 Try.underlying42 hi _ 0 [] (World.ownsRow_nil _ _ _ _)
 | some ad =>
  obtain ⟨v', w', hr, ho, hg, _⟩ := run_append_own (P := Try.prog) w w.heap.size 42 ty 95 i0 (.agg #[.string ⟨#[]⟩, .slice none 0 0]) 2 40 Try.underlying42 hi hz0 hz1 hz2 rfl (by decide) (.slice none 0 0) 0 [] (World.ownsRow_nil _ _ _ _) ad n c (xvs X) (by rw [xvs_length, hX]) (by
   rcases h with h0 | ⟨b, off, h1, hseg⟩
   ·have : X = [] := List.eq_nil_of_length_eq_zero (by omega)
    subst this
    intro j u hu; simp [xvs] at hu
   ·obtain rfl := Option.some.inj h1
    intro j u hu
    rw [Addr.add_lit]; exact hseg j u hu) (xvs_one _) (by unfold maxLen; omega) (by omega) (Nat.le_refl _)
  rw [Nat.zero_add, List.nil_append] at ho
  obtain ⟨ao', c', rfl⟩ := owns_shape ho
  exact ⟨ao', c', w', hr, ho, hg⟩
theorem wpList_append_run {w w' : World} {ops : Array Oper} {rest : List Oper} {o : Oper} {a : Act} {Q : Exit → Act → World → Prop} (hgd : o.guard = none) (s x : Operand) (t : TypeId)
  (ho : o.op = .call { callee := .builtin .append, args := #[s, x], argTypes := #[t, t] }) (va vx r : Value) (hs : a.eval s = va) (hx : a.eval x = vx)
  (hrun : (Builtin.append_ #[t, t] o.type #[va, vx]).run Try.prog w = .ok r w') (h : wpList Try.prog ops Q rest (a.put o.dst r) w') : wpList Try.prog ops Q (o :: rest) a w := by
 refine wpList_plain hgd fun K hK => ?_
 unfold Oper.wp
 simp [execOp, ho, resolve, invoke, builtin, hs, hx, hrun, Result.andThen]
 exact hK _ _ h
def Bk (w : World) (p : Nat) (v : Nv) : Prop := w.heap[p]? = some (.cells v.cells 44 (0, 0))
theorem Bk.box {w : World} {p : Nat} {v : Nv} (h : Bk w p v) : Boxed w p v := by
 have hc : ∀ k, w.cell? ⟨p, k, none⟩ = v.cells[k]? := fun k => cell_of_row _ _ k _ _ _ h
 exact ⟨heap_lt h, hc 0, hc 1, hc 2, hc 3, hc 4, hc 5, hc 6, hc 7, hc 8, hc 9⟩
theorem Bk.frozen {w : World} {p : Nat} {v : Nv} (h : Bk w p v) (k : Nat) : w.frozen? ⟨p, k, none⟩ = false := Lib.frozen_of_heap h k
theorem Bk.block {w w' : World} {p : Nat} {v : Nv} (h : Bk w p v) (hb : w'.heap[p]? = w.heap[p]?) : Bk w' p v := hb.trans h
theorem bk_new (w : World) (v : Nv) : Bk (w.alloc (.cells v.cells 44)) w.heap.size v := heap_alloc_new w _
theorem setCell_heap (w : World) (p k : Nat) (u : Value) (cs : Array Value) (e : TypeId) (fz : Nat × Nat) (h : w.heap[p]? = some (.cells cs e fz)) : (w.setCell ⟨p, k, none⟩ u).heap[p]? = some (.cells (cs.setIfInBounds k u) e fz) := by
 have hlt := heap_lt h
 have h' : w.heap[p] = .cells cs e fz := by
  rw [Array.getElem?_eq_getElem hlt] at h; exact Option.some.inj h
 simp [World.setCell, hlt, Array.getElem_modify_self, h']
theorem Bk.set0 {w : World} {p : Nat} {v : Nv} (h : Bk w p v) (a : Option Addr) (n c : Nat) : Bk (w.setCell ⟨p, 0, none⟩ (.slice a n c)) p { v with na := a, nn := n, nc := c } := setCell_heap w p 0 _ _ _ _ h
theorem Bk.set6 {w : World} {p : Nat} {v : Nv} (h : Bk w p v) (a : Option Addr) (n c : Nat) : Bk (w.setCell ⟨p, 6, none⟩ (.slice a n c)) p { v with da := a, dn := n, dc := c } := setCell_heap w p 6 _ _ _ _ h
theorem Bk.set8 {w : World} {p : Nat} {v : Nv} (h : Bk w p v) (a : Option Addr) (n c : Nat) : Bk (w.setCell ⟨p, 8, none⟩ (.slice a n c)) p { v with xa := a, xn := n, xc := c } := setCell_heap w p 8 _ _ _ _ h
theorem set_other (w : World) (p k i : Nat) (u : Value) (h : i ≠ p) : (w.setCell ⟨p, k, none⟩ u).heap[i]? = w.heap[i]? := Below.heap_setCell _ _ _ _ h
def put10 (w : World) (r : Nat) (u : Nv) : World := ((((((((((w.setCell ⟨r, 0, none⟩ (.slice u.na u.nn u.nc)).setCell ⟨r, 1, none⟩ (.int .i64 u.ino)).setCell ⟨r, 2, none⟩ (.int .i64 u.kind)).setCell ⟨r, 3, none⟩ (.int .i64 u.mode)).setCell ⟨r, 4, none⟩ (.int .i64 u.uid)).setCell ⟨r, 5, none⟩ (.int .i64 u.gid)).setCell ⟨r, 6, none⟩ (.slice u.da u.dn u.dc)).setCell ⟨r, 7, none⟩ (.string u.tg)).setCell ⟨r, 8, none⟩ (.slice u.xa u.xn u.xc)).setCell ⟨r, 9, none⟩ (.bool u.op))
theorem Bk.put10 {w : World} {r : Nat} {z : Nv} (h : Bk w r z) (u : Nv) : Bk (put10 w r u) r u := by
 unfold Bk at h
 have h0 := setCell_heap _ r 0 (.slice u.na u.nn u.nc) _ _ _ h
 have h1 := setCell_heap _ r 1 (.int .i64 u.ino) _ _ _ h0
 have h2 := setCell_heap _ r 2 (.int .i64 u.kind) _ _ _ h1
 have h3 := setCell_heap _ r 3 (.int .i64 u.mode) _ _ _ h2
 have h4 := setCell_heap _ r 4 (.int .i64 u.uid) _ _ _ h3
 have h5 := setCell_heap _ r 5 (.int .i64 u.gid) _ _ _ h4
 have h6 := setCell_heap _ r 6 (.slice u.da u.dn u.dc) _ _ _ h5
 have h7 := setCell_heap _ r 7 (.string u.tg) _ _ _ h6
 have h8 := setCell_heap _ r 8 (.slice u.xa u.xn u.xc) _ _ _ h7
 have h9 := setCell_heap _ r 9 (.bool u.op) _ _ _ h8
 unfold Bk Ytflohhefbbidcaa.put10
 rw [h9]
 simp [Nv.cells]
theorem put10_other (w : World) (r : Nat) (u : Nv) (i : Nat) (hi : i ≠ r) : (put10 w r u).heap[i]? = w.heap[i]? := by
 unfold Ytflohhefbbidcaa.put10
 rw [set_other _ _ _ _ _ hi, set_other _ _ _ _ _ hi, set_other _ _ _ _ _ hi, set_other _ _ _ _ _ hi, set_other _ _ _ _ _ hi, set_other _ _ _ _ _ hi, set_other _ _ _ _ _ hi, set_other _ _ _ _ _ hi, set_other _ _ _ _ _ hi, set_other _ _ _ _ _ hi]
theorem put10_below {w w' : World} {B r : Nat} (h : Below B w w') (hr : B ≤ r) (u : Nv) : Below B w (put10 w' r u) :=
 ((((((((((h.setCell (p := ⟨r, 0, none⟩) hr _).setCell (p := ⟨r, 1, none⟩) hr _).setCell (p := ⟨r, 2, none⟩) hr _).setCell (p := ⟨r, 3, none⟩) hr _).setCell (p := ⟨r, 4, none⟩) hr _).setCell (p := ⟨r, 5, none⟩) hr _).setCell (p := ⟨r, 6, none⟩) hr _).setCell (p := ⟨r, 7, none⟩) hr _).setCell (p := ⟨r, 8, none⟩) hr _).setCell (p := ⟨r, 9, none⟩) hr _)
theorem Bk.put10_keepT {w : World} {r : Nat} {z : Nv} (h : Bk w r z) (u : Nv) (e : TypeId) (he : e ≠ 44) : KeepT e w (Ytflohhefbbidcaa.put10 w r u) := fun i cur fz hi => by
 have hne : i ≠ r := fun ei => by
  subst ei
  have h' : w.heap[i]? = some (.cells z.cells 44 (0, 0)) := h
  rw [h'] at hi
  injection hi with hh
  injection hh with _ h2 _
  exact he h2.symm
 rw [put10_other w r u i hne]; exact hi
end Go.Proofs.Ytflohhefbbidcaa
namespace Go.Proofs.Ytflohhefbbidcaa
open Go.RowKit Go.Maps
open Nam Tre
end Go.Proofs.Ytflohhefbbidcaa

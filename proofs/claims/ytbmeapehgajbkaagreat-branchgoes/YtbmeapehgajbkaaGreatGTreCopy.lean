import Derived.Test.YtbmeapehgajbkaaGreatGJNamRow
import Derived.Deep.RegionLaw
import Derived.Deep.RegionHeld3
set_option linter.unusedVariables false
namespace Go.Proofs.YtbmeapehgajbkaaGreat
open Go.RowKit Go.Maps
open Nam Tre
open Lz (g)
structure Xv where
 s : ByteArray
 va : Option Addr
 vn : Nat
 vc : Nat
def xv0 : Xv := ⟨⟨#[]⟩, none, 0, 0⟩
def xvs (X : List Xv) : List Value := X.flatMap (fun x => [.string x.s, .slice x.va x.vn x.vc])
theorem xvs_length (X : List Xv) : (xvs X).length = X.length * 2 := by
 induction X with
 | nil => rfl
 | cons x r ih =>
  have : xvs (x :: r) = [.string x.s, .slice x.va x.vn x.vc] ++ xvs r := by simp [xvs]
  rw [this, List.length_append, ih, List.length_cons]; simp; omega
theorem xvs_get (X : List Xv) (i : Nat) (h : i < X.length) : (xvs X)[i * 2]? = some (.string X[i].s) ∧ (xvs X)[i * 2 + 1]? = some (.slice X[i].va X[i].vn X[i].vc) := by
 induction X generalizing i with
 | nil => simp at h
 | cons x r ih =>
  have e : xvs (x :: r) = [.string x.s, .slice x.va x.vn x.vc] ++ xvs r := by simp [xvs]
  rw [e]
  cases i with
  | zero => exact ⟨rfl, rfl⟩
  | succ i =>
   have := ih i (by simpa using h)
   rw [List.getElem?_append_right (by simp; omega), List.getElem?_append_right (by simp; omega)]
   simp only [List.length_cons, List.length_nil]
   rw [show (i + 1) * 2 - (0 + 1 + 1) = i * 2 by omega, show (i + 1) * 2 + 1 - (0 + 1 + 1) = i * 2 + 1 by omega]
   exact this
theorem xvs_set (X : List Xv) (i : Nat) (a : Option Addr) (m c : Nat) (h : i < X.length) : (xvs X).set (i * 2 + 1) (.slice a m c) = xvs (X.set i ⟨X[i].s, a, m, c⟩) := by
 induction X generalizing i with
 | nil => simp at h
 | cons x r ih =>
  have e : ∀ y l, xvs (y :: l) = .string y.s :: .slice y.va y.vn y.vc :: xvs l := by simp [xvs]
  cases i with
  | zero => rw [e, List.set_cons_zero, e]; rfl
  | succ i =>
   rw [e, show (i + 1) * 2 + 1 = i * 2 + 1 + 1 + 1 by omega, List.set_cons_succ, List.set_cons_succ, ih i (by simpa using h), List.set_cons_succ, e]
   rfl
theorem xvs_one (X : List Xv) : ∀ u ∈ xvs X, u.oneCell' = true := by
 intro u hu
 simp only [xvs, List.mem_flatMap] at hu
 obtain ⟨x, _, hx⟩ := hu
 simp only [List.mem_cons, List.not_mem_nil, or_false] at hx
 rcases hx with h | h <;> (rw [h]; rfl)
def XRep (w : World) (x : Xv) (y : ByteArray × List Int) : Prop := y.1 = x.s ∧ Bs w x.va x.vn y.2 ∧ x.vn ≤ x.vc ∧ x.vc ≤ 9223372036854775807 ∧ (x.va = none → x.vc = 0) ∧ y.1.size ≤ 9223372036854775807
def gX (X : List Xv) (i : Nat) : Xv := X.getD i xv0
theorem gX_lt (X : List Xv) (i : Nat) (h : i < X.length) : gX X i = X[i] := by simp [gX, h]
theorem XsR.xv {w : World} {ao : Option Addr} {n : Nat} {xs : List (ByteArray × List Int)} (h : XsR w ao n xs) : ∃ X : List Xv, X.length = n ∧ (∀ i, i < n → XRep w (gX X i) (gx xs i)) ∧ (n = 0 ∨ ∃ b off, ao = some ⟨b, off, none⟩ ∧ ∀ j u, (xvs X)[j]? = some u → w.cell? ⟨b, off + j, none⟩ = some u) := by
 by_cases e : n = 0
 ·exact ⟨[], by simp [e], fun i hi => by omega, .inl e⟩
 ·obtain ⟨b, off, h1, h2, h3⟩ := h.at (by omega)
  have each : ∀ i, i < n → ∃ x : Xv, w.cell? ⟨b, off + i * 2, none⟩ = some (.string x.s) ∧ w.cell? ⟨b, off + i * 2 + 1, none⟩ = some (.slice x.va x.vn x.vc) ∧ XRep w x (gx xs i) := fun i hi => by
   obtain ⟨c1, va, vn, vc, c2, r1, r2, r3, r4, r5⟩ := h3 i hi
   exact ⟨⟨(gx xs i).1, va, vn, vc⟩, c1, c2, rfl, r1, r2, r3, r4, r5⟩
  obtain ⟨O, hO⟩ : ∃ O : Nat → Xv, ∀ i, i < n → w.cell? ⟨b, off + i * 2, none⟩ = some (.string (O i).s) ∧ w.cell? ⟨b, off + i * 2 + 1, none⟩ = some (.slice (O i).va (O i).vn (O i).vc) ∧ XRep w (O i) (gx xs i) := by
   refine ⟨fun i => if h : i < n then (each i h).choose else xv0, fun i hi => ?_⟩
   simp only [dif_pos hi]
   exact (each i hi).choose_spec
  refine ⟨(List.range n).map O, by simp, fun i hi => ?_, .inr ⟨b, off, h1, fun j u hu => ?_⟩⟩
  ·rw [gX_lt _ _ (by simpa using hi)]
   simpa using (hO i hi).2.2
  ·have hj : j < (xvs ((List.range n).map O)).length := (List.getElem?_eq_some_iff.1 hu).1
   rw [xvs_length] at hj
   simp only [List.length_map, List.length_range] at hj
   have hq : j / 2 < n := by omega
   have hg := xvs_get ((List.range n).map O) (j / 2) (by simpa using hq)
   simp only [List.getElem_map, List.getElem_range] at hg
   obtain ⟨k1, k2, _⟩ := hO (j / 2) hq
   rcases Nat.mod_two_eq_zero_or_one j with hm | hm
   ·rw [show j = j / 2 * 2 by omega, hg.1] at hu
    rw [show off + j = off + j / 2 * 2 by omega, k1]; exact hu
   ·rw [show j = j / 2 * 2 + 1 by omega, hg.2] at hu
    rw [show off + j = off + j / 2 * 2 + 1 by omega, k2]; exact hu
theorem infoXat : (Tryz.prog.info? 96).map (fun i => (i.zero, i.size, i.bytes)) = some (some (.agg #[.string ⟨#[]⟩, .slice none 0 0]), 2, 40) := by kernel_rfl
theorem wpList_append_run {w w' : World} {ops : Array Oper} {rest : List Oper} {o : Oper} {a : Act} {Q : Exit → Act → World → Prop} (hgd : o.guard = none) (s x : Operand) (t : TypeId)
  (ho : o.op = .call { callee := .builtin .append, args := #[s, x], argTypes := #[t, t] }) (va vx r : Value) (hs : a.eval s = va) (hx : a.eval x = vx)
  (hrun : (Builtin.append_ #[t, t] o.type #[va, vx]).run Tryz.prog w = .ok r w') (h : wpList Tryz.prog ops Q rest (a.put o.dst r) w') : wpList Tryz.prog ops Q (o :: rest) a w := by
 refine wpList_plain hgd fun K hK => ?_
 unfold Oper.wp
 simp [execOp, ho, resolve, invoke, builtin, hs, hx, hrun, Result.andThen]
 exact hK _ _ h
end Go.Proofs.YtbmeapehgajbkaaGreat

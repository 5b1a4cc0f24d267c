import Derived.Test.YtoohanojfoichaaGreatDoorONamTxt
import Derived.Test.YtoohanojfoichaaGreatDoorOJCurNew
set_option linter.unusedVariables false
namespace Go.Proofs.YtoohanojfoichaaGreatDoor.Dir
open Cur Cap Nam
open Lz (g)
structure Ent where
 name : ByteArray
 kind : Int
 ref : Int
def z0 : Ent := ⟨⟨#[]⟩, 0, 0⟩
def gl (L : List Ent) (i : Nat) : Ent := L.getD i z0
theorem gl_lt (L : List Ent) (i : Nat) (h : i < L.length) : gl L i = L[i] := by simp [gl, h]
theorem drop_gl (L : List Ent) (i : Nat) (h : i < L.length) : L.drop i = gl L i :: L.drop (i + 1) := by rw [List.drop_eq_getElem_cons h, gl_lt L i h]
theorem take_gl (L : List Ent) (i : Nat) (h : i < L.length) : L.take (i + 1) = L.take i ++ [gl L i] := by rw [List.take_succ_eq_append_getElem h, gl_lt L i h]
def ok (E : Ent) : Bool := decide (valid E.name.toList = 0 ∧ (1 ≤ E.kind ∧ E.kind ≤ 3) ∧ 0 ≤ E.ref ∧ E.ref ≤ 4294967295)
def nx (s : ByteArray) (E : Ent) : Bool := Op.bytesLess s.toList E.name.toList && ok E
def rise : ByteArray → List Ent → Bool
 | _, [] => true
 | s, E :: L => nx s E && rise E.name L
def em : ByteArray := ⟨#[]⟩
theorem em_list : em.toList = [] := toList_mk []
def may (L : List Ent) : Bool := rise em L
def entB (E : Ent) : List Int := ((E.name.size : Int) :: sb E.name) ++ (by' 1 E.kind ++ by' 4 E.ref)
def putB (L : List Ent) : List Int := (L.map entB).flatten
theorem putB_nil : putB [] = [] := rfl
theorem putB_cons (E : Ent) (L : List Ent) : putB (E :: L) = entB E ++ putB L := by simp [putB]
theorem putB_append (A B : List Ent) : putB (A ++ B) = putB A ++ putB B := by simp [putB]
theorem putB_one (E : Ent) : putB [E] = entB E := by simp [putB]
def fit (E : Ent) : Prop := E.name.size ≤ 255 ∧ (0 ≤ E.kind ∧ E.kind < 256) ∧ 0 ≤ E.ref ∧ E.ref < 4294967296
theorem ok_iff {E : Ent} : ok E = true ↔ valid E.name.toList = 0 ∧ (1 ≤ E.kind ∧ E.kind ≤ 3) ∧ 0 ≤ E.ref ∧ E.ref ≤ 4294967295 := by unfold ok; rw [decide_eq_true_eq]
theorem ok_fit {E : Ent} (h : ok E = true) : fit E := by
 obtain ⟨h1, h2, h3⟩ := ok_iff.1 h
 have := (valid_zero h1).1
 rw [toList_length] at this
 exact ⟨this, by omega, by omega⟩
theorem entB_length (E : Ent) : (entB E).length = E.name.size + 6 := by unfold entB; simp [by_length, sb_length]
theorem entB_bytes {E : Ent} (h : E.name.size ≤ 255) : Bytes (entB E) := by
 unfold entB
 refine Bytes.append (fun x hx => ?_) ((by_bytes _ _).append (by_bytes _ _))
 rcases List.mem_cons.1 hx with rfl | hx
 ·omega
 ·exact sb_bytes _ x hx
theorem putB_bytes {L : List Ent} (h : ∀ E ∈ L, fit E) : Bytes (putB L) := by
 induction L with
 | nil => exact Bytes.nil
 | cons E L ih => rw [putB_cons]; exact (entB_bytes (h E (by simp)).1).append (ih (fun X hX => h X (List.mem_cons_of_mem _ hX)))
theorem putB_length {L : List Ent} (h : ∀ E ∈ L, fit E) : (putB L).length ≤ 261 * L.length := by
 induction L with
 | nil => simp [putB]
 | cons E L ih =>
  have h1 := ih (fun X hX => h X (List.mem_cons_of_mem _ hX))
  have h2 := (h E (by simp)).1
  rw [putB_cons, List.length_append, List.length_cons, entB_length]; omega
theorem rise_cons {s : ByteArray} {E : Ent} {L : List Ent} : rise s (E :: L) = (nx s E && rise E.name L) := rfl
theorem rise_ok {L : List Ent} : ∀ {s : ByteArray}, rise s L = true → ∀ E ∈ L, ok E = true := by
 induction L with
 | nil => intro s _ E hE; simp at hE
 | cons X L ih =>
  intro s h E hE
  rw [rise_cons, Bool.and_eq_true] at h
  have h1 := h.1
  unfold nx at h1
  rw [Bool.and_eq_true] at h1
  rcases List.mem_cons.1 hE with rfl | hE
  ·exact h1.2
  ·exact ih h.2 E hE
theorem may_fit {L : List Ent} (h : may L = true) : ∀ E ∈ L, fit E := fun E hE => ok_fit (rise_ok h E hE)
theorem nx_em (E : Ent) : nx em E = ok E := by
 unfold nx
 cases h : ok E with
 | false => simp
 | true =>
  have := (valid_zero (ok_iff.1 h).1).2.1
  rw [em_list]
  cases e : E.name.toList with
  | nil => exact absurd e this
  | cons a r => simp [Op.bytesLess]
def pv (L : List Ent) (i : Nat) : ByteArray := if i = 0 then em else (gl L (i - 1)).name
theorem pv_succ (L : List Ent) (i : Nat) : pv L (i + 1) = (gl L i).name := by simp [pv]
theorem rise_drop (L : List Ent) (i : Nat) (h : i < L.length) : rise (pv L i) (L.drop i) = (nx (pv L i) (gl L i) && rise (pv L (i + 1)) (L.drop (i + 1))) := by
 rw [drop_gl L i h, rise_cons, pv_succ]
def rE (s : St) : Ent := ⟨strOfNums (txtA s), numA 1 (txtS s), numA 4 (numS 1 (txtS s))⟩
def rS (s : St) : St := numS 4 (numS 1 (txtS s))
theorem str_size (zs : List Int) : (strOfNums zs).size = zs.length := by
 show (strOfNums zs).data.size = _
 rw [← Array.length_toList, strOfNums_data, List.length_map]
theorem txt_bytes {s : St} (hb : Bytes s.1) : Bytes (txtS s).1 := by
 unfold txtS ps fl
 have := num_bytes (n := 1) hb
 repeat' split
 all_goals first | exact Bytes.nil | exact this | exact this.drop _
theorem txtA_bytes {s : St} (hb : Bytes s.1) : Bytes (txtA s) := by
 unfold txtA pa
 split
 ·exact Bytes.nil
 ·exact (num_bytes (n := 1) hb).take _
theorem rS_bytes {s : St} (hb : Bytes s.1) : Bytes (rS s).1 := num_bytes (num_bytes (txt_bytes hb))
theorem rS_ok {zs : List Int} (hb : Bytes zs) (h : (rS (zs, 0)).2 = 0) : zs = entB (rE (zs, 0)) ++ (rS (zs, 0)).1 := by
 unfold rS rE entB at *
 have b1 : Bytes (txtS (zs, 0)).1 := txt_bytes hb
 have b2 : Bytes (numS 1 (txtS (zs, 0))).1 := num_bytes b1
 have k3 := num_ok 4 4 rfl (by omega) (by omega) h b2
 have k2 := num_ok 1 1 rfl (by omega) (by omega) k3.1 b1
 have k1 := txt_ok k2.1 (s := (zs, 0)) hb
 have q1 := k1.2
 have q2 := k2.2
 have q3 := k3.2
 simp only [str_size, sb_str (txtA_bytes (s := (zs, 0)) hb), List.append_assoc]
 rw [← q3, ← q2]
 exact q1
theorem rd_ent {E : Ent} (h : fit E) (r : List Int) : rE (entB E ++ r, 0) = E ∧ rS (entB E ++ r, 0) = (r, 0) := by
 obtain ⟨h1, h2, h3⟩ := h
 have e1 := txt_app (sb E.name) (by' 1 E.kind ++ (by' 4 E.ref ++ r)) (by rw [sb_length]; omega)
 have e2 := num_app 1 1 rfl E.kind (by' 4 E.ref ++ r) (by omega) (by omega) (by omega) (by omega)
 have e3 := num_app 4 4 rfl E.ref r (by omega) (by omega) (by omega) (by omega)
 have e0 : entB E ++ r = ((sb E.name).length : Int) :: sb E.name ++ (by' 1 E.kind ++ (by' 4 E.ref ++ r)) := by unfold entB; rw [sb_length]; simp
 rw [e0]
 unfold rE rS
 rw [e1.1, e1.2, e2.1, e2.2, e3.1, e3.2, str_sb]
 exact ⟨rfl, rfl⟩
def prs : Nat → List Int → List Ent × Bool
 | 0, zs => ([], decide (zs = []))
 | k + 1, zs => if zs = [] then ([], true) else if (rS (zs, 0)).2 = 0 then (rE (zs, 0) :: (prs k (rS (zs, 0)).1).1, (prs k (rS (zs, 0)).1).2) else ([], false)
def par (zs : List Int) : List Ent × Bool := prs zs.length zs
theorem rS_less {zs : List Int} (hb : Bytes zs) (h : (rS (zs, 0)).2 = 0) : (rS (zs, 0)).1.length + 6 ≤ zs.length := by
 have := congrArg List.length (rS_ok hb h)
 rw [List.length_append, entB_length] at this
 omega
theorem prs_more : ∀ (k : Nat) (zs : List Int), Bytes zs → zs.length ≤ k → prs k zs = prs zs.length zs := by
 intro k
 induction k using Nat.strongRecOn with
 | ind k ih =>
  intro zs hb h
  by_cases e : zs = []
  ·subst e; cases k <;> simp [prs]
  ·obtain ⟨m, hm⟩ : ∃ m, zs.length = m + 1 := ⟨zs.length - 1, by have := List.length_pos_iff.2 e; omega⟩
   obtain ⟨j, rfl⟩ : ∃ j, k = j + 1 := ⟨k - 1, by omega⟩
   rw [hm]
   unfold prs
   rw [if_neg e, if_neg e]
   by_cases h0 : (rS (zs, 0)).2 = 0
   ·have hl := rS_less hb h0
    have hbr : Bytes (rS (zs, 0)).1 := rS_bytes (s := (zs, 0)) hb
    rw [if_pos h0, if_pos h0, ih j (by omega) _ hbr (by omega), ih m (by omega) _ hbr (by omega)]
   ·rw [if_neg h0, if_neg h0]
theorem par_nil : par [] = ([], true) := rfl
theorem par_step {zs : List Int} (hb : Bytes zs) (h : zs ≠ []) (h0 : (rS (zs, 0)).2 = 0) : par zs = (rE (zs, 0) :: (par (rS (zs, 0)).1).1, (par (rS (zs, 0)).1).2) := by
 have hl := rS_less hb h0
 have hbr : Bytes (rS (zs, 0)).1 := rS_bytes (s := (zs, 0)) hb
 obtain ⟨m, hm⟩ : ∃ m, zs.length = m + 1 := ⟨zs.length - 1, by have := List.length_pos_iff.2 h; omega⟩
 conv => lhs; unfold par; rw [hm]; unfold prs; rw [if_neg h, if_pos h0, prs_more m _ hbr (by omega)]
 rfl
theorem entB_ne (E : Ent) (r : List Int) : entB E ++ r ≠ [] := by unfold entB; simp
theorem par_ent {E : Ent} (h : fit E) (r : List Int) (hr : Bytes r) : par (entB E ++ r) = (E :: (par r).1, (par r).2) := by
 obtain ⟨e1, e2⟩ := rd_ent h r
 rw [par_step ((entB_bytes h.1).append hr) (entB_ne E r) (by rw [e2]), e1, e2]
theorem par_put {L : List Ent} (h : ∀ E ∈ L, fit E) (y : List Int) (hy : Bytes y) : par (putB L ++ y) = (L ++ (par y).1, (par y).2) := by
 induction L with
 | nil => simp [putB]
 | cons E L ih =>
  have h1 := ih (fun X hX => h X (List.mem_cons_of_mem _ hX))
  have hb := putB_bytes (L := L) (fun X hX => h X (List.mem_cons_of_mem _ hX))
  rw [putB_cons, List.append_assoc, par_ent (h E (by simp)) _ (hb.append hy), h1]
  simp
theorem par_putB {L : List Ent} (h : ∀ E ∈ L, fit E) : par (putB L) = (L, true) := by
 have := par_put h [] Bytes.nil
 rw [List.append_nil, par_nil] at this
 simpa using this
end Go.Proofs.YtoohanojfoichaaGreatDoor.Dir

/- What the proof stands on: DirPure, with what the proof reaches of it. -/
import Derived.Test.YtoohanojfoichaaGreatDoorSNamTxt
import Derived.Test.YtoohanojfoichaaGreatDoorSJCurNew

/- Layer 10 on lists alone: lists of entries that may be, their bytes, what bytes are read as, what is found. Nothing here speaks of the program. -/
namespace Go.Proofs.YtoohanojfoichaaGreatDoor.Dir
set_option linter.unusedVariables false
open Cur Cap Nam
open Lz (g)

/-- An entry: its fields in the order of their declaration. -/
structure Ent where
  name : ByteArray
  kind : Int
  ref : Int
/-- No entry. -/
def z0 : Ent := ⟨⟨#[]⟩, 0, 0⟩
/-- The entry at a place. -/
def gl (L : List Ent) (i : Nat) : Ent := L.getD i z0
theorem gl_lt (L : List Ent) (i : Nat) (h : i < L.length) : gl L i = L[i] := by simp [gl, h]
theorem drop_gl (L : List Ent) (i : Nat) (h : i < L.length) : L.drop i = gl L i :: L.drop (i + 1) := by rw [List.drop_eq_getElem_cons h, gl_lt L i h]
theorem take_gl (L : List Ent) (i : Nat) (h : i < L.length) : L.take (i + 1) = L.take i ++ [gl L i] := by rw [List.take_succ_eq_append_getElem h, gl_lt L i h]
def ok (E : Ent) : Bool := decide (valid E.name.toList = 0 ∧ (1 ≤ E.kind ∧ E.kind ≤ 3) ∧ 0 ≤ E.ref ∧ E.ref ≤ 4294967295)
/-- Whether an entry may stand behind the name s. -/
def nx (s : ByteArray) (E : Ent) : Bool := Op.bytesLess s.toList E.name.toList && ok E
def rise : ByteArray → List Ent → Bool
  | _, [] => true
  | s, E :: L => nx s E && rise E.name L
def em : ByteArray := ⟨#[]⟩
def may (L : List Ent) : Bool := rise em L
/-- An entry's bytes. -/
def entB (E : Ent) : List Int := ((E.name.size : Int) :: sb E.name) ++ (by' 1 E.kind ++ by' 4 E.ref)
def putB (L : List Ent) : List Int := (L.map entB).flatten
theorem putB_nil : putB [] = [] := rfl
theorem putB_cons (E : Ent) (L : List Ent) : putB (E :: L) = entB E ++ putB L := by simp [putB]
theorem putB_append (A B : List Ent) : putB (A ++ B) = putB A ++ putB B := by simp [putB]
theorem putB_one (E : Ent) : putB [E] = entB E := by simp [putB]
/-- What bytes can tell. -/
def fit (E : Ent) : Prop := E.name.size ≤ 255 ∧ (0 ≤ E.kind ∧ E.kind < 256) ∧ 0 ≤ E.ref ∧ E.ref < 4294967296
theorem ok_iff {E : Ent} : ok E = true ↔ valid E.name.toList = 0 ∧ (1 ≤ E.kind ∧ E.kind ≤ 3) ∧ 0 ≤ E.ref ∧ E.ref ≤ 4294967295 := by unfold ok; rw [decide_eq_true_eq]
theorem ok_fit {E : Ent} (h : ok E = true) : fit E := by
  obtain ⟨h1, h2, h3⟩ := ok_iff.1 h
  have := (valid_zero h1).1
  rw [toList_length] at this
  exact ⟨this, by omega, by omega⟩
theorem entB_length (E : Ent) : (entB E).length = E.name.size + 6 := by unfold entB; simp [by_length, sb_length]
theorem putB_length {L : List Ent} (h : ∀ E ∈ L, fit E) : (putB L).length ≤ 261 * L.length := by
  induction L with
  | nil => simp [putB]
  | cons E L ih =>
    have h1 := ih (fun X hX => h X (List.mem_cons_of_mem _ hX))
    have h2 := (h E (by simp)).1
    rw [putB_cons, List.length_append, List.length_cons, entB_length]; omega
theorem rise_cons {s : ByteArray} {E : Ent} {L : List Ent} : rise s (E :: L) = (nx s E && rise E.name L) := rfl
/-- The name ahead of a place. -/
def pv (L : List Ent) (i : Nat) : ByteArray := if i = 0 then em else (gl L (i - 1)).name
theorem pv_succ (L : List Ent) (i : Nat) : pv L (i + 1) = (gl L i).name := by simp [pv]
theorem rise_drop (L : List Ent) (i : Nat) (h : i < L.length) : rise (pv L i) (L.drop i) = (nx (pv L i) (gl L i) && rise (pv L (i + 1)) (L.drop (i + 1))) := by
  rw [drop_gl L i h, rise_cons, pv_succ]

/-! ### Bytes read as entries -/

/-! ### A function asked of one entry after the other -/

end Go.Proofs.YtoohanojfoichaaGreatDoor.Dir

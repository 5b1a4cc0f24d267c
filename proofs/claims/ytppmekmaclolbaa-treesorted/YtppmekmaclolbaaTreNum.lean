/- Layer 7: Inos as they come first. Nothing here speaks of one function of the program. -/
import Derived.Test.YtppmekmaclolbaaTreSort
import Derived.Test.YtppmekmaclolbaaTreLinks
namespace Go.Proofs.Ytppmekmaclolbaa
set_option linter.unusedVariables false
set_option linter.unusedSectionVars false
open Go.RowKit Go.Maps
open Nam Tre

namespace Tre
/-- How many keys there are among the first i, and their numbers. -/
def nst (ks : List Lit) : Nat → Nat × (Lit → Option Nat)
  | 0 => (0, fun _ => none)
  | i + 1 => if ((nst ks i).2 (ks.getD i (.bool false))).isSome = true then nst ks i else ((nst ks i).1 + 1, upd (nst ks i).2 (ks.getD i (.bool false)) ((nst ks i).1 + 1))
/-- The number of the i-th. -/
def nno (ks : List Lit) (i : Nat) : Nat := ((nst ks (i + 1)).2 (ks.getD i (.bool false))).getD 0
theorem nst_old {ks : List Lit} {i : Nat} (h : ((nst ks i).2 (ks.getD i (.bool false))).isSome = true) : nst ks (i + 1) = nst ks i := by rw [nst, if_pos h]
theorem nst_new {ks : List Lit} {i : Nat} (h : ¬ ((nst ks i).2 (ks.getD i (.bool false))).isSome = true) : nst ks (i + 1) = ((nst ks i).1 + 1, upd (nst ks i).2 (ks.getD i (.bool false)) ((nst ks i).1 + 1)) := by rw [nst, if_neg h]
theorem nst_le (ks : List Lit) : ∀ i, (nst ks i).1 ≤ i
  | 0 => Nat.le_refl _
  | i + 1 => by
    have := nst_le ks i
    by_cases h : ((nst ks i).2 (ks.getD i (.bool false))).isSome = true
    · rw [nst_old h]; omega
    · rw [nst_new h]; show _ + 1 ≤ _; omega
theorem getD_lit {ks : List Lit} (hk : ∀ k ∈ ks, WideAt.IsKeyLit k) {i : Nat} (h : i < ks.length) : ks.getD i (.bool false) = ks[i] ∧ WideAt.IsKeyLit ks[i] := ⟨by simp [h], hk _ (List.getElem_mem h)⟩
theorem nst_mem {ks : List Lit} (hk : ∀ k ∈ ks, WideAt.IsKeyLit k) : ∀ (i : Nat), i ≤ ks.length → ∀ k, ((nst ks i).2 k).isSome = true ↔ k ∈ ks.take i
  | 0, _, k => by simp [nst]
  | i + 1, hi, k => by
    have hi' : i < ks.length := by omega
    obtain ⟨hg, hl⟩ := getD_lit hk hi'
    have ih := nst_mem hk i (by omega)
    rw [List.take_succ_eq_append_getElem hi', List.mem_append, List.mem_singleton]
    by_cases h : ((nst ks i).2 (ks.getD i (.bool false))).isSome = true
    · rw [nst_old h, ih]
      rw [hg, ih] at h
      constructor
      · exact .inl
      · rintro (q | q)
        · exact q
        · rw [q]; exact h
    · rw [nst_new h, hg]
      by_cases e : k = ks[i]
      · rw [e]; simp only [upd_same _ _ _ hl]; simp
      · simp only [upd_other _ _ e]; rw [ih]; simp [e]
theorem nst_stay {ks : List Lit} (hk : ∀ k ∈ ks, WideAt.IsKeyLit k) {i : Nat} (hi : i < ks.length) {k : Lit} {z : Nat} (h : (nst ks i).2 k = some z) : (nst ks (i + 1)).2 k = some z := by
  by_cases h2 : ((nst ks i).2 (ks.getD i (.bool false))).isSome = true
  · rw [nst_old h2]; exact h
  · rw [nst_new h2]
    have : k ≠ ks.getD i (.bool false) := fun e => h2 (by rw [← e, h]; rfl)
    simp only [upd_other _ _ this]; exact h
theorem nst_far {ks : List Lit} (hk : ∀ k ∈ ks, WideAt.IsKeyLit k) {i : Nat} {k : Lit} {z : Nat} (h : (nst ks i).2 k = some z) : ∀ d, i + d ≤ ks.length → (nst ks (i + d)).2 k = some z
  | 0, _ => h
  | d + 1, hd => by
    have := nst_stay hk (i := i + d) (by omega) (nst_far hk h d (by omega))
    exact this
/-- The number of a key stays. -/
theorem nno_at {ks : List Lit} (hk : ∀ k ∈ ks, WideAt.IsKeyLit k) {i j : Nat} (hi : i ≤ ks.length) (hj : j < i) : (nst ks i).2 (ks.getD j (.bool false)) = some (nno ks j) := by
  have hm : ((nst ks (j + 1)).2 (ks.getD j (.bool false))).isSome = true := by
    rw [nst_mem hk (j + 1) (by omega), (getD_lit hk (show j < ks.length by omega)).1, List.take_succ_eq_append_getElem (show j < ks.length by omega)]
    exact List.mem_append.2 (.inr (List.mem_singleton.2 rfl))
  obtain ⟨z, hz⟩ := Option.isSome_iff_exists.1 hm
  have hn : nno ks j = z := by unfold nno; rw [hz]; rfl
  rw [hn]
  have := nst_far hk hz (i - (j + 1)) (by omega)
  rw [show j + 1 + (i - (j + 1)) = i by omega] at this
  exact this
theorem nno_old {ks : List Lit} (hk : ∀ k ∈ ks, WideAt.IsKeyLit k) {i j : Nat} (hi : i < ks.length) (hj : j < i) (e : ks[j] = ks[i]) : nno ks i = nno ks j := by
  have h1 := nno_at hk (i := i + 1) (j := i) (by omega) (by omega)
  have h2 := nno_at hk (i := i + 1) (j := j) (by omega) (by omega)
  rw [(getD_lit hk hi).1] at h1
  rw [(getD_lit hk (by omega)).1, e, h1] at h2
  exact Option.some.inj h2
theorem nno_new {ks : List Lit} (hk : ∀ k ∈ ks, WideAt.IsKeyLit k) {i : Nat} (hi : i < ks.length) (h : ks[i] ∉ ks.take i) : nno ks i = (nst ks i).1 + 1 ∧ (nst ks (i + 1)).1 = (nst ks i).1 + 1 := by
  obtain ⟨hg, hl⟩ := getD_lit hk hi
  have hne : ¬ ((nst ks i).2 (ks.getD i (.bool false))).isSome = true := by rw [nst_mem hk i (by omega), hg]; exact h
  unfold nno
  rw [nst_new hne, hg]
  simp only [upd_same _ _ _ hl]
  exact ⟨rfl, trivial⟩
theorem nst_same {ks : List Lit} (hk : ∀ k ∈ ks, WideAt.IsKeyLit k) {i : Nat} (hi : i < ks.length) (h : ks[i] ∈ ks.take i) : (nst ks (i + 1)).1 = (nst ks i).1 := by
  rw [nst_old (by rw [nst_mem hk i (by omega), (getD_lit hk hi).1]; exact h)]
/-- Numbers are at least 1, and at most as many as there are keys. -/
theorem nst_range {ks : List Lit} (hk : ∀ k ∈ ks, WideAt.IsKeyLit k) : ∀ (i : Nat), i ≤ ks.length → ∀ k z, (nst ks i).2 k = some z → 1 ≤ z ∧ z ≤ (nst ks i).1
  | 0, _, k, z, h => by simp [nst] at h
  | i + 1, hi, k, z, h => by
    have hi' : i < ks.length := by omega
    obtain ⟨hg, hl⟩ := getD_lit hk hi'
    by_cases h2 : ((nst ks i).2 (ks.getD i (.bool false))).isSome = true
    · rw [nst_old h2] at h ⊢; exact nst_range hk i (by omega) k z h
    · rw [nst_new h2] at h ⊢
      by_cases e : k = ks.getD i (.bool false)
      · have hs : upd (nst ks i).2 (ks.getD i (.bool false)) ((nst ks i).1 + 1) k = some ((nst ks i).1 + 1) := by rw [e]; exact upd_same _ _ _ (by rw [hg]; exact hl)
        rw [show (upd (nst ks i).2 (ks.getD i (.bool false)) ((nst ks i).1 + 1)) k = some z from h] at hs
        have := Option.some.inj hs
        subst this
        exact ⟨by omega, Nat.le_refl _⟩
      · simp only [upd_other _ _ e] at h
        have := nst_range hk i (by omega) k z h
        exact ⟨this.1, Nat.le_succ_of_le this.2⟩
theorem nno_range {ks : List Lit} (hk : ∀ k ∈ ks, WideAt.IsKeyLit k) {i : Nat} (hi : i < ks.length) : 1 ≤ nno ks i ∧ nno ks i ≤ (nst ks (i + 1)).1 := nst_range hk (i + 1) (by omega) _ _ (nno_at hk (by omega) (by omega))
/-- Nodes with the numbers of their Inos. -/
def numb (l : List Nod) : List Nod := l.mapIdx (fun i n => { n with ino := (nno (ikeys l) i : Int) })
theorem numb_length (l : List Nod) : (numb l).length = l.length := by simp [numb]
theorem numb_get (l : List Nod) (i : Nat) (h : i < l.length) : (numb l)[i]'(by rw [numb_length]; exact h) = { l[i] with ino := (nno (ikeys l) i : Int) } := by simp [numb]
end Tre
end Go.Proofs.Ytppmekmaclolbaa

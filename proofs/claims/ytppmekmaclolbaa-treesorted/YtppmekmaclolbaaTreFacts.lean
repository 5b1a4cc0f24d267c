/- Layer 7, on lists alone: what holds of a canonical row. -/
import Derived.Test.YtppmekmaclolbaaTreRefCanon
import Derived.Test.YtppmekmaclolbaaTreCanon
namespace Go.Proofs.Ytppmekmaclolbaa
set_option linter.unusedVariables false
open Go.RowKit Go.Maps
open Nam Tre

namespace Tre
theorem isDir_mem {l : List Nod} {m : List ByteArray} (h : isDir l m = true) : ∃ n ∈ l, n.names = m ∧ n.kind = 1 := by
  unfold isDir at h
  cases hf : l.find? (fun n => decide (n.names = m)) with
  | none => rw [hf] at h; cases h
  | some n =>
    rw [hf] at h
    exact ⟨n, List.mem_of_find?_eq_some hf, by simpa using List.find?_some hf, by simpa using h⟩
/-- The node at a place. -/
def gn (r : List Nod) (i : Nat) : Nod := r.getD i nod0
theorem gn_lt (r : List Nod) (i : Nat) (h : i < r.length) : gn r i = r[i] := by simp [gn, h]
/-- The greatest Ino of the first i. -/
def tp (r : List Nod) : Nat → Int
  | 0 => 0
  | i + 1 => max (tp r i) (gn r i).ino
theorem gn_numb (s : List Nod) (i : Nat) (h : i < s.length) : gn (numb s) i = { s[i] with ino := (nno (ikeys s) i : Int) } := by
  rw [gn_lt _ _ (by rw [numb_length]; exact h)]; exact numb_get s i h
theorem tp_numb (s : List Nod) : ∀ i, i ≤ s.length → tp (numb s) i = ((nst (ikeys s) i).1 : Int)
  | 0, _ => rfl
  | i + 1, h => by
    have hl : i < (ikeys s).length := by rw [ikeys_length]; omega
    rw [tp, tp_numb s i (by omega), gn_numb s i (by omega)]
    show max _ ((nno (ikeys s) i : Nat) : Int) = _
    by_cases hm : (ikeys s)[i] ∈ (ikeys s).take i
    · have h1 := nst_same (ikeys_lit s) hl hm
      have h2 := (nno_range (ikeys_lit s) hl).2
      rw [h1] at h2 ⊢
      omega
    · obtain ⟨h1, h2⟩ := nno_new (ikeys_lit s) hl hm
      rw [h1, h2]; omega
/-- What holds of a canonical row. -/
structure CanF (l r : List Nod) : Prop where
  len : r.length = l.length
  pos : 0 < r.length
  root : (gn r 0).names = []
  ord : ∀ i, 0 < i → i < r.length → ltn (gn r (i - 1)) (gn r i) = true
  ino : ∀ i, i < r.length → 1 ≤ (gn r i).ino ∧ (gn r i).ino ≤ tp r i + 1
  top : ∀ i, i ≤ r.length → 0 ≤ tp r i ∧ tp r i ≤ i
  par : ∀ i, i < r.length → (gn r i).names ≠ [] → ∃ k, k < i ∧ (gn r k).names = (gn r i).names.dropLast ∧ (gn r k).kind = 1
theorem less_drop {m : List ByteArray} (h : m ≠ []) : less (nm m.dropLast) (nm m) = true := by
  have e : m = m.dropLast ++ [m.getLast h] := (List.dropLast_concat_getLast h).symm
  conv => lhs; arg 2; rw [e]
  rw [nm_append]
  exact less_append _ _ _
theorem canF {l r : List Nod} (h0 : check l = 0) (h : IsCanon l r) : CanF l r := by
  obtain ⟨k1, k2, k3, k4, k5, k6, k7, k8⟩ := check_zero h0
  obtain ⟨s, hp, ho, rfl⟩ := h
  have hnd : (s.map Nod.names).Nodup := (hp.map Nod.names).nodup_iff.2 k4
  have hst : ∀ i j (hi : i < s.length) (hj : j < s.length), i < j → ltn s[i] s[j] = true := fun i j hi hj hij => by
    have h1 : ltn s[j] s[i] = false := List.pairwise_iff_getElem.1 ho i j hi hj hij
    have hne : s[i].names ≠ s[j].names := fun e => by
      have := List.pairwise_iff_getElem.1 hnd i j (by simpa using hi) (by simpa using hj) hij
      simp at this
      exact this e
    rcases less_total (nm s[i].names) (nm s[j].names) (fun q => hne (nm_inj q)) with q | q
    · exact q
    · rw [show ltn s[j] s[i] = true from q] at h1; cases h1
  have hlt : ∀ i j (hi : i < s.length) (hj : j < s.length), ltn s[i] s[j] = true → i < j := fun i j hi hj h => by
    rcases Nat.lt_trichotomy i j with q | q | q
    · exact q
    · subst q; rw [show ltn s[i] s[i] = false from less_irrefl _] at h; cases h
    · have := hst j i hj hi q
      rw [less_asymm _ _ (show less (nm s[j].names) (nm s[i].names) = true from this) |> (show ltn s[i] s[j] = false from ·)] at h; cases h
  have hmem : ∀ n ∈ l, ∃ j, ∃ (hj : j < s.length), s[j] = n := fun n hn => by
    obtain ⟨j, hj, e⟩ := List.getElem_of_mem (hp.mem_iff.2 hn)
    exact ⟨j, hj, e⟩
  obtain ⟨n0, hn0, hn1, hn2⟩ := isDir_mem k5
  obtain ⟨j0, hj0, hj1⟩ := hmem n0 hn0
  have hz : j0 = 0 := by
    rcases Nat.eq_zero_or_pos j0 with q | q
    · exact q
    · have := hst 0 j0 (by omega) hj0 q
      rw [hj1] at this
      unfold ltn at this
      rw [hn1] at this
      have e : less (nm (s[0]'(by omega)).names) (nm []) = false := less_end_right _
      rw [e] at this; cases this
  have hpos : 0 < s.length := by omega
  refine ⟨by rw [numb_length]; exact hp.length_eq, by rw [numb_length]; exact hpos, ?_, ?_, ?_, ?_, ?_⟩
  · rw [gn_numb s 0 hpos]
    subst hz
    show s[0].names = []
    rw [hj1]; exact hn1
  · intro i hi hl
    rw [numb_length] at hl
    rw [gn_numb s (i - 1) (by omega), gn_numb s i hl]
    exact hst (i - 1) i (by omega) hl (by omega)
  · intro i hi
    rw [numb_length] at hi
    have hl : i < (ikeys s).length := by rw [ikeys_length]; omega
    rw [tp_numb s i (by omega), gn_numb s i hi]
    show 1 ≤ ((nno (ikeys s) i : Nat) : Int) ∧ ((nno (ikeys s) i : Nat) : Int) ≤ _
    have hr := nno_range (ikeys_lit s) hl
    by_cases hm : (ikeys s)[i] ∈ (ikeys s).take i
    · have h1 := nst_same (ikeys_lit s) hl hm
      omega
    · obtain ⟨h1, h2⟩ := nno_new (ikeys_lit s) hl hm
      omega
  · intro i hi
    rw [numb_length] at hi
    rw [tp_numb s i hi]
    have := nst_le (ikeys s) i
    omega
  · intro i hi hne
    rw [numb_length] at hi
    rw [gn_numb s i hi] at hne ⊢
    have hne' : s[i].names ≠ [] := hne
    have hd := List.all_eq_true.1 k6 s[i] (hp.mem_iff.1 (List.getElem_mem hi))
    unfold inDir at hd
    rw [decide_eq_false (by intro q; exact hne' (List.eq_nil_of_length_eq_zero q)), Bool.false_or] at hd
    obtain ⟨n, hn, e1, e2⟩ := isDir_mem hd
    obtain ⟨k, hk, e3⟩ := hmem n hn
    have hki : k < i := hlt k i hk hi (by unfold ltn; rw [e3, e1]; exact less_drop hne')
    refine ⟨k, hki, ?_, ?_⟩
    · rw [gn_numb s k hk]; show s[k].names = _; rw [e3]; exact e1
    · rw [gn_numb s k hk]; show s[k].kind = 1; rw [e3]; exact e2
end Tre
theorem gn_nds (L : List (Nv × Nod)) (i : Nat) (h : i < L.length) : gn (nds L) i = (gl L i).2 := by
  rw [gn_lt _ _ (by rw [nds_length]; exact h), gl_lt L i h]; simp [nds]
end Go.Proofs.Ytppmekmaclolbaa

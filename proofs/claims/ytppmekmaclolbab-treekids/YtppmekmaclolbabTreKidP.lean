/- Layer 7: what is within the directories of a canonical row: each node but the root just once. The pure part. -/
import Derived.Test.YtppmekmaclolbabTreFacts
import Derived.Test.YtppmekmaclolbabTreLook
namespace Go.Proofs.Ytppmekmaclolbab
set_option linter.unusedVariables false
open Go.RowKit Go.Maps
open Nam Tre Stb

namespace Tre
/-- What holds of the places of a canonical row. -/
structure CanP (L : List (Nv × Nod)) : Prop where
  ord : ∀ i j, i < j → j < L.length → less (nm (gl L i).2.names) (nm (gl L j).2.names) = true
  par : ∀ i, i < L.length → (gl L i).2.names ≠ [] → ∃ k, k < L.length ∧ (gl L k).2.names = (gl L i).2.names.dropLast ∧ (gl L k).2.kind = 1
theorem canP {l : List Nod} {L : List (Nv × Nod)} (h : CanF l (nds L)) : CanP L := by
  have hl : (nds L).length = L.length := nds_length L
  refine ⟨?_, fun i hi hne => ?_⟩
  · intro i j hij
    induction j with
    | zero => omega
    | succ j ih =>
      intro hj
      have hs := h.ord (j + 1) (by omega) (by omega)
      rw [gn_nds L (j + 1) hj, show j + 1 - 1 = j by omega, gn_nds L j (by omega)] at hs
      rcases Nat.lt_or_ge i j with c | c
      · exact less_trans _ _ _ (ih c (by omega)) hs
      · obtain rfl : i = j := by omega
        exact hs
  · have h1 := h.par i (by omega)
    rw [gn_nds L i hi] at h1
    obtain ⟨k, k1, k2, k3⟩ := h1 hne
    rw [gn_nds L k (by omega)] at k2 k3
    exact ⟨k, by omega, k2, k3⟩
theorem CanP.inj {L : List (Nv × Nod)} (h : CanP L) {i j : Nat} (hi : i < L.length) (hj : j < L.length) (e : (gl L i).2.names = (gl L j).2.names) : i = j := by
  rcases Nat.lt_trichotomy i j with c | c | c
  · have := h.ord i j c hj
    rw [e, less_irrefl] at this; cases this
  · exact c
  · have := h.ord j i c hi
    rw [e, less_irrefl] at this; cases this
theorem CanP.lt {L : List (Nv × Nod)} (h : CanP L) {i j : Nat} (hi : i < L.length) (hj : j < L.length) (e : less (nm (gl L i).2.names) (nm (gl L j).2.names) = true) : i < j := by
  rcases Nat.lt_trichotomy i j with c | c | c
  · exact c
  · subst c; rw [less_irrefl] at e; cases e
  · have := h.ord j i c hi
    rw [less_asymm _ _ this] at e; cases e
theorem kid_iff {L : List (Nv × Nod)} {k : List ByteArray} {j : Nat} : kid L k j = true ↔ (gl L j).2.names ≠ [] ∧ k = (gl L j).2.names.dropLast := by
  simp only [kid, Bool.and_eq_true, decide_eq_true_eq]
  generalize (gl L j).2.names = m
  constructor
  · rintro ⟨h1, h2⟩
    refine ⟨fun e => by rw [e] at h1; simp at h1, ?_⟩
    rw [List.dropLast_eq_take, h1, ← h2]; simp
  · rintro ⟨h1, h2⟩
    have hl : 0 < m.length := List.length_pos_iff.2 h1
    have hk : k.length + 1 = m.length := by rw [h2]; simp; omega
    refine ⟨hk.symm, ?_⟩
    rw [h2, List.dropLast_eq_take, List.length_take, Nat.min_eq_left (by omega)]
/-- How often the x-th node was told, by the first i. -/
def tm (L : List (Nv × Nod)) : Nat → Nat → Nat
  | 0, _ => 0
  | i + 1, x => tm L i x + if kid L (gl L i).2.names x = true then 1 else 0
theorem tm_le (L : List (Nv × Nod)) : ∀ i x, tm L i x ≤ i
  | 0, _ => Nat.le_refl _
  | i + 1, x => by
    have := tm_le L i x
    unfold tm
    split <;> omega
theorem tm_none {L : List (Nv × Nod)} {x : Nat} (h : (gl L x).2.names = []) : ∀ i, tm L i x = 0
  | 0 => rfl
  | i + 1 => by
    rw [tm, tm_none h i, if_neg]
    intro k
    exact (kid_iff.1 k).1 h
theorem tm_one {L : List (Nv × Nod)} (h : CanP L) {x : Nat} (hx : x < L.length) (hne : (gl L x).2.names ≠ []) : tm L L.length x = 1 := by
  obtain ⟨k, k1, k2, _⟩ := h.par x hx hne
  have : ∀ i, i ≤ L.length → tm L i x = if k < i then 1 else 0 := by
    intro i
    induction i with
    | zero => intro _; rfl
    | succ i ih =>
      intro hi
      rw [tm, ih (by omega)]
      by_cases e : i = k
      · subst e
        rw [if_neg (by omega), if_pos (kid_iff.2 ⟨hne, k2⟩), if_pos (by omega)]
      · have : ¬ kid L (gl L i).2.names x = true := fun q => e (h.inj (by omega) k1 ((kid_iff.1 q).2.trans k2.symm))
        rw [if_neg this]
        by_cases c : k < i
        · rw [if_pos c, if_pos (by omega)]
        · rw [if_neg c, if_neg (by omega)]
  rw [this _ (Nat.le_refl _), if_pos k1]
theorem kids_none {L : List (Nv × Nod)} (h : CanP L) {i : Nat} (hi : i < L.length) (hk : (gl L i).2.kind ≠ 1) {K : List Nat} (hK : IsKids L (gl L i).2.names K) : K = [] := by
  cases K with
  | nil => rfl
  | cons x r =>
    obtain ⟨h1, h2⟩ := (hK.mem x).1 (by simp)
    obtain ⟨h3, h4⟩ := kid_iff.1 h2
    obtain ⟨k, k1, k2, k3⟩ := h.par x h1 h3
    obtain rfl : i = k := h.inj hi k1 (h4.trans k2.symm)
    exact absurd k3 hk
theorem kids_rise {L : List (Nv × Nod)} (h : CanP L) {k : List ByteArray} {K : List Nat} (hK : IsKids L k K) : K.Pairwise (· < ·) := by
  refine hK.pw.imp_of_mem ?_
  intro x y hx hy hxy
  obtain ⟨x1, x2⟩ := (hK.mem x).1 hx
  obtain ⟨y1, y2⟩ := (hK.mem y).1 hy
  rcases hxy with c | ⟨_, c⟩
  · refine h.lt x1 y1 ?_
    have hn : ∀ z, kid L k z = true → nm (gl L z).2.names = nm k ++ [ky L k.length z] := fun z hz => by
      simp only [kid, Bool.and_eq_true, decide_eq_true_eq] at hz
      unfold ky
      generalize (gl L z).2.names = m at *
      have : m = k ++ [gs m k.length] := by
        have e := List.take_append_drop k.length m
        rw [hz.2, List.drop_eq_getElem_cons (by omega), List.drop_eq_nil_of_le (by omega), ← gs_lt m k.length (by omega)] at e
        exact e.symm
      conv => lhs; rw [this]
      rw [nm_append]; rfl
    rw [hn x x2, hn y y2, less_pre]
    unfold less
    rw [if_neg (fun e => by rw [e, bless_irrefl] at c; cases c)]
    exact c
  · exact c
theorem find_at {L : List (Nv × Nod)} (h : CanP L) {i : Nat} (hi : i < L.length) : fi (nmd (gl L i).2.names) 0 (nds L) = (i : Int) := by
  have hil : i < (nds L).length := by rw [nds_length]; exact hi
  have hg : ∀ j (hj : j < (nds L).length), (nds L)[j] = (gl L j).2 := fun j hj => by
    rw [gl_lt L j (by rw [nds_length] at hj; exact hj)]; simp [nds]
  rcases fi_spec (nmd (gl L i).2.names) (nds L) 0 with ⟨_, h2⟩ | ⟨j, h1, hj, h2⟩
  · rw [List.find?_eq_none] at h2
    have := h2 _ (List.getElem_mem hil)
    rw [hg i hil] at this
    simp [nmd] at this
  · have := List.find?_some h2
    rw [hg j hj] at this
    have e : (gl L j).2.names = (gl L i).2.names := by simpa [nmd] using this
    rw [h1, h.inj (by rw [nds_length] at hj; exact hj) hi e]
    simp
end Tre
/-- The times while the first jj of K were told. -/
def tj (L : List (Nv × Nod)) (i : Nat) (K : List Nat) (jj : Nat) : Nat → Nat := fun x => tm L i x + if x ∈ K.take jj then 1 else 0
theorem tj_zero (L : List (Nv × Nod)) (i : Nat) (K : List Nat) : tj L i K 0 = tm L i := by
  funext x; simp [tj]
theorem tj_end {L : List (Nv × Nod)} {i : Nat} {K : List Nat} (hK : IsKids L (gl L i).2.names K) {x : Nat} (hx : x < L.length) : tj L i K K.length x = tm L (i + 1) x := by
  unfold tj
  rw [tm, List.take_length]
  by_cases c : kid L (gl L i).2.names x = true
  · rw [if_pos c, if_pos ((hK.mem x).2 ⟨hx, c⟩)]
  · rw [if_neg c, if_neg (fun q => c ((hK.mem x).1 q).2)]
theorem tj_step {L : List (Nv × Nod)} {i : Nat} {K : List Nat} (hr : K.Pairwise (· < ·)) {jj : Nat} (hj : jj < K.length) : tj L i K jj (fn0 K jj) = tm L i (fn0 K jj) ∧ (fun x => if x = fn0 K jj then tj L i K jj (fn0 K jj) + 1 else tj L i K jj x) = tj L i K (jj + 1) := by
  have hf := fn0_lt K jj hj
  have hnm : fn0 K jj ∉ K.take jj := fun q => by
    obtain ⟨p, hp, e⟩ := List.getElem_of_mem q
    have hp' : p < jj := by simp at hp; omega
    rw [List.getElem_take] at e
    have := List.pairwise_iff_getElem.1 hr p jj (by omega) hj hp'
    omega
  refine ⟨by unfold tj; rw [if_neg hnm]; rfl, ?_⟩
  funext x
  unfold tj
  rw [List.take_succ_eq_append_getElem hj, ← hf]
  by_cases c : x = fn0 K jj
  · subst c
    rw [if_pos rfl, if_neg hnm, if_pos (by simp)]
  · rw [if_neg c]
    congr 1
    by_cases d : x ∈ K.take jj
    · rw [if_pos d, if_pos (by simp [d])]
    · rw [if_neg d, if_neg (by simp [d, c])]
end Go.Proofs.Ytppmekmaclolbab

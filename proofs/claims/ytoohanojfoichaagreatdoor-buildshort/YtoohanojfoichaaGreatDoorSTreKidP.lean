/- What the proof stands on: TreKidP, with what the proof reaches of it. -/
import Derived.Test.YtoohanojfoichaaGreatDoorSJTreCanon
import Derived.Test.YtoohanojfoichaaGreatDoorSJTreKid0

/- Layer 7: what is within the directories of a canonical row: each node but the root just once. The pure part. -/
namespace Go.Proofs.YtoohanojfoichaaGreatDoor
set_option linter.unusedVariables false
open Go.RowKit Go.Maps
open Nam Tre Stb

namespace Tre
/-- What holds of the places of a canonical row. -/
structure CanP (L : List (Nv × Nod)) : Prop where
  ord : ∀ i j, i < j → j < L.length → less (nm (gl L i).2.names) (nm (gl L j).2.names) = true
  par : ∀ i, i < L.length → (gl L i).2.names ≠ [] → ∃ k, k < L.length ∧ (gl L k).2.names = (gl L i).2.names.dropLast ∧ (gl L k).2.kind = 1
theorem canP {l : List Nod} {L : List (Nv × Nod)} (h : CanF l (nds L)) : CanP L := by
  have hl : (nds L).length = L.length := nds_length L
  refine ⟨?_, fun i hi hne => ?_⟩
  · intro i j hij
    induction j with
    | zero => omega
    | succ j ih =>
      intro hj
      have hs := h.ord (j + 1) (by omega) (by omega)
      rw [gn_nds L (j + 1) hj, show j + 1 - 1 = j by omega, gn_nds L j (by omega)] at hs
      rcases Nat.lt_or_ge i j with c | c
      · exact less_trans _ _ _ (ih c (by omega)) hs
      · obtain rfl : i = j := by omega
        exact hs
  · have h1 := h.par i (by omega)
    rw [gn_nds L i hi] at h1
    obtain ⟨k, k1, k2, k3⟩ := h1 hne
    rw [gn_nds L k (by omega)] at k2 k3
    exact ⟨k, by omega, k2, k3⟩
theorem CanP.lt {L : List (Nv × Nod)} (h : CanP L) {i j : Nat} (hi : i < L.length) (hj : j < L.length) (e : less (nm (gl L i).2.names) (nm (gl L j).2.names) = true) : i < j := by
  rcases Nat.lt_trichotomy i j with c | c | c
  · exact c
  · subst c; rw [less_irrefl] at e; cases e
  · have := h.ord j i c hi
    rw [less_asymm _ _ this] at e; cases e
theorem kids_rise {L : List (Nv × Nod)} (h : CanP L) {k : List ByteArray} {K : List Nat} (hK : IsKids L k K) : K.Pairwise (· < ·) := by
  refine hK.pw.imp_of_mem ?_
  intro x y hx hy hxy
  obtain ⟨x1, x2⟩ := (hK.mem x).1 hx
  obtain ⟨y1, y2⟩ := (hK.mem y).1 hy
  rcases hxy with c | ⟨_, c⟩
  · refine h.lt x1 y1 ?_
    have hn : ∀ z, kid L k z = true → nm (gl L z).2.names = nm k ++ [ky L k.length z] := fun z hz => by
      simp only [kid, Bool.and_eq_true, decide_eq_true_eq] at hz
      unfold ky
      generalize (gl L z).2.names = m at *
      have : m = k ++ [gs m k.length] := by
        have e := List.take_append_drop k.length m
        rw [hz.2, List.drop_eq_getElem_cons (by omega), List.drop_eq_nil_of_le (by omega), ← gs_lt m k.length (by omega)] at e
        exact e.symm
      conv => lhs; rw [this]
      rw [nm_append]; rfl
    rw [hn x x2, hn y y2, less_pre]
    unfold less
    rw [if_neg (fun e => by rw [e, bless_irrefl] at c; cases c)]
    exact c
  · exact c
end Tre
end Go.Proofs.YtoohanojfoichaaGreatDoor

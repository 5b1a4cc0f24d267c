/- Layer 13: tails that are packed into blocks, as pure functions: what Add answers and leaves; what was added stands there; what Read answers. -/
import Derived.Test.YtgmkldfjbjnkcaaOwn
import Derived.Test.YtgmkldfjbjnkcaaNums
namespace Go.Proofs.Ytgmkldfjbjnkcaa.Frg
set_option linter.unusedVariables false
open Lz (g)
open Frm

/-- The blocks. -/
abbrev Bl := List (List Int)
/-- How many bytes each block has. -/
def szs (L : Bl) : List Int := L.map fun b => (b.length : Int)
theorem szs_length (L : Bl) : (szs L).length = L.length := by simp [szs]
theorem szs_append (A B : Bl) : szs (A ++ B) = szs A ++ szs B := by simp [szs]
theorem szs_one (b : List Int) : szs [b] = [(b.length : Int)] := rfl
theorem szs_at (L : Bl) (i : Nat) (h : i < L.length) : g (szs L) i = (L[i].length : Int) := by simp [szs, g, h]
/-- The last block. -/
def top (L : Bl) : List Int := L.getLastD []
theorem top_app (K : Bl) (t : List Int) : top (K ++ [t]) = t := by simp [top]
/-- Add: the blocks behind it, the number, the place. -/
def add (L : Bl) (z : List Int) : Bl × Nat × Nat :=
  if z.length < 1 ∨ 128 ≤ z.length then (L, 0, 0)
  else if L.length = 0 ∨ 128 < (top L).length + z.length then (L ++ [z], L.length + 1, 0)
  else (L.dropLast ++ [top L ++ z], L.length, (top L).length)
theorem split_last (L : Bl) (h : L.length ≠ 0) : ∃ K t, L = K ++ [t] :=
  ⟨L.dropLast, L.getLast (fun e => h (by rw [e]; rfl)), (List.dropLast_concat_getLast _).symm⟩
theorem add_bad {L : Bl} {z : List Int} (h : z.length < 1 ∨ 128 ≤ z.length) : add L z = (L, 0, 0) := by unfold add; rw [if_pos h]
theorem add_new {L : Bl} {z : List Int} (h : ¬ (z.length < 1 ∨ 128 ≤ z.length)) (h2 : L.length = 0 ∨ 128 < (top L).length + z.length) : add L z = (L ++ [z], L.length + 1, 0) := by unfold add; rw [if_neg h, if_pos h2]
theorem add_in {K : Bl} {t z : List Int} (h : ¬ (z.length < 1 ∨ 128 ≤ z.length)) (h2 : t.length + z.length ≤ 128) : add (K ++ [t]) z = (K ++ [t ++ z], K.length + 1, t.length) := by
  unfold add
  rw [if_neg h, if_neg (by rw [top_app]; simp; omega), top_app]
  simp
theorem add_cases (L : Bl) (z : List Int) : ((z.length < 1 ∨ 128 ≤ z.length) ∧ add L z = (L, 0, 0)) ∨
    (¬ (z.length < 1 ∨ 128 ≤ z.length) ∧ (L = [] ∨ ∃ K t, L = K ++ [t] ∧ 128 < t.length + z.length) ∧ add L z = (L ++ [z], L.length + 1, 0)) ∨
    (¬ (z.length < 1 ∨ 128 ≤ z.length) ∧ ∃ K t, L = K ++ [t] ∧ t.length + z.length ≤ 128 ∧ add L z = (K ++ [t ++ z], K.length + 1, t.length)) := by
  by_cases h : z.length < 1 ∨ 128 ≤ z.length
  · exact .inl ⟨h, add_bad h⟩
  · by_cases h0 : L.length = 0
    · exact .inr (.inl ⟨h, .inl (List.eq_nil_of_length_eq_zero h0), add_new h (.inl h0)⟩)
    · obtain ⟨K, t, rfl⟩ := split_last L h0
      by_cases h2 : 128 < t.length + z.length
      · exact .inr (.inl ⟨h, .inr ⟨K, t, rfl, h2⟩, add_new h (.inr (by rw [top_app]; exact h2))⟩)
      · exact .inr (.inr ⟨h, K, t, rfl, by omega, add_in h (by omega)⟩)
/-- Each block has bytes, 128 at most. -/
def Ok (L : Bl) : Prop := ∀ b ∈ L, 1 ≤ b.length ∧ b.length ≤ 128
theorem ok_nil : Ok [] := fun b hb => by simp at hb
theorem ok_add {L : Bl} (h : Ok L) (z : List Int) : Ok (add L z).1 := by
  rcases add_cases L z with ⟨_, e⟩ | ⟨h1, _, e⟩ | ⟨h1, K, t, rfl, h2, e⟩
  · rw [e]; exact h
  · rw [e]
    intro b hb
    rcases List.mem_append.1 hb with hb | hb
    · exact h b hb
    · obtain rfl : b = z := by simpa using hb
      omega
  · rw [e]
    intro b hb
    rcases List.mem_append.1 hb with hb | hb
    · exact h b (by simp [hb])
    · obtain rfl : b = t ++ z := by simpa using hb
      rw [List.length_append]; omega
theorem add_length (L : Bl) (z : List Int) : L.length ≤ (add L z).1.length ∧ (add L z).1.length ≤ L.length + 1 := by
  rcases add_cases L z with ⟨_, e⟩ | ⟨h1, _, e⟩ | ⟨h1, K, t, rfl, h2, e⟩
  · rw [e]; simp
  · rw [e]; simp
  · rw [e]; simp
theorem add_flat (L : Bl) (z : List Int) : (add L z).1.flatten.length ≤ L.flatten.length + z.length := by
  rcases add_cases L z with ⟨_, e⟩ | ⟨h1, _, e⟩ | ⟨h1, K, t, rfl, h2, e⟩
  · rw [e]; simp
  · rw [e]; simp
  · rw [e]; simp; omega
/-- A tail stands there. -/
def Has (L : Bl) (z : List Int) (n o : Nat) : Prop := 1 ≤ n ∧ ∃ b, L[n - 1]? = some b ∧ o + z.length ≤ b.length ∧ (b.drop o).take z.length = z
theorem has_add {L : Bl} {z : List Int} (h : ¬ (z.length < 1 ∨ 128 ≤ z.length)) : Has (add L z).1 z (add L z).2.1 (add L z).2.2 := by
  rcases add_cases L z with ⟨h1, e⟩ | ⟨h1, _, e⟩ | ⟨h1, K, t, rfl, h2, e⟩
  · exact absurd h1 h
  · rw [e]
    exact ⟨by simp, z, by simp, by simp, by simp⟩
  · rw [e]
    exact ⟨by simp, t ++ z, by simp, by simp, by simp⟩
theorem has_on {L : Bl} {y : List Int} {n o : Nat} (h : Has L y n o) (z : List Int) : Has (add L z).1 y n o := by
  obtain ⟨h1, b, hb, h2, h3⟩ := h
  have hlt : n - 1 < L.length := (List.getElem?_eq_some_iff.1 hb).1
  rcases add_cases L z with ⟨_, e⟩ | ⟨_, _, e⟩ | ⟨_, K, t, rfl, _, e⟩
  · rw [e]; exact ⟨h1, b, hb, h2, h3⟩
  · rw [e]
    exact ⟨h1, b, by show (L ++ [z])[n - 1]? = _; rw [List.getElem?_append_left hlt]; exact hb, h2, h3⟩
  · rw [e]
    by_cases hk : n - 1 < K.length
    · rw [List.getElem?_append_left hk] at hb
      exact ⟨h1, b, by show (K ++ [t ++ z])[n - 1]? = _; rw [List.getElem?_append_left hk]; exact hb, h2, h3⟩
    · have hn : n - 1 = K.length := by simp at hlt; omega
      rw [hn] at hb
      obtain rfl : t = b := by simpa using hb
      refine ⟨h1, t ++ z, by show (K ++ [t ++ z])[n - 1]? = _; rw [hn]; simp, by rw [List.length_append]; omega, ?_⟩
      rw [List.drop_append_of_le_length (by omega), List.take_append_of_le_length (by rw [List.length_drop]; omega)]
      exact h3
/-- The blocks, k tails having been added. -/
def stt (z : Nat → List Int) : Nat → Bl
  | 0 => []
  | k + 1 => (add (stt z k) (z k)).1
theorem stt_ok (z : Nat → List Int) : ∀ k, Ok (stt z k)
  | 0 => ok_nil
  | k + 1 => ok_add (stt_ok z k) _
theorem stt_len (z : Nat → List Int) : ∀ k, (stt z k).length ≤ k
  | 0 => Nat.le_refl _
  | k + 1 => by
    have := stt_len z k
    have := (add_length (stt z k) (z k)).2
    show (add (stt z k) (z k)).1.length ≤ _
    omega
theorem stt_flat (z : Nat → List Int) (m : Nat) (hz : ∀ j, (z j).length ≤ m) : ∀ k, (stt z k).flatten.length ≤ m * k
  | 0 => by simp [stt]
  | k + 1 => by
    have h1 := stt_flat z m hz k
    have h2 := add_flat (stt z k) (z k)
    have h3 := hz k
    show (add (stt z k) (z k)).1.flatten.length ≤ _
    rw [Nat.mul_succ]; omega
theorem stt_has (z : Nat → List Int) (j : Nat) (h : ¬ ((z j).length < 1 ∨ 128 ≤ (z j).length)) : ∀ k, j < k → Has (stt z k) (z j) (add (stt z j) (z j)).2.1 (add (stt z j) (z j)).2.2
  | 0, hk => by omega
  | k + 1, hk => by
    by_cases e : j = k
    · subst e; exact has_add h
    · exact has_on (stt_has z j h k (by omega)) (z k)
/-- What Read answers: bytes and error. -/
def rd (T : Nat → Nat) (z : List Int) (P : List Int) (number off n : Int) : List Int × Int :=
  if number < 1 ∨ (P.length : Int) < number ∨ off < 0 ∨ n < 0 then ([], 1)
  else if (take T z (g P (number - 1).toNat)).2.2 ≠ 0 ∨ (take T z (g P (number - 1).toNat)).1.length = 0 ∨ ((take T z (g P (number - 1).toNat)).1.length : Int) - off < n then ([], 35)
  else (((take T z (g P (number - 1).toNat)).1.drop off.toNat).take n.toNat, 0)
theorem rd_arg {T : Nat → Nat} {z P : List Int} {number off n : Int} (h : number < 1 ∨ (P.length : Int) < number ∨ off < 0 ∨ n < 0) : rd T z P number off n = ([], 1) := by unfold rd; rw [if_pos h]
theorem rd_io {T : Nat → Nat} {z P : List Int} {number off n : Int} (h : ¬ (number < 1 ∨ (P.length : Int) < number ∨ off < 0 ∨ n < 0)) (h2 : (take T z (g P (number - 1).toNat)).2.2 ≠ 0 ∨ (take T z (g P (number - 1).toNat)).1.length = 0 ∨ ((take T z (g P (number - 1).toNat)).1.length : Int) - off < n) : rd T z P number off n = ([], 35) := by unfold rd; rw [if_neg h, if_pos h2]
theorem rd_ok {T : Nat → Nat} {z P : List Int} {number off n : Int} (h : ¬ (number < 1 ∨ (P.length : Int) < number ∨ off < 0 ∨ n < 0)) (h2 : ¬ ((take T z (g P (number - 1).toNat)).2.2 ≠ 0 ∨ (take T z (g P (number - 1).toNat)).1.length = 0 ∨ ((take T z (g P (number - 1).toNat)).1.length : Int) - off < n)) : rd T z P number off n = (((take T z (g P (number - 1).toNat)).1.drop off.toNat).take n.toNat, 0) := by unfold rd; rw [if_neg h, if_neg h2]
/-- The blocks' frames, one behind the other, and where each begins. -/
def frs (T : Nat → Nat) (L : Bl) (k : Nat) : List Int := ((L.take k).map (put T)).flatten
theorem frs_zero (T : Nat → Nat) (L : Bl) : frs T L 0 = [] := rfl
theorem frs_succ (T : Nat → Nat) (L : Bl) (k : Nat) (h : k < L.length) : frs T L (k + 1) = frs T L k ++ put T L[k] := by
  unfold frs
  rw [List.take_succ_eq_append_getElem h]
  simp only [List.map_append, List.map_cons, List.map_nil, List.flatten_append, List.flatten_cons, List.flatten_nil, List.append_nil]
def plc (T : Nat → Nat) (A : List Int) (L : Bl) (k : Nat) : List Int := (List.range k).map fun j => ((A.length + (frs T L j).length : Nat) : Int)
theorem plc_succ (T : Nat → Nat) (A : List Int) (L : Bl) (k : Nat) : plc T A L (k + 1) = plc T A L k ++ [((A.length + (frs T L k).length : Nat) : Int)] := by simp [plc, List.range_succ]
theorem plc_length (T : Nat → Nat) (A : List Int) (L : Bl) (k : Nat) : (plc T A L k).length = k := by simp [plc]
theorem plc_at (T : Nat → Nat) (A : List Int) (L : Bl) (k j : Nat) (h : j < k) : g (plc T A L k) j = ((A.length + (frs T L j).length : Nat) : Int) := by simp [plc, g, h]
theorem frs_split (T : Nat → Nat) (L : Bl) (j : Nat) (h : j < L.length) : ∃ Z, frs T L L.length = frs T L j ++ (put T L[j] ++ Z) := by
  refine ⟨((L.drop (j + 1)).map (put T)).flatten, ?_⟩
  unfold frs
  rw [List.take_length, ← List.append_assoc]
  conv => lhs; rw [← List.take_append_drop (j + 1) L]
  rw [List.take_succ_eq_append_getElem h]
  simp only [List.map_append, List.map_cons, List.map_nil, List.flatten_append, List.flatten_cons, List.flatten_nil, List.append_nil, List.append_assoc]
theorem frs_len (T : Nat → Nat) (L : Bl) (h : Ok L) : ∀ k, k ≤ L.length → (frs T L k).length ≤ 135 * k
  | 0, _ => by simp [frs]
  | k + 1, hk => by
    have ih := frs_len T L h k (by omega)
    have h1 := (put_length (T := T) (b := L[k]) (h _ (List.getElem_mem _)).2).2.2
    rw [frs_succ T L k (by omega), List.length_append]
    omega
/-- What was added is read. -/
theorem rd_has {T : Nat → Nat} (hS : Small T) {L : Bl} {z A : List Int} {n o : Nat} (hk : Ok L) (h : Has L z n o) : rd T (A ++ frs T L L.length) (plc T A L L.length) n o z.length = (z, 0) := by
  obtain ⟨h1, b, hb, h2, h3⟩ := h
  obtain ⟨hlt, hbe⟩ := List.getElem?_eq_some_iff.1 hb
  have hob := hk b (by rw [← hbe]; exact List.getElem_mem _)
  obtain ⟨Z, hZ⟩ := frs_split T L (n - 1) hlt
  have hp : g (plc T A L L.length) ((n : Int) - 1).toNat = (((A ++ frs T L (n - 1)).length : Nat) : Int) := by
    rw [show ((n : Int) - 1).toNat = n - 1 by omega, plc_at _ _ _ _ _ hlt, List.length_append]
  have ht : take T (A ++ frs T L L.length) (g (plc T A L L.length) ((n : Int) - 1).toNat) = (b, (((A ++ frs T L (n - 1)).length + (put T b).length : Nat) : Int), 0) := by
    rw [hp, hZ, ← List.append_assoc, hbe]
    exact (take_put hS hob.2 (A ++ frs T L (n - 1)) Z).1
  have hc1 : ¬ ((n : Int) < 1 ∨ ((plc T A L L.length).length : Int) < (n : Int) ∨ (o : Int) < 0 ∨ (z.length : Int) < 0) := by
    rw [plc_length]; omega
  rw [rd_ok hc1 (by rw [ht]; simp only []; omega), ht]
  simp only [Int.toNat_natCast]
  rw [h3]
end Go.Proofs.Ytgmkldfjbjnkcaa.Frg

/- The plain mathematics of the chain of places that begin with the same three bytes, and why following it finds the longest and nearest match. -/
import Derived.Test.YtahbgebnmgnmoaaLzPure
namespace Go.Proofs.Ytahbgebnmgnmoaa.Lz

/-- Three bytes as one number. -/
def key (zs : List Int) (i : Nat) : Int := g zs i + 256 * g zs (i + 1) + 65536 * g zs (i + 2)
/-- The last place below k that has the key q. -/
def lastP (zs : List Int) (q : Int) : Nat → Option Nat
  | 0 => none
  | k + 1 => if key zs k = q then some k else lastP zs q k
def prevOf : Option Nat → Int
  | some p => p
  | none => -1
/-- Of each place below k the last one ahead of it that has the same key, or -1. -/
def aheadL (zs : List Int) : Nat → List Int
  | 0 => []
  | k + 1 => aheadL zs k ++ [prevOf (lastP zs (key zs k) k)]

theorem lastP_some (zs : List Int) (q : Int) : ∀ k n, lastP zs q k = some n → n < k ∧ key zs n = q ∧ ∀ j, n < j → j < k → key zs j ≠ q
  | 0, n, h => by simp [lastP] at h
  | k + 1, n, h => by
    unfold lastP at h
    split at h
    · rename_i e
      have : k = n := by simpa using h
      subst this
      exact ⟨by omega, e, fun j h1 h2 => by omega⟩
    · rename_i e
      obtain ⟨h1, h2, h3⟩ := lastP_some zs q k n h
      refine ⟨by omega, h2, fun j j1 j2 => ?_⟩
      by_cases ej : j = k
      · rw [ej]; exact e
      · exact h3 j j1 (by omega)
theorem lastP_none (zs : List Int) (q : Int) : ∀ k, lastP zs q k = none → ∀ j, j < k → key zs j ≠ q
  | 0, _, j, hj => by omega
  | k + 1, h, j, hj => by
    unfold lastP at h
    split at h
    · simp at h
    · rename_i e
      by_cases ej : j = k
      · rw [ej]; exact e
      · exact lastP_none zs q k h j (by omega)
theorem prevOf_lt (zs : List Int) (q : Int) (k : Nat) : -1 ≤ prevOf (lastP zs q k) ∧ prevOf (lastP zs q k) < k := by
  cases h : lastP zs q k with
  | none => simp [prevOf]; omega
  | some n => have := lastP_some zs q k n h; simp [prevOf]; omega
theorem aheadL_length (zs : List Int) : ∀ k, (aheadL zs k).length = k
  | 0 => rfl
  | k + 1 => by simp [aheadL, aheadL_length zs k]
theorem aheadL_at (zs : List Int) : ∀ k i, i < k → g (aheadL zs k) i = prevOf (lastP zs (key zs i) i)
  | 0, i, h => by omega
  | k + 1, i, h => by
    by_cases e : i = k
    · subst e
      simp [aheadL, g, aheadL_length]
    · rw [aheadL, g_append_left _ _ _ (by rw [aheadL_length]; omega)]
      exact aheadL_at zs k i (by omega)
theorem aheadL_mem (zs : List Int) : ∀ k, ∀ x ∈ aheadL zs k, -1 ≤ x ∧ x < k
  | 0, x, h => by simp [aheadL] at h
  | k + 1, x, h => by
    simp only [aheadL, List.mem_append, List.mem_singleton] at h
    rcases h with h | h
    · have := aheadL_mem zs k x h; omega
    · have := prevOf_lt zs (key zs k) k; omega

theorem key_inj (zs : List Int) (i j : Nat) (hb : ∀ i, 0 ≤ g zs i ∧ g zs i ≤ 255) (h : key zs i = key zs j) : g zs i = g zs j ∧ g zs (i + 1) = g zs (j + 1) ∧ g zs (i + 2) = g zs (j + 2) := by
  have := hb i; have := hb (i + 1); have := hb (i + 2); have := hb j; have := hb (j + 1); have := hb (j + 2)
  unfold key at h
  omega
theorem key_bd (zs : List Int) (i : Nat) (hb : ∀ i, 0 ≤ g zs i ∧ g zs i ≤ 255) : 0 ≤ key zs i ∧ key zs i ≤ 16777215 := by
  have := hb i; have := hb (i + 1); have := hb (i + 2)
  unfold key
  omega
/-- Places with other keys have fewer than three bytes alike. -/
theorem lb_small (zs : List Int) (a j : Nat) (h : key zs (a - j) ≠ key zs a) : lb zs a j < 3 := by
  rcases Nat.lt_or_ge (lb zs a j) 3 with h3 | h3
  · exact h3
  · refine absurd ?_ h
    have e0 := lk_eq zs (most zs a) (a - j) a 0 (by unfold lb at h3; omega)
    have e1 := lk_eq zs (most zs a) (a - j) a 1 (by unfold lb at h3; omega)
    have e2 := lk_eq zs (most zs a) (a - j) a 2 (by unfold lb at h3; omega)
    simp only [Nat.add_zero] at e0
    unfold key
    rw [e0, e1, e2]
theorem lb_three (zs : List Int) (a j : Nat) (hb : ∀ i, 0 ≤ g zs i ∧ g zs i ≤ 255) (hm : 3 ≤ most zs a) (h : key zs (a - j) = key zs a) : 3 ≤ lb zs a j := by
  obtain ⟨e0, e1, e2⟩ := key_inj zs _ _ hb h
  refine lk_ge zs (a - j) a (most zs a) 3 hm (fun k hk => ?_)
  match k, hk with
  | 0, _ => exact e0
  | 1, _ => exact e1
  | 2, _ => exact e2

/-- What is known when the backs up to c have been tried. -/
def Inv (zs : List Int) (a l bk c : Nat) : Prop := (l = 0 ∧ bk = 0 ∧ (best zs a c).1 < 3) ∨ (3 ≤ l ∧ best zs a c = (l, bk))

theorem Inv.skip {zs : List Int} {a l bk c : Nat} (h : Inv zs a l bk c) (k : Nat) (hk : ∀ i, c < i → i ≤ c + k → lb zs a i < 3) : Inv zs a l bk (c + k) := by
  rcases h with ⟨h1, h2, h3⟩ | ⟨h1, h2⟩
  · rcases best_small zs a c k hk with ⟨_, h4⟩ | ⟨h4, _⟩
    · exact .inl ⟨h1, h2, h4⟩
    · omega
  · rcases best_small zs a c k hk with ⟨h3, _⟩ | ⟨_, h4⟩
    · rw [h2] at h3; simp at h3; omega
    · exact .inr ⟨h1, by rw [h4, h2]⟩
theorem Inv.len {zs : List Int} {a l bk c : Nat} (h : Inv zs a l bk c) : l ≤ most zs a := by
  rcases h with ⟨h1, _⟩ | ⟨_, h2⟩
  · omega
  · have := best_le zs a c; rw [h2] at this; exact this
theorem Inv.better {zs : List Int} {a l bk c : Nat} (h : Inv zs a l bk c) (h3 : 3 ≤ lb zs a (c + 1)) (hl : l < lb zs a (c + 1)) : Inv zs a (lb zs a (c + 1)) (c + 1) (c + 1) := by
  refine .inr ⟨h3, best_take zs a c ?_⟩
  rcases h with ⟨_, _, h4⟩ | ⟨_, h4⟩
  · omega
  · rw [h4]; exact hl
theorem Inv.worse {zs : List Int} {a l bk c : Nat} (h : Inv zs a l bk c) (h3 : 3 ≤ lb zs a (c + 1)) (hl : ¬ l < lb zs a (c + 1)) : Inv zs a l bk (c + 1) := by
  rcases h with ⟨h4, _, _⟩ | ⟨h4, h5⟩
  · omega
  · exact .inr ⟨h4, by rw [best_skip, h5]; rw [h5]; simp; omega⟩
theorem Inv.mt {zs : List Int} {a l bk : Nat} (h : Inv zs a l bk (min 256 a)) : mt zs a = (l, bk) := by
  unfold Lz.mt
  rcases h with ⟨h1, h2, h3⟩ | ⟨h1, h2⟩
  · rw [if_pos h3, h1, h2]
  · rw [h2, if_neg (by simp; omega)]
theorem Inv.full {zs : List Int} {a l bk c : Nat} (h : Inv zs a l bk c) (hm : 3 ≤ most zs a) (hl : most zs a ≤ l) (hc : c ≤ min 256 a) : Lz.mt zs a = (l, bk) := by
  rcases h with ⟨h1, _, _⟩ | ⟨h1, h2⟩
  · omega
  · have hle : l ≤ most zs a := by have := best_le zs a c; rw [h2] at this; exact this
    have := best_full zs a c (by rw [h2]; simp; omega) (min 256 a - c)
    rw [show c + (min 256 a - c) = min 256 a by omega, h2] at this
    exact Inv.mt (.inr ⟨h1, this⟩)

/-- How many backs are tried, when the next place is pl. -/
def cov (a : Nat) (pl : Int) : Nat := min 256 ((a : Int) - 1 - pl).toNat

theorem Inv.start (zs : List Int) (a : Nat) : Inv zs a 0 0 (cov a (prevOf (lastP zs (key zs a) a))) := by
  have h0 : Inv zs a 0 0 0 := .inl ⟨rfl, rfl, by simp [best]⟩
  have hs := h0.skip (cov a (prevOf (lastP zs (key zs a) a))) (fun i h1 h2 => lb_small zs a i ?_)
  · simpa using hs
  · have h2' : i ≤ ((a : Int) - 1 - prevOf (lastP zs (key zs a) a)).toNat := by unfold cov at h2; omega
    cases h : lastP zs (key zs a) a with
    | none =>
      rw [h] at h2'; simp only [prevOf] at h2'
      exact lastP_none zs _ a h (a - i) (by omega)
    | some n =>
      rw [h] at h2'; simp only [prevOf] at h2'
      obtain ⟨h3, _, h5⟩ := lastP_some zs _ a n h
      exact h5 (a - i) (by omega) (by omega)
/-- From a place that was tried on to the one ahead of it. -/
theorem Inv.next {zs : List Int} {a l bk p : Nat} (hp : p < a) (h256 : a - p ≤ 256) (hk : key zs p = key zs a) (h : Inv zs a l bk (a - p)) : Inv zs a l bk (cov a (prevOf (lastP zs (key zs p) p))) := by
  have hlt := prevOf_lt zs (key zs p) p
  have hs := h.skip (cov a (prevOf (lastP zs (key zs p) p)) - (a - p)) (fun i h1 h2 => lb_small zs a i ?_)
  · have e : a - p + (cov a (prevOf (lastP zs (key zs p) p)) - (a - p)) = cov a (prevOf (lastP zs (key zs p) p)) := by unfold cov; omega
    rw [e] at hs; exact hs
  · have h2' : i ≤ ((a : Int) - 1 - prevOf (lastP zs (key zs p) p)).toNat := by unfold cov at h2; omega
    rw [← hk]
    cases hq : lastP zs (key zs p) p with
    | none =>
      rw [hq] at h2'; simp only [prevOf] at h2'
      exact lastP_none zs _ p hq (a - i) (by omega)
    | some n =>
      rw [hq] at h2'; simp only [prevOf] at h2'
      obtain ⟨h3, _, h5⟩ := lastP_some zs _ p n hq
      exact h5 (a - i) (by omega) (by omega)
theorem prevOf_key (zs : List Int) (q : Int) (k : Nat) (h : 0 ≤ prevOf (lastP zs q k)) : key zs (prevOf (lastP zs q k)).toNat = q := by
  cases hq : lastP zs q k with
  | none => rw [hq] at h; simp [prevOf] at h
  | some n => simpa [prevOf] using (lastP_some zs q k n hq).2.1
end Go.Proofs.Ytahbgebnmgnmoaa.Lz

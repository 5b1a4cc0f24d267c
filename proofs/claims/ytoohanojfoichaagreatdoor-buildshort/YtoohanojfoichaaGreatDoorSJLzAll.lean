/- What the proof stands on: LzAll, CurRefW, with what the proof reaches of it. -/
import Derived.Test.YtoohanojfoichaaGreatDoorSJBase
import Derived.Test.YtoohanojfoichaaGreatDoorRows
import Derived.WalkKit
import Derived.WalkSpells
import Derived.WalkLawsBesides
import Derived.BigQuiet
import Derived.Deep.QuietTactic
import Derived.Maps.Own
import Derived.Maps.OwnOps
import Derived.Maps.OwnSet
import Derived.Maps.AppendAt
import Derived.Deep.AppendLies
import Derived.Maps.Views
import Derived.Deep.RegionHeld3
import Derived.Deep.RegionLaw

/- LzAll: LzPure, LzChain, LzLeaf, LzTrios, LzMatch, LzRuns, LzPack, LzRefPack, LzUnpack, LzUnpack2, LzRefUnpack, LzBytes, LzRound, as one text. -/

/- The plain mathematics of layer 1 (lz): matches, runs, packing and unpacking over lists of numbers; nothing of the program is named here. -/
namespace Go.Proofs.YtoohanojfoichaaGreatDoor.Lz



/-- How many bytes from a on are as those from p on, m at most. -/
def lk (zs : List Int) (p a : Nat) : Nat → Nat
  | 0 => 0
  | m + 1 => if g zs p = g zs a then lk zs (p + 1) (a + 1) m + 1 else 0

theorem lk_le (zs : List Int) : ∀ (m p a : Nat), lk zs p a m ≤ m
  | 0, _, _ => Nat.le_refl _
  | m + 1, p, a => by
    unfold lk
    split
    · have := lk_le zs m (p + 1) (a + 1); omega
    · omega

theorem lk_eq (zs : List Int) : ∀ (m p a k : Nat), k < lk zs p a m → g zs (p + k) = g zs (a + k)
  | 0, _, _, _, h => by simp [lk] at h
  | m + 1, p, a, k, h => by
    unfold lk at h
    split at h
    · rename_i he
      cases k with
      | zero => exact he
      | succ k =>
        have := lk_eq zs m (p + 1) (a + 1) k (by omega)
        rw [show p + (k + 1) = p + 1 + k by omega, show a + (k + 1) = a + 1 + k by omega]
        exact this
    · omega

theorem lk_stop (zs : List Int) : ∀ (m p a : Nat), lk zs p a m < m → g zs (p + lk zs p a m) ≠ g zs (a + lk zs p a m)
  | 0, _, _, h => by simp [lk] at h
  | m + 1, p, a, h => by
    unfold lk at h ⊢
    split at h
    · rename_i he
      rw [if_pos he]
      have := lk_stop zs m (p + 1) (a + 1) (by omega)
      rw [show p + (lk zs (p + 1) (a + 1) m + 1) = p + 1 + lk zs (p + 1) (a + 1) m by omega, show a + (lk zs (p + 1) (a + 1) m + 1) = a + 1 + lk zs (p + 1) (a + 1) m by omega]
      exact this
    · rename_i he
      rw [if_neg he]
      exact he

/-- It is the one number of which this holds. -/
theorem lk_unique (zs : List Int) (p a m n : Nat) (h1 : n ≤ m) (h2 : ∀ k, k < n → g zs (p + k) = g zs (a + k)) (h3 : n < m → g zs (p + n) ≠ g zs (a + n)) : lk zs p a m = n := by
  have l1 := lk_le zs m p a
  rcases Nat.lt_trichotomy (lk zs p a m) n with h | h | h
  · exact absurd (h2 _ h) (lk_stop zs m p a (by omega))
  · exact h
  · exact absurd (lk_eq zs m p a n h) (h3 (by omega))

theorem lk_ge (zs : List Int) (p a m n : Nat) (h1 : n ≤ m) (h2 : ∀ k, k < n → g zs (p + k) = g zs (a + k)) : n ≤ lk zs p a m := by
  rcases Nat.lt_or_ge (lk zs p a m) n with h | h
  · exact absurd (h2 _ h) (lk_stop zs m p a (by omega))
  · exact h

/-- As many bytes as a match may have at most. -/
def most (zs : List Int) (a : Nat) : Nat := min 130 (zs.length - a)
/-- How many bytes from a on are as those so far back. -/
def lb (zs : List Int) (a j : Nat) : Nat := lk zs (a - j) a (most zs a)
/-- The longest, and the nearest of these, among the backs up to j. -/
def best (zs : List Int) (a : Nat) : Nat → Nat × Nat
  | 0 => (0, 0)
  | j + 1 => if (best zs a j).1 < lb zs a (j + 1) then (lb zs a (j + 1), j + 1) else best zs a j
/-- Match's answer. -/
def mt (zs : List Int) (a : Nat) : Nat × Nat := if (best zs a (min 256 a)).1 < 3 then (0, 0) else best zs a (min 256 a)

theorem lb_le (zs : List Int) (a j : Nat) : lb zs a j ≤ most zs a := lk_le ..
theorem best_le (zs : List Int) (a : Nat) : ∀ j, (best zs a j).1 ≤ most zs a
  | 0 => Nat.zero_le _
  | j + 1 => by
    unfold best
    split
    · exact lb_le ..
    · exact best_le zs a j
theorem best_back (zs : List Int) (a : Nat) : ∀ j, (best zs a j).2 ≤ j
  | 0 => Nat.le_refl _
  | j + 1 => by
    unfold best
    split
    · exact Nat.le_refl _
    · exact Nat.le_succ_of_le (best_back zs a j)
theorem best_is (zs : List Int) (a : Nat) : ∀ j, best zs a j = (0, 0) ∨ (1 ≤ (best zs a j).2 ∧ (best zs a j).1 = lb zs a (best zs a j).2 ∧ 0 < (best zs a j).1)
  | 0 => .inl rfl
  | j + 1 => by
    unfold best
    split
    · exact .inr ⟨by simp, rfl, by simp; omega⟩
    · exact best_is zs a j
/-- A back that does no better changes nothing. -/
theorem best_skip (zs : List Int) (a j : Nat) (h : lb zs a (j + 1) ≤ (best zs a j).1) : best zs a (j + 1) = best zs a j := by
  rw [best, if_neg (by omega)]
theorem best_take (zs : List Int) (a j : Nat) (h : (best zs a j).1 < lb zs a (j + 1)) : best zs a (j + 1) = (lb zs a (j + 1), j + 1) := by
  rw [best, if_pos h]

/-- Nothing is better than what is as long as may be. -/
theorem best_full (zs : List Int) (a j : Nat) (h : (best zs a j).1 = most zs a) : ∀ k, best zs a (j + k) = best zs a j
  | 0 => rfl
  | k + 1 => by
    have e := best_full zs a j h k
    rw [← Nat.add_assoc, best_skip, e]
    rw [e, h]; exact lb_le ..

/-- Backs at which fewer than three bytes are alike leave what is there: nothing of three bytes, or the same. -/
theorem best_small (zs : List Int) (a j : Nat) : ∀ k, (∀ i, j < i → i ≤ j + k → lb zs a i < 3) → ((best zs a j).1 < 3 ∧ (best zs a (j + k)).1 < 3) ∨ (3 ≤ (best zs a j).1 ∧ best zs a (j + k) = best zs a j)
  | 0, _ => by by_cases h : (best zs a j).1 < 3 <;> simp [h]; omega
  | k + 1, h => by
    have hs := h (j + k + 1) (by omega) (by omega)
    rw [← Nat.add_assoc]
    rcases best_small zs a j k (fun i h1 h2 => h i h1 (by omega)) with ⟨h1, h2⟩ | ⟨h1, h2⟩
    · refine .inl ⟨h1, ?_⟩
      unfold best
      split <;> omega
    · refine .inr ⟨h1, ?_⟩
      rw [best_skip, h2]
      rw [h2]; omega

theorem mt_small (zs : List Int) (a : Nat) (h : most zs a < 3) : mt zs a = (0, 0) := by
  have := best_le zs a (min 256 a)
  unfold mt
  rw [if_pos (by omega)]
theorem mt_le (zs : List Int) (a : Nat) : (mt zs a).1 ≤ most zs a := by
  unfold mt
  split
  · exact Nat.zero_le _
  · exact best_le ..
theorem mt_back (zs : List Int) (a : Nat) : (mt zs a).2 ≤ min 256 a := by
  unfold mt
  split
  · exact Nat.zero_le _
  · exact best_back ..
theorem mt_is (zs : List Int) (a : Nat) : mt zs a = (0, 0) ∨ (3 ≤ (mt zs a).1 ∧ 1 ≤ (mt zs a).2 ∧ (mt zs a).1 = lb zs a (mt zs a).2) := by
  unfold mt
  split
  · exact .inl rfl
  · rcases best_is zs a (min 256 a) with h | ⟨h1, h2, h3⟩
    · rename_i hn; rw [h] at hn; simp at hn
    · exact .inr ⟨by omega, h1, h2⟩

/-! ### runs -/
def runsF : Nat → List Int → List Int
  | 0, _ => []
  | f + 1, l => if l.length = 0 then [] else (((min l.length 128 : Nat) : Int) - 1) :: (l.take (min l.length 128) ++ runsF f (l.drop (min l.length 128)))
theorem runsF_succ (f : Nat) (l : List Int) : runsF (f + 1) l = if l.length = 0 then [] else (((min l.length 128 : Nat) : Int) - 1) :: (l.take (min l.length 128) ++ runsF f (l.drop (min l.length 128))) := rfl
theorem runsF_fuel : ∀ (f : Nat) (l : List Int), l.length ≤ f → runsF f l = runsF l.length l
  | 0, l, h => by rw [Nat.le_zero.1 h]
  | f + 1, l, h => by
    cases hl : l.length with
    | zero => simp [runsF, hl]
    | succ n =>
      have hne : ¬ l.length = 0 := by omega
      rw [runsF_succ f, runsF_succ n, if_neg hne, if_neg hne]
      rw [runsF_fuel f _ (by simp; omega), runsF_fuel n _ (by simp; omega)]
/-- Bytes as runs. -/
def runs (l : List Int) : List Int := runsF l.length l
theorem runs_zero (l : List Int) (h : l.length = 0) : runs l = [] := by rw [List.eq_nil_of_length_eq_zero h]; rfl
theorem runs_step (l : List Int) (h : 0 < l.length) : runs l = ((((min l.length 128 : Nat) : Int) - 1) :: l.take (min l.length 128)) ++ runs (l.drop (min l.length 128)) := by
  unfold runs
  cases hl : l.length with
  | zero => omega
  | succ n =>
    have hne : ¬ l.length = 0 := by omega
    rw [runsF_succ n, if_neg hne, runsF_fuel n _ (by simp; omega), hl]
    rfl
theorem runsF_length : ∀ (f : Nat) (l : List Int), l.length ≤ f → (runsF f l).length = l.length + (l.length + 127) / 128
  | 0, l, h => by rw [Nat.le_zero.1 h]; rfl
  | f + 1, l, h => by
    rw [runsF]
    split
    · rename_i h0; rw [h0]; rfl
    · have := runsF_length f (l.drop (min l.length 128)) (by simp; omega)
      simp only [List.length_cons, List.length_append, this, List.length_take, List.length_drop]
      omega
theorem runs_length (l : List Int) : (runs l).length = l.length + (l.length + 127) / 128 := runsF_length _ _ (Nat.le_refl _)

/-! ### packing -/
def packF (zs : List Int) : Nat → List Int → Nat → Nat → List Int
  | 0, out, run, _ => out ++ runs (zs.drop run)
  | f + 1, out, run, a => if zs.length ≤ a then out ++ runs (zs.drop run) else
      if (mt zs a).1 = 0 then packF zs f out run (a + 1)
      else packF zs f (out ++ runs ((zs.take a).drop run) ++ [((mt zs a).1 : Int) + 125, ((mt zs a).2 : Int) - 1]) (a + (mt zs a).1) (a + (mt zs a).1)
/-- What is still to be packed from a on, behind what is there. -/
def pk (zs : List Int) (out : List Int) (run a : Nat) : List Int := packF zs (zs.length - a) out run a
def pack (zs : List Int) : List Int := pk zs [] 0 0
theorem packF_succ (zs : List Int) (f : Nat) (out : List Int) (run a : Nat) : packF zs (f + 1) out run a = if zs.length ≤ a then out ++ runs (zs.drop run) else
      if (mt zs a).1 = 0 then packF zs f out run (a + 1)
      else packF zs f (out ++ runs ((zs.take a).drop run) ++ [((mt zs a).1 : Int) + 125, ((mt zs a).2 : Int) - 1]) (a + (mt zs a).1) (a + (mt zs a).1) := rfl
theorem packF_fuel (zs : List Int) : ∀ (f : Nat) (out : List Int) (run a : Nat), zs.length - a ≤ f → packF zs f out run a = packF zs (zs.length - a) out run a
  | 0, out, run, a, h => by rw [Nat.le_zero.1 h]
  | f + 1, out, run, a, h => by
    cases hn : zs.length - a with
    | zero => simp [packF, show zs.length ≤ a by omega]
    | succ n =>
      have hne : ¬ zs.length ≤ a := by omega
      rw [packF_succ zs f, packF_succ zs n, if_neg hne, if_neg hne]
      by_cases h0 : (mt zs a).1 = 0
      · rw [if_pos h0, if_pos h0, packF_fuel zs f _ _ _ (by omega), packF_fuel zs n _ _ _ (by omega)]
      · rw [if_neg h0, if_neg h0, packF_fuel zs f _ _ _ (by omega), packF_fuel zs n _ _ _ (by omega)]
theorem pk_end (zs out : List Int) (run a : Nat) (h : zs.length ≤ a) : pk zs out run a = out ++ runs (zs.drop run) := by
  unfold pk
  rw [show zs.length - a = 0 by omega]; rfl
theorem pk_byte (zs out : List Int) (run a : Nat) (h : a < zs.length) (h0 : (mt zs a).1 = 0) : pk zs out run a = pk zs out run (a + 1) := by
  unfold pk
  have hne : ¬ zs.length ≤ a := by omega
  rw [show zs.length - a = (zs.length - (a + 1)) + 1 by omega, packF_succ, if_neg hne, if_pos h0]
theorem pk_copy (zs out : List Int) (run a : Nat) (h : a < zs.length) (h0 : (mt zs a).1 ≠ 0) :
    pk zs out run a = pk zs (out ++ runs ((zs.take a).drop run) ++ [((mt zs a).1 : Int) + 125, ((mt zs a).2 : Int) - 1]) (a + (mt zs a).1) (a + (mt zs a).1) := by
  unfold pk
  have hne : ¬ zs.length ≤ a := by omega
  rw [show zs.length - a = (zs.length - (a + 1)) + 1 by omega, packF_succ, if_neg hne, if_neg h0, packF_fuel _ _ _ _ _ (by omega)]

/-! ### unpacking -/
end Go.Proofs.YtoohanojfoichaaGreatDoor.Lz

/- The plain mathematics of the chain of places that begin with the same three bytes, and why following it finds the longest and nearest match. -/
namespace Go.Proofs.YtoohanojfoichaaGreatDoor.Lz

/-- Three bytes as one number. -/
def key (zs : List Int) (i : Nat) : Int := g zs i + 256 * g zs (i + 1) + 65536 * g zs (i + 2)
/-- The last place below k that has the key q. -/
def lastP (zs : List Int) (q : Int) : Nat → Option Nat
  | 0 => none
  | k + 1 => if key zs k = q then some k else lastP zs q k
def prevOf : Option Nat → Int
  | some p => p
  | none => -1
/-- Of each place below k the last one ahead of it that has the same key, or -1. -/
def aheadL (zs : List Int) : Nat → List Int
  | 0 => []
  | k + 1 => aheadL zs k ++ [prevOf (lastP zs (key zs k) k)]

theorem lastP_some (zs : List Int) (q : Int) : ∀ k n, lastP zs q k = some n → n < k ∧ key zs n = q ∧ ∀ j, n < j → j < k → key zs j ≠ q
  | 0, n, h => by simp [lastP] at h
  | k + 1, n, h => by
    unfold lastP at h
    split at h
    · rename_i e
      have : k = n := by simpa using h
      subst this
      exact ⟨by omega, e, fun j h1 h2 => by omega⟩
    · rename_i e
      obtain ⟨h1, h2, h3⟩ := lastP_some zs q k n h
      refine ⟨by omega, h2, fun j j1 j2 => ?_⟩
      by_cases ej : j = k
      · rw [ej]; exact e
      · exact h3 j j1 (by omega)
theorem lastP_none (zs : List Int) (q : Int) : ∀ k, lastP zs q k = none → ∀ j, j < k → key zs j ≠ q
  | 0, _, j, hj => by omega
  | k + 1, h, j, hj => by
    unfold lastP at h
    split at h
    · simp at h
    · rename_i e
      by_cases ej : j = k
      · rw [ej]; exact e
      · exact lastP_none zs q k h j (by omega)
theorem prevOf_lt (zs : List Int) (q : Int) (k : Nat) : -1 ≤ prevOf (lastP zs q k) ∧ prevOf (lastP zs q k) < k := by
  cases h : lastP zs q k with
  | none => simp [prevOf]; omega
  | some n => have := lastP_some zs q k n h; simp [prevOf]; omega
theorem aheadL_length (zs : List Int) : ∀ k, (aheadL zs k).length = k
  | 0 => rfl
  | k + 1 => by simp [aheadL, aheadL_length zs k]
theorem aheadL_at (zs : List Int) : ∀ k i, i < k → g (aheadL zs k) i = prevOf (lastP zs (key zs i) i)
  | 0, i, h => by omega
  | k + 1, i, h => by
    by_cases e : i = k
    · subst e
      simp [aheadL, g, aheadL_length]
    · rw [aheadL, g_append_left _ _ _ (by rw [aheadL_length]; omega)]
      exact aheadL_at zs k i (by omega)
theorem key_inj (zs : List Int) (i j : Nat) (hb : ∀ i, 0 ≤ g zs i ∧ g zs i ≤ 255) (h : key zs i = key zs j) : g zs i = g zs j ∧ g zs (i + 1) = g zs (j + 1) ∧ g zs (i + 2) = g zs (j + 2) := by
  have := hb i; have := hb (i + 1); have := hb (i + 2); have := hb j; have := hb (j + 1); have := hb (j + 2)
  unfold key at h
  omega
theorem key_bd (zs : List Int) (i : Nat) (hb : ∀ i, 0 ≤ g zs i ∧ g zs i ≤ 255) : 0 ≤ key zs i ∧ key zs i ≤ 16777215 := by
  have := hb i; have := hb (i + 1); have := hb (i + 2)
  unfold key
  omega
/-- Places with other keys have fewer than three bytes alike. -/
theorem lb_small (zs : List Int) (a j : Nat) (h : key zs (a - j) ≠ key zs a) : lb zs a j < 3 := by
  rcases Nat.lt_or_ge (lb zs a j) 3 with h3 | h3
  · exact h3
  · refine absurd ?_ h
    have e0 := lk_eq zs (most zs a) (a - j) a 0 (by unfold lb at h3; omega)
    have e1 := lk_eq zs (most zs a) (a - j) a 1 (by unfold lb at h3; omega)
    have e2 := lk_eq zs (most zs a) (a - j) a 2 (by unfold lb at h3; omega)
    simp only [Nat.add_zero] at e0
    unfold key
    rw [e0, e1, e2]
theorem lb_three (zs : List Int) (a j : Nat) (hb : ∀ i, 0 ≤ g zs i ∧ g zs i ≤ 255) (hm : 3 ≤ most zs a) (h : key zs (a - j) = key zs a) : 3 ≤ lb zs a j := by
  obtain ⟨e0, e1, e2⟩ := key_inj zs _ _ hb h
  refine lk_ge zs (a - j) a (most zs a) 3 hm (fun k hk => ?_)
  match k, hk with
  | 0, _ => exact e0
  | 1, _ => exact e1
  | 2, _ => exact e2

/-- What is known when the backs up to c have been tried. -/
def Inv (zs : List Int) (a l bk c : Nat) : Prop := (l = 0 ∧ bk = 0 ∧ (best zs a c).1 < 3) ∨ (3 ≤ l ∧ best zs a c = (l, bk))

theorem Inv.skip {zs : List Int} {a l bk c : Nat} (h : Inv zs a l bk c) (k : Nat) (hk : ∀ i, c < i → i ≤ c + k → lb zs a i < 3) : Inv zs a l bk (c + k) := by
  rcases h with ⟨h1, h2, h3⟩ | ⟨h1, h2⟩
  · rcases best_small zs a c k hk with ⟨_, h4⟩ | ⟨h4, _⟩
    · exact .inl ⟨h1, h2, h4⟩
    · omega
  · rcases best_small zs a c k hk with ⟨h3, _⟩ | ⟨_, h4⟩
    · rw [h2] at h3; simp at h3; omega
    · exact .inr ⟨h1, by rw [h4, h2]⟩
theorem Inv.len {zs : List Int} {a l bk c : Nat} (h : Inv zs a l bk c) : l ≤ most zs a := by
  rcases h with ⟨h1, _⟩ | ⟨_, h2⟩
  · omega
  · have := best_le zs a c; rw [h2] at this; exact this
theorem Inv.better {zs : List Int} {a l bk c : Nat} (h : Inv zs a l bk c) (h3 : 3 ≤ lb zs a (c + 1)) (hl : l < lb zs a (c + 1)) : Inv zs a (lb zs a (c + 1)) (c + 1) (c + 1) := by
  refine .inr ⟨h3, best_take zs a c ?_⟩
  rcases h with ⟨_, _, h4⟩ | ⟨_, h4⟩
  · omega
  · rw [h4]; exact hl
theorem Inv.worse {zs : List Int} {a l bk c : Nat} (h : Inv zs a l bk c) (h3 : 3 ≤ lb zs a (c + 1)) (hl : ¬ l < lb zs a (c + 1)) : Inv zs a l bk (c + 1) := by
  rcases h with ⟨h4, _, _⟩ | ⟨h4, h5⟩
  · omega
  · exact .inr ⟨h4, by rw [best_skip, h5]; rw [h5]; simp; omega⟩
theorem Inv.mt {zs : List Int} {a l bk : Nat} (h : Inv zs a l bk (min 256 a)) : mt zs a = (l, bk) := by
  unfold Lz.mt
  rcases h with ⟨h1, h2, h3⟩ | ⟨h1, h2⟩
  · rw [if_pos h3, h1, h2]
  · rw [h2, if_neg (by simp; omega)]
theorem Inv.full {zs : List Int} {a l bk c : Nat} (h : Inv zs a l bk c) (hm : 3 ≤ most zs a) (hl : most zs a ≤ l) (hc : c ≤ min 256 a) : Lz.mt zs a = (l, bk) := by
  rcases h with ⟨h1, _, _⟩ | ⟨h1, h2⟩
  · omega
  · have hle : l ≤ most zs a := by have := best_le zs a c; rw [h2] at this; exact this
    have := best_full zs a c (by rw [h2]; simp; omega) (min 256 a - c)
    rw [show c + (min 256 a - c) = min 256 a by omega, h2] at this
    exact Inv.mt (.inr ⟨h1, this⟩)

/-- How many backs are tried, when the next place is pl. -/
def cov (a : Nat) (pl : Int) : Nat := min 256 ((a : Int) - 1 - pl).toNat

theorem Inv.start (zs : List Int) (a : Nat) : Inv zs a 0 0 (cov a (prevOf (lastP zs (key zs a) a))) := by
  have h0 : Inv zs a 0 0 0 := .inl ⟨rfl, rfl, by simp [best]⟩
  have hs := h0.skip (cov a (prevOf (lastP zs (key zs a) a))) (fun i h1 h2 => lb_small zs a i ?_)
  · simpa using hs
  · have h2' : i ≤ ((a : Int) - 1 - prevOf (lastP zs (key zs a) a)).toNat := by unfold cov at h2; omega
    cases h : lastP zs (key zs a) a with
    | none =>
      rw [h] at h2'; simp only [prevOf] at h2'
      exact lastP_none zs _ a h (a - i) (by omega)
    | some n =>
      rw [h] at h2'; simp only [prevOf] at h2'
      obtain ⟨h3, _, h5⟩ := lastP_some zs _ a n h
      exact h5 (a - i) (by omega) (by omega)
/-- From a place that was tried on to the one ahead of it. -/
theorem Inv.next {zs : List Int} {a l bk p : Nat} (hp : p < a) (h256 : a - p ≤ 256) (hk : key zs p = key zs a) (h : Inv zs a l bk (a - p)) : Inv zs a l bk (cov a (prevOf (lastP zs (key zs p) p))) := by
  have hlt := prevOf_lt zs (key zs p) p
  have hs := h.skip (cov a (prevOf (lastP zs (key zs p) p)) - (a - p)) (fun i h1 h2 => lb_small zs a i ?_)
  · have e : a - p + (cov a (prevOf (lastP zs (key zs p) p)) - (a - p)) = cov a (prevOf (lastP zs (key zs p) p)) := by unfold cov; omega
    rw [e] at hs; exact hs
  · have h2' : i ≤ ((a : Int) - 1 - prevOf (lastP zs (key zs p) p)).toNat := by unfold cov at h2; omega
    rw [← hk]
    cases hq : lastP zs (key zs p) p with
    | none =>
      rw [hq] at h2'; simp only [prevOf] at h2'
      exact lastP_none zs _ p hq (a - i) (by omega)
    | some n =>
      rw [hq] at h2'; simp only [prevOf] at h2'
      obtain ⟨h3, _, h5⟩ := lastP_some zs _ p n hq
      exact h5 (a - i) (by omega) (by omega)
theorem prevOf_key (zs : List Int) (q : Int) (k : Nat) (h : 0 ≤ prevOf (lastP zs q k)) : key zs (prevOf (lastP zs q k)).toNat = q := by
  cases hq : lastP zs q k with
  | none => rw [hq] at h; simp [prevOf] at h
  | some n => simpa [prevOf] using (lastP_some zs q k n hq).2.1
end Go.Proofs.YtoohanojfoichaaGreatDoor.Lz

/- The leaves of layer 1 (lz): what likewise, trio, the reference's like, and few do, called by themselves. -/
namespace Go.Proofs.YtoohanojfoichaaGreatDoor
open Go.RowKit
open Lz (g lk)




set_option maxHeartbeats 400000 in
theorem likewise_any (b off len cap p a m : Nat) (zs : List Int) (w : World) (hz : zs.length = len) (hs : Seg w b off zs) (hp : p + m ≤ len) (ha : a + m ≤ len) (hl : len ≤ 1000000) :
    Calls Tryz.prog 190 #[.slice (some ⟨b, off, none⟩) len cap, .int .i64 p, .int .i64 a, .int .i64 m] w fun e w' => e = .returned (.int .i64 (lk zs p a m)) ∧ ∃ n, w' = w.drewN n := by
  go_enter Tryz.func190, Tryz.ntmps190
  go_wp2
  go_loopw [9] (fun i wr => ∃ k : Nat, k ≤ m ∧ i = .int .i64 k ∧ (∀ j, j < k → g zs (p + j) = g zs (a + j)) ∧ ∃ n, wr = w.drewN n) (fun i _ => m - (intOf i).toNat)
  case atStart => exact ⟨0, Nat.zero_le _, rfl, fun j hj => by omega, 0, rfl⟩
  case round =>
    obtain ⟨k, hk, rfl, heq, n, rfl⟩ := hrel
    by_cases hlt : k < m
    · have hd : decide ((k : Int) < (m : Int)) = true := by simp; omega
      have c1 := hs (p + k) (by omega)
      have c2 := hs (a + k) (by omega)
      have i1 : (0 : Int) ≤ (p : Int) + k := by omega
      have i2 : (p : Int) + k < len := by omega
      have i3 : (0 : Int) ≤ (a : Int) + k := by omega
      have i4 : (a : Int) + k < len := by omega
      have H : Hid (∀ j, j < k → g zs (p + j) = g zs (a + j)) := heq
      clear heq
      go_wp2
      go_quiet (fail)
      go_wp2
      · have he : (g zs (p + k) == g zs (a + k)) = true := by assumption
        go_roundw
        case rel =>
          refine ⟨k + 1, by omega, by go_num, fun j hj => ?_, _, rfl⟩
          by_cases hjk : j < k
          · exact H.out j hjk
          · rw [show j = k by omega]; exact beq_iff_eq.1 he
        case measure => simp [intOf]; omega
      · have he : (g zs (p + k) == g zs (a + k)) = false := by assumption
        go_ret
        exact ⟨ret_nat (Lz.lk_unique zs p a m k hk H.out (fun _ => beq_eq_false_iff_ne.1 he)).symm, dr2 _ _ _⟩
    · have hd : decide ((k : Int) < (m : Int)) = false := by simp; omega
      have H : Hid (∀ j, j < k → g zs (p + j) = g zs (a + j)) := heq
      clear heq
      go_wp2
      go_quiet (fail)
      go_wp2
      go_ret
      exact ⟨ret_nat (Lz.lk_unique zs p a m k hk H.out (fun h => absurd h hlt)).symm, dr2 _ _ _⟩

theorem or_nat (A B M i : Nat) (hM : 2 ^ i = M) (h2 : A < M) (h4 : B * M + M ≤ 4294967296) : bits .or .i64 (A : Int) ((B * M : Nat) : Int) = ((A + B * M : Nat) : Int) := by
  have hor : A ||| B * M = A + B * M := by
    rw [← hM, Nat.or_comm, Nat.mul_comm, ← Nat.two_pow_add_eq_or_of_lt (by omega) B, Nat.add_comm]
  have hs : A + B * M < 4294967296 := by omega
  show IntKind.i64.wrap ((BitVec.ofInt 64 (A : Int) ||| BitVec.ofInt 64 ((B * M : Nat) : Int)).toNat : Int) = _
  rw [BitVec.toNat_or, BitVec.ofInt_natCast, BitVec.ofInt_natCast, BitVec.toNat_ofNat, BitVec.toNat_ofNat, Nat.mod_eq_of_lt (by omega), Nat.mod_eq_of_lt (by omega), hor]
  generalize A + B * M = C at *
  rw [IntKind.wrap_i64]
  omega
theorem or_256 (a b : Int) (h1 : 0 ≤ a) (h2 : a < 256) (h3 : 0 ≤ b) (h4 : b < 256) : bits .or .i64 a (b * 256) = a + b * 256 := by
  obtain ⟨A, rfl⟩ := Int.eq_ofNat_of_zero_le h1
  obtain ⟨B, rfl⟩ := Int.eq_ofNat_of_zero_le h3
  have := or_nat A B 256 8 rfl (by omega) (by omega)
  rw [show ((B * 256 : Nat) : Int) = (B : Int) * 256 by omega] at this
  rw [this]; omega
theorem or_65536 (a b : Int) (h1 : 0 ≤ a) (h2 : a < 65536) (h3 : 0 ≤ b) (h4 : b < 256) : bits .or .i64 a (b * 65536) = a + b * 65536 := by
  obtain ⟨A, rfl⟩ := Int.eq_ofNat_of_zero_le h1
  obtain ⟨B, rfl⟩ := Int.eq_ofNat_of_zero_le h3
  have := or_nat A B 65536 16 rfl (by omega) (by omega)
  rw [show ((B * 65536 : Nat) : Int) = (B : Int) * 65536 by omega] at this
  rw [this]; omega

set_option maxHeartbeats 400000 in
theorem trio_any (b off len cap a : Nat) (zs : List Int) (w : World) (hz : zs.length = len) (hs : Seg w b off zs) (ha : a + 3 ≤ len) (hl : len ≤ 1000000) (hb : ∀ i, i < len → 0 ≤ g zs i ∧ g zs i ≤ 255) :
    Calls Tryz.prog 189 #[.slice (some ⟨b, off, none⟩) len cap, .int .i64 a] w fun e w' => e = .returned (.int .i64 (Lz.key zs a)) ∧ ∃ n, w' = w.drewN n := by
  unfold Lz.key
  have c1 := hs a (by omega)
  have c2 := hs (a + 1) (by omega)
  have c3 := hs (a + 2) (by omega)
  have i2 : (a : Int) + 2 < len := by omega
  obtain ⟨b1, b2⟩ := hb a (by omega)
  obtain ⟨b3, b4⟩ := hb (a + 1) (by omega)
  obtain ⟨b5, b6⟩ := hb (a + 2) (by omega)
  clear hs hb
  go_enter Tryz.func189, Tryz.ntmps189
  go_wp2
  go_quiet (fail)
  go_wp2
  go_ret
  refine ⟨?_, _, rfl⟩
  show Ending.returned (.int .i64 (bits BinOp.or IntKind.i64 (bits BinOp.or IntKind.i64 (g zs a) (g zs (a + 1) * 256)) (g zs (a + 2) * 65536))) = _
  rw [or_256 (g zs a) (g zs (a + 1)) b1 (by omega) b3 (by omega), or_65536 (g zs a + g zs (a + 1) * 256) (g zs (a + 2)) (by omega) (by omega) b5 (by omega)]
  exact ret_int (by omega)

end Go.Proofs.YtoohanojfoichaaGreatDoor

/- The walks of newTrios, addUpTo and match: what the table of threes holds, and that match finds the longest and nearest match. -/
namespace Go.Proofs.YtoohanojfoichaaGreatDoor
set_option linter.unusedVariables false
open Go.RowKit Go.Maps
open Lz (g lk key lastP prevOf aheadL)

theorem mapLaw : Keyed Tryz.prog 3 := int_keyed Tryz.underlying3
theorem zeroInt (w : World) : (zeroValue 3).run Tryz.prog w = .ok (.int .i64 0) w := by kernel_rfl
theorem infoInt : (Tryz.prog.info? 3).map (fun i => (i.zero, i.size, i.bytes)) = some (some (.int .i64 0), 1, 8) := by kernel_rfl

/-- The table of threes at block p: the places below k of zs are taken in. -/
def Tr (w : World) (B p : Nat) (zs : List Int) (k : Nat) : Prop :=
  ∃ (mb : Nat) (v : Value) (D : DataW Unit), w.heap[p]? = some (.cells #[.map (some mb), v] 241 (0, 0)) ∧ B ≤ p ∧ B ≤ mb ∧
    w.ownsRow B 3 1 v k ((aheadL zs k).map (Value.int .i64)) ∧ w.ownsMap Tryz.prog 3 (plainElem Tryz.prog 3) mb k D ∧
    (∀ q : Int, Maps.has D (.int .i64 q) = (lastP zs q k).isSome) ∧ (∀ (q : Int) (n : Nat), lastP zs q k = some n → D.atKey (.int .i64 q) (.lit (.int .i64 0)) = .lit (.int .i64 n))





theorem Tr.drewN {w : World} {B p k : Nat} {zs : List Int} (h : Tr w B p zs k) (n : Nat) : Tr (w.drewN n) B p zs k := h
theorem Tr.kept {w w' : World} {B p k : Nat} {zs : List Int} (h : Tr w B p zs k) (hk : KeepN 5 w w') : Tr w' B p zs k := by
  obtain ⟨mb, v, D, h1, h2, h3, h4, h5, h6⟩ := h
  refine ⟨mb, v, D, hk _ _ h1 (by simp), h2, h3, ?_, ?_, h6⟩
  · refine ⟨h4.1, ?_⟩
    rcases h4.2 with hn | ⟨g, cap, cur, rfl, hb, hgg, rest⟩
    · exact .inl hn
    · exact .inr ⟨g, cap, cur, rfl, hb, hk _ _ hgg (by simp), rest⟩
  · obtain ⟨es, clock, hb, r⟩ := h5
    exact ⟨es, clock, hk _ _ hb (by simp), r⟩

set_option maxHeartbeats 400000 in
theorem newTrios_any (w : World) (zs : List Int) :
    Calls Tryz.prog 171 #[] w fun e w' => e = .returned (.pointer (some ⟨w.heap.size + 1, 0, none⟩)) ∧ Tr w' w.heap.size (w.heap.size + 1) zs 0 ∧ Below w.heap.size w w' ∧ KeepT 5 w w' := by
  have hmm := @run_makeMap Tryz.prog
  go_enter Tryz.func171, Tryz.ntmps171
  go_wp2
  go_ret
  refine ⟨rfl, ⟨w.heap.size, .slice none 0 0, .map [], ?_, by omega, Nat.le_refl _, World.ownsRow_nil _ _ _ _, (World.ownsMap_made w _ _ _).alloc _, fun q => rfl, fun q n hq => by simp [lastP] at hq⟩, ?_, ?_⟩
  · have := heap_alloc_new (w.alloc (Obj.map #[] 0)) (Obj.cells #[Value.map (some w.heap.size), Value.slice none 0 0] 241)
    simpa using this
  · exact ((Below.refl _ _).alloc (Nat.le_refl _) _).alloc (by simp) _
  · exact ((KeepT.refl _ _).alloc _).alloc _

theorem cell_of_pair {w : World} {p : Nat} {x y : Value} {t : TypeId} (h : w.heap[p]? = some (Obj.cells #[x, y] t (0, 0))) : w.cell? ⟨p, 0, none⟩ = some x ∧ w.cell? ⟨p, 1, none⟩ = some y ∧ w.frozen? ⟨p, 1, none⟩ = false := by
  refine ⟨by rw [cell_of_row w p 0 _ _ _ h]; rfl, by rw [cell_of_row w p 1 _ _ _ h]; rfl, ?_⟩
  simp [World.frozen?, h]

theorem pair_setCell {w : World} {p : Nat} {x y : Value} {t : TypeId} (h : w.heap[p]? = some (Obj.cells #[x, y] t (0, 0))) (u : Value) : (w.setCell ⟨p, 1, none⟩ u).heap[p]? = some (Obj.cells #[x, u] t (0, 0)) := by
  simp [World.setCell, Array.getElem?_modify, h]

theorem pair_kept {w w1 : World} {B p t mb nq : Nat} {v : Value} {xs : List Value} {o : Obj} {D : DataW Unit} (h1 : w.heap[p]? = some (Obj.cells #[.map (some mb), v] 241 (0, 0))) (h4 : w.ownsRow B 3 1 v t xs)
    (h5 : w.ownsMap Tryz.prog 3 (plainElem Tryz.prog 3) mb t D) (a2 : ((w.drewN nq).alloc o).grownBy w1 v.ownBlock) :
    w1.cell? ⟨p, 0, none⟩ = some (.map (some mb)) ∧ w1.cell? ⟨p, 1, none⟩ = some v ∧ w1.frozen? ⟨p, 1, none⟩ = false ∧ w1.ownsMap Tryz.prog 3 (plainElem Tryz.prog 3) mb t D := by
  have hp0 : ((w.drewN nq).alloc o).heap[p]? = some (Obj.cells #[.map (some mb), v] 241 (0, 0)) := by rw [Below.heap_alloc (w.drewN nq) _ _ (heap_lt (w := w.drewN nq) h1)]; exact h1
  have hp1 : w1.heap[p]? = some (Obj.cells #[.map (some mb), v] 241 (0, 0)) := by
    rw [a2.block p (heap_lt hp0) (owns_ne (w := w) h4 h1 (by simp))]; exact hp0
  obtain ⟨c0, c1, c2⟩ := cell_of_pair hp1
  refine ⟨c0, c1, c2, ?_⟩
  have h5' : ((w.drewN nq).alloc o).ownsMap Tryz.prog 3 (plainElem Tryz.prog 3) mb t D := World.ownsMap.alloc (w := w.drewN nq) h5 _
  refine h5'.kept a2 ?_
  obtain ⟨es, clock, hb, _⟩ := h5
  exact owns_ne (w := w) h4 hb (by simp)

theorem atKey_int {D : DataW Unit} {k : Lit} {z : DataW Unit} {a b : Int} (h : D.atKey k z = .lit (.int .i64 a)) (h' : D.atKey k z = .lit (.int .i64 b)) : a = b := by
  rw [h] at h'; simpa using h'

/-- One place more is taken in. -/
theorem tr_step {w wr w1 w2 : World} {B p t mb nq : Nat} {zs : List Int} {v v' : Value} {D : DataW Unit} {o : Obj}
    (h1 : wr.heap[p]? = some (Obj.cells #[.map (some mb), v] 241 (0, 0))) (h2 : B ≤ p) (h3 : B ≤ mb) (h4 : wr.ownsRow B 3 1 v t ((aheadL zs t).map (Value.int .i64)))
    (h5 : wr.ownsMap Tryz.prog 3 (plainElem Tryz.prog 3) mb t D) (h6 : ∀ q : Int, Maps.has D (.int .i64 q) = (lastP zs q t).isSome)
    (h7 : ∀ (q : Int) (n : Nat), lastP zs q t = some n → D.atKey (.int .i64 q) (.lit (.int .i64 0)) = .lit (.int .i64 n)) (X : Int) (hX : X = prevOf (lastP zs (key zs t) t))
    (hw : Below B w wr) (hk : KeepT 5 w wr) (hBs : B ≤ wr.heap.size)
    (a1 : w1.ownsRow B 3 1 v' (t + 1) ((aheadL zs t).map (Value.int .i64) ++ [.int .i64 X])) (a2 : ((wr.drewN nq).alloc o).grownBy w1 v.ownBlock)
    (m1 : w2.ownsMap Tryz.prog 3 (plainElem Tryz.prog 3) mb (t + 1) (D.put (.int .i64 (key zs t)) (.lit (.int .i64 t)))) (m2 : (w1.setCell ⟨p, 1, none⟩ v').grownBy w2 (some mb)) :
    Tr w2 B p zs (t + 1) ∧ Below B w w2 ∧ KeepT 5 w w2 := by
  have hp0 : ((wr.drewN nq).alloc o).heap[p]? = some (Obj.cells #[.map (some mb), v] 241 (0, 0)) := by rw [Below.heap_alloc (wr.drewN nq) _ _ (heap_lt (w := wr.drewN nq) h1)]; exact h1
  have hp1 : w1.heap[p]? = some (Obj.cells #[.map (some mb), v] 241 (0, 0)) := by
    rw [a2.block p (heap_lt hp0) (owns_ne (w := wr) h4 h1 (by simp))]; exact hp0
  have hp2 := pair_setCell hp1 v'
  have hpm : p ≠ mb := by
    obtain ⟨es, clock, hb, _⟩ := h5
    intro e; subst e; rw [h1] at hb; simp at hb
  have hp3 : w2.heap[p]? = some (Obj.cells #[.map (some mb), v'] 241 (0, 0)) := by
    rw [m2.block p (heap_lt hp2) (by simpa using hpm)]; exact hp2
  have hv : v'.ownBlock ≠ some p := fun e => owns_ne a1 hp1 (by simp) e.symm
  have b1 : (w1.setCell ⟨p, 1, none⟩ v').ownsRow B 3 1 v' (t + 1) ((aheadL zs t).map (Value.int .i64) ++ [.int .i64 X]) := by
    refine ⟨a1.1, ?_⟩
    rcases a1.2 with hn | ⟨g, cap, cur, rfl, hb, hgg, rest⟩
    · exact .inl hn
    · refine .inr ⟨g, cap, cur, rfl, hb, ?_, rest⟩
      rw [Below.heap_setCell _ _ _ _ (by simpa [Value.ownBlock] using hv)]; exact hgg
  have hmv : v'.ownBlock ≠ some mb := by
    obtain ⟨es, clock, hb, _⟩ := h5
    have hb0 : ((wr.drewN nq).alloc o).heap[mb]? = some (Obj.map es clock) := by rw [Below.heap_alloc (wr.drewN nq) _ _ (heap_lt (w := wr.drewN nq) hb)]; exact hb
    have hb1 : w1.heap[mb]? = some (Obj.map es clock) := by rw [a2.block mb (heap_lt hb0) (owns_ne (w := wr) h4 hb (by simp))]; exact hb0
    exact fun e => owns_ne a1 hb1 (by simp) e.symm
  have b2 := b1.kept m2 (.inr hmv)
  have hsz1 : wr.heap.size ≤ ((wr.drewN nq).alloc o).heap.size := by simp
  have hsz2 := a2.size
  have bel0 : Below B w ((wr.drewN nq).alloc o) := (below_drewN hw nq).alloc (by simpa using hBs) _
  have bel1 : Below B w w1 := bel0.grown a2 (by omega) (fun k e => by have := (h4.lt k e).1; omega)
  have bel2 : Below B w (w1.setCell ⟨p, 1, none⟩ v') := bel1.setCell (by simpa using h2) _
  have bel3 : Below B w w2 := bel2.grown m2 (by simp [World.setCell]; omega) (fun k e => by cases e; exact h3)
  have k0 : KeepT 5 w ((wr.drewN nq).alloc o) := (hk.drewN nq).alloc _
  have k1 : KeepT 5 w w1 := k0.grown a2 (fun k e cur fz hc => by
    have h4' : ((wr.drewN nq).alloc o).ownsRow B 3 1 v t ((aheadL zs t).map (Value.int .i64)) := World.ownsRow.alloc (w := wr.drewN nq) h4 _
    exact owns_ne h4' hc (by simp) e.symm)
  have k2 : KeepT 5 w (w1.setCell ⟨p, 1, none⟩ v') := k1.setCell _ (fun cur fz hc => by rw [hp1] at hc; simp at hc)
  have k3 : KeepT 5 w w2 := k2.grown m2 (fun k e cur fz hc => by
    cases e
    obtain ⟨es, clock, hb, _⟩ := h5
    have hb0 : ((wr.drewN nq).alloc o).heap[mb]? = some (Obj.map es clock) := by rw [Below.heap_alloc (wr.drewN nq) _ _ (heap_lt (w := wr.drewN nq) hb)]; exact hb
    have hb1 : w1.heap[mb]? = some (Obj.map es clock) := by rw [a2.block mb (heap_lt hb0) (owns_ne (w := wr) h4 hb (by simp))]; exact hb0
    rw [Below.heap_setCell _ _ _ _ (fun e => hpm e.symm), hb1] at hc
    simp at hc)
  refine ⟨⟨mb, v', _, hp3, h2, h3, ?_, m1, fun q => ?_, fun q n hq => ?_⟩, bel3, k3⟩
  · rw [aheadL, List.map_append, ← hX]; exact b2
  · have hD := h5.isMap
    by_cases e : q = key zs t
    · subst e
      rw [has_put_same (k := .int .i64 (key zs t)) hD (by simp [WideAt.IsKeyLit])]
      simp [lastP]
    · rw [has_put_other (by simpa using e), h6 q, lastP, if_neg (fun e' => e e'.symm)]
  · have hD := h5.isMap
    by_cases e : q = key zs t
    · subst e
      rw [atKey_put_same (k := .int .i64 (key zs t)) hD (by simp [WideAt.IsKeyLit])]
      simp [lastP] at hq
      rw [hq]
    · rw [atKey_put_other (by simpa using e)]
      rw [lastP, if_neg (fun e' => e e'.symm)] at hq
      exact h7 q n hq

set_option maxHeartbeats 400000 in
theorem addUpTo_any (b off len cap p B k e : Nat) (zs : List Int) (w : World) (hz : zs.length = len) (hs : Seg w b off zs) (hbB : b < B) (hB : B ≤ w.heap.size) (hl : len ≤ 1000000)
    (hby : ∀ i, 0 ≤ g zs i ∧ g zs i ≤ 255) (ht : Tr w B p zs k) (he : e ≤ len) :
    Calls Tryz.prog 175 #[.pointer (some ⟨p, 0, none⟩), .slice (some ⟨b, off, none⟩) len cap, .int .i64 e] w fun r w' => r = .returned (.tuple #[]) ∧ Tr w' B p zs (max k (min e (len - 2))) ∧ Below B w w' ∧ KeepT 5 w w' := by
  obtain ⟨mb, v, D, h1, h2, h3, h4, h5, h6, h7⟩ := id ht
  obtain ⟨ao, c, rfl⟩ := owns_shape h4
  obtain ⟨c0, c1, _⟩ := cell_of_pair h1
  obtain ⟨E, hE⟩ : ∃ E : Int, (if (len : Int) - 3 + 1 < e then (len : Int) - 3 + 1 else e) = E := ⟨_, rfl⟩
  have hE1 : E ≤ (len : Int) - 2 := by rw [← hE]; split <;> omega
  have hE2 : E ≤ (e : Int) := by rw [← hE]; split <;> omega
  have hE3 : (e : Int) ≤ E ∨ (len : Int) - 2 ≤ E := by rw [← hE]; split <;> omega
  have HT : Hid (Tr w B p zs k) := ht
  clear h1 h4 h5 h6 h7 h2 h3 ht
  go_enter Tryz.func175, Tryz.ntmps175
  go_wp2_with fail
  clear c0 c1
  go_loopw [6] (fun i wr => ∃ t : Nat, k ≤ t ∧ ((t : Int) ≤ E ∨ t = k) ∧ i = .int .i64 t ∧ Tr wr B p zs t ∧ Below B w wr ∧ KeepT 5 w wr) (fun i _ => E.toNat - (intOf i).toNat)
  case atStart => exact ⟨k, Nat.le_refl _, .inr rfl, rfl, HT.out, Below.refl _ _, KeepT.refl _ _⟩
  case round =>
    obtain ⟨t, hkt, htE, rfl, hT, hbel, hkeep⟩ := hrel
    by_cases hlt : (t : Int) < E
    · obtain ⟨mb, v, D, h1, h2, h3, h4, h5, h6, h7⟩ := id hT
      have hsz := hbel.size
      have hs' : Seg wr b off zs := fun i hi => (hbel.cell (by exact hbB)).trans (hs i hi)
      go_wp2_with fail
      refine (trio_any b off len cap t zs _ hz hs' (by omega) hl (fun i _ => hby i)).mono ?_
      rintro r w1 ⟨rfl, nq, rfl⟩
      obtain ⟨c0, c1, f1⟩ := cell_of_pair h1
      have hkb := Lz.key_bd zs t hby
      have hkw : (Lit.int .i64 (key zs t)).wf = true := WalkArith.wf_i64 (by omega)
      have hmp : mb ≠ (⟨p, 1, none⟩ : Addr).block := by
        obtain ⟨es, clock, hb, _⟩ := h5
        intro e; subst e; rw [h1] at hb; simp at hb
      obtain ⟨i0, hi, hz0, hz1, hz2⟩ := info_parts infoInt
      have HH : Hid ((∀ q : Int, Maps.has D (.int .i64 q) = (lastP zs q t).isSome) ∧ (∀ (q : Int) (n : Nat), lastP zs q t = some n → D.atKey (.int .i64 q) (.lit (.int .i64 0)) = .lit (.int .i64 n))) := ⟨h6, h7⟩
      clear h6 h7 hE
      cases hq : lastP zs (key zs t) t with
      | none =>
        have hhas : Maps.has D (.int .i64 (key zs t)) = false := by rw [HH.out.1, hq]; rfl
        have HQ : Hid (lastP zs (key zs t) t = none) := hq
        clear hq
        go_wp2_with (first
          | (at_lookup; refine wpList_lookup_own_ok_int _ rfl _ _ 59 rfl 3 3 .i64 mapLaw Tryz.underlying59 Tryz.underlying3 (zeroInt _) mb t D rfl h5 _ _ rfl (keyOf_int_mk Tryz.underlying3 hkw) ?_; intro x hat hwc)
          | (at_builtin; refine wpList_append_lies _ rfl _ _ 49 rfl B 3 i0 (.int .i64 0) 1 8 Tryz.underlying49 hi hz0 hz1 hz2 rfl (by decide) _ _ _ rfl (World.ownsRow.alloc (w := wr.drewN nq) h4 _) ⟨wr.heap.size, 0, none⟩ 1 1 [.int .i64 (-1)] rfl rfl (cell_one_new (wr.drewN nq) _ _) (ints_oneCell .i64 [(-1)]) (by decide) (by unfold maxLen; omega) (by omega) (by simp; omega) (wr.heap.size + 1) (by simp) ?_; intro gg cc w1 a1 a2 _ _; obtain ⟨d0, d1, d2, b1⟩ := pair_kept h1 h4 h5 a2; clear c0 c1 f1)
          | (at_mapUpdate; refine wpList_mapUpdate_own _ rfl _ _ _ 59 rfl 3 3 mapLaw Tryz.underlying59 _ mb t D rfl (b1.setCell hmp _) (by unfold maxLen; omega) _ _ _ rfl rfl (keyOf_int_mk Tryz.underlying3 hkw) _ [] (plainElem_int Tryz.underlying3 (WalkArith.wf_i64 (by omega))) ?_; intro w2 m1 m2))
        have R := tr_step (w := w) h1 h2 h3 h4 h5 HH.out.1 HH.out.2 (-1) (by rw [HQ.out]; rfl) hbel hkeep (by omega) a1 a2 m1 m2
        go_roundw
        case rel => exact ⟨t + 1, by omega, .inl (by omega), by go_num, R.1, R.2.1, R.2.2⟩
        case measure => simp [intOf]; omega
      | some n =>
        have hhas : Maps.has D (.int .i64 (key zs t)) = true := by rw [HH.out.1, hq]; rfl
        have HQ : Hid (lastP zs (key zs t) t = some n) := hq
        clear hq
        go_wp2_with (first
          | (at_lookup; refine wpList_lookup_own_ok_int _ rfl _ _ 59 rfl 3 3 .i64 mapLaw Tryz.underlying59 Tryz.underlying3 (zeroInt _) mb t D rfl h5 _ _ rfl (keyOf_int_mk Tryz.underlying3 hkw) ?_; intro x hat hwc; have HX : Hid (x = (n : Int)) := atKey_int hat (HH.out.2 _ n HQ.out); clear hat)
          | (at_builtin; refine wpList_append_lies _ rfl _ _ 49 rfl B 3 i0 (.int .i64 0) 1 8 Tryz.underlying49 hi hz0 hz1 hz2 rfl (by decide) _ _ _ rfl (World.ownsRow.alloc (w := wr.drewN nq) h4 _) ⟨wr.heap.size, 0, none⟩ 1 1 [.int .i64 x] rfl rfl (cell_one_new (wr.drewN nq) _ _) (ints_oneCell .i64 [x]) (by decide) (by unfold maxLen; omega) (by omega) (by simp; omega) (wr.heap.size + 1) (by simp) ?_; intro gg cc w1 a1 a2 _ _; obtain ⟨d0, d1, d2, b1⟩ := pair_kept h1 h4 h5 a2; clear c0 c1 f1)
          | (at_mapUpdate; refine wpList_mapUpdate_own _ rfl _ _ _ 59 rfl 3 3 mapLaw Tryz.underlying59 _ mb t D rfl (b1.setCell hmp _) (by unfold maxLen; omega) _ _ _ rfl rfl (keyOf_int_mk Tryz.underlying3 hkw) _ [] (plainElem_int Tryz.underlying3 (WalkArith.wf_i64 (by omega))) ?_; intro w2 m1 m2))
        have R := tr_step (w := w) h1 h2 h3 h4 h5 HH.out.1 HH.out.2 x (by rw [HQ.out, HX.out]; rfl) hbel hkeep (by omega) a1 a2 m1 m2
        go_roundw
        case rel => exact ⟨t + 1, by omega, .inl (by omega), by go_num, R.1, R.2.1, R.2.2⟩
        case measure => simp [intOf]; omega
    · go_wp2
      go_end0
      have e : max k (min e (len - 2)) = t := by omega
      exact ⟨rfl, by rw [e]; exact hT, hbel, hkeep⟩

theorem owns_cells {w : World} {B e n : Nat} {v : Value} {xs : List Int} (h : w.ownsRow B e 1 v n (xs.map (Value.int .i64))) (hn : 0 < n) :
    ∃ gb c, v = .slice (some ⟨gb, 0, none⟩) n c ∧ ∀ i, i < n → w.cell? ⟨gb, i, none⟩ = some (.int .i64 (g xs i)) := by
  obtain ⟨gb, c, rfl, _, _⟩ := h.form hn
  refine ⟨gb, c, rfl, fun i hi => ?_⟩
  have hlen : xs.length = n := by have := h.1; simpa using this
  rw [h.cellAt i (by omega)]
  simp [g, hlen, hi]

theorem look_any {w : World} {mb t : Nat} {D : DataW Unit} (h5 : w.ownsMap Tryz.prog 3 (plainElem Tryz.prog 3) mb t D) (q : Int) (hkw : (Lit.int .i64 q).wf = true) :
    ∃ x : Int, D.atKey (.int .i64 q) (.lit (.int .i64 0)) = .lit (.int .i64 x) ∧ ∀ nq, (Instr.lookup 59 (.map (some mb)) (.int .i64 q) true).run Tryz.prog (w.drewN nq) = .ok (.tuple #[.int .i64 x, .bool (Maps.has D (.int .i64 q))]) (w.drewN nq) := by
  obtain ⟨v, ps, _, hv⟩ := h5.look_ok mapLaw Tryz.underlying59 (zeroInt w) (plainElem_int Tryz.underlying3 (by decide)) (keyOf_int_mk Tryz.underlying3 hkw)
  obtain ⟨x, rfl, hx, _⟩ := plainElem_int_inv Tryz.underlying3 hv
  refine ⟨x, congrArg Prod.fst hx, fun nq => ?_⟩
  have h5' : (w.drewN nq).ownsMap Tryz.prog 3 (plainElem Tryz.prog 3) mb t D := h5
  obtain ⟨v', ps', hrun, hv'⟩ := h5'.look_ok mapLaw Tryz.underlying59 (zeroInt (w.drewN nq)) (plainElem_int Tryz.underlying3 (by decide)) (keyOf_int_mk Tryz.underlying3 hkw)
  obtain ⟨x', rfl, hx', _⟩ := plainElem_int_inv Tryz.underlying3 hv'
  have : x' = x := by
    have e1 := congrArg Prod.fst hx; have e2 := congrArg Prod.fst hx'
    exact atKey_int e2 e1
  rw [hrun, this]

set_option maxRecDepth 100000 in
set_option maxHeartbeats 800000 in
theorem match_any (b off len cap p B k a : Nat) (zs : List Int) (w : World) (hz : zs.length = len) (hs : Seg w b off zs) (hl : len ≤ 1000000)
    (hby : ∀ i, 0 ≤ g zs i ∧ g zs i ≤ 255) (ht : Tr w B p zs k) (ha : a < len) (hk : a + 3 ≤ len → k = a) :
    Calls Tryz.prog 172 #[.pointer (some ⟨p, 0, none⟩), .slice (some ⟨b, off, none⟩) len cap, .int .i64 a] w fun r w' =>
      r = .returned (.tuple #[.int .i64 (Lz.mt zs a).1, .int .i64 (Lz.mt zs a).2]) ∧ ∃ n, w' = w.drewN n := by
  obtain ⟨M, hM⟩ : ∃ M : Nat, M = Lz.most zs a := ⟨_, rfl⟩
  have hM' : M = min 130 (len - a) := by rw [hM, Lz.most, hz]
  have hM1 : M ≤ 130 := by omega
  have hM2 : a + M ≤ len := by omega
  have hmin : (if (len : Int) - a < 130 then (len : Int) - a else 130) = (M : Int) := by split <;> omega
  have HM : Hid (M = Lz.most zs a) := hM
  by_cases hM3 : M < 3
  · have hfin : Lz.mt zs a = (0, 0) := Lz.mt_small zs a (by rw [← hM]; exact hM3)
    rw [hfin]
    clear hfin hM hM'
    go_enter Tryz.func172, Tryz.ntmps172
    go_wp2
    go_ret2
    exact ⟨rfl, 0, rfl⟩
  · obtain rfl : k = a := hk (by omega)
    obtain ⟨mb, v, D, h1, h2, h3, h4, h5, h6, h7⟩ := id ht
    obtain ⟨c0, c1, f1⟩ := cell_of_pair h1
    have hkb := Lz.key_bd zs k hby
    have hkw : (Lit.int .i64 (key zs k)).wf = true := WalkArith.wf_i64 (by omega)
    have htrio : ∀ n, Calls Tryz.prog 189 #[.slice (some ⟨b, off, none⟩) len cap, .int .i64 k] (w.drewN n) fun e w' => e = .returned (.int .i64 (key zs k)) ∧ ∃ m, w' = (w.drewN n).drewN m :=
      fun n => trio_any b off len cap k zs _ hz (hs.drewN n) (by omega) hl (fun i _ => hby i)
    have HT : Hid (∀ n, Calls Tryz.prog 189 #[.slice (some ⟨b, off, none⟩) len cap, .int .i64 k] (w.drewN n) fun e w' => e = .returned (.int .i64 (key zs k)) ∧ ∃ m, w' = (w.drewN n).drewN m) := htrio
    clear htrio hM hM'
    cases hq : lastP zs (key zs k) k with
    | none =>
      have hhas : Maps.has D (.int .i64 (key zs k)) = false := by rw [h6, hq]; rfl
      obtain ⟨x, _, hlook⟩ := look_any h5 (key zs k) hkw
      rw [hhas] at hlook
      have hfin : Lz.mt zs k = (0, 0) := by
        have := Lz.Inv.start zs k
        rw [hq] at this
        exact Lz.Inv.mt (by simpa [prevOf, Lz.cov] using this)
      rw [hfin]
      clear hfin h6 h7 h5 h4 hq
      go_enter Tryz.func172, Tryz.ntmps172
      go_wp2
      go_quiet ((go_at_call 189; exact Calls.quiet_of (HT.out _)))
      go_wp2
      go_ret2
      exact ⟨rfl, _, rfl⟩
    | some n =>
      have hhas : Maps.has D (.int .i64 (key zs k)) = true := by rw [h6, hq]; rfl
      obtain ⟨x, hx, hlook⟩ := look_any h5 (key zs k) hkw
      rw [hhas] at hlook
      obtain rfl : x = (n : Int) := atKey_int hx (h7 _ n hq)
      have hnk := (Lz.lastP_some zs _ k n hq).1
      have hnkey := (Lz.lastP_some zs _ k n hq).2.1
      have hinv : Lz.Inv zs k 0 0 (Lz.cov k (n : Int)) := by
        have := Lz.Inv.start zs k
        rw [hq] at this
        exact this
      obtain ⟨gb, c, rfl, hcells⟩ := owns_cells h4 (by omega)
      have HC : Hid (∀ i, i < k → w.cell? ⟨gb, i, none⟩ = some (.int .i64 (g (aheadL zs k) i))) := hcells
      clear h6 h7 h5 h4 hq hx hcells
      go_enter Tryz.func172, Tryz.ntmps172
      go_wp2
      go_quiet ((go_at_call 189; exact Calls.quiet_of (HT.out _)))
      go_wp2
      go_loopw [6, 7, 9] (fun i6 i7 i9 wr => ∃ (l bk : Nat) (pl : Int), i6 = .int .i64 l ∧ i7 = .int .i64 bk ∧ i9 = .int .i64 pl ∧ -1 ≤ pl ∧ pl < k ∧ (0 ≤ pl → key zs pl.toNat = key zs k) ∧ Lz.Inv zs k l bk (Lz.cov k pl) ∧ ∃ m, wr = w.drewN m)
        (fun _ _ i9 _ => (intOf i9 + 1).toNat)
      case atStart => exact ⟨0, 0, n, rfl, rfl, rfl, by omega, by omega, fun _ => hnkey, hinv, _, rfl⟩
      case round =>
        clear hlook c0 hnkey hinv
        obtain ⟨l, bk, pl, rfl, rfl, rfl, hp1, hp2, hp3, hI, m, rfl⟩ := hrel
        have hlM : l ≤ M := by have := hI.len; rw [← HM.out] at this; exact this
        by_cases d1 : 0 ≤ pl
        · obtain ⟨P, rfl⟩ := Int.eq_ofNat_of_zero_le d1
          have hP : P < k := by omega
          have HP : Hid (key zs P = key zs k) := hp3 d1
          clear hp3
          by_cases d2 : (k : Int) - P ≤ 256
          · by_cases d3 : l < M
            · have hcov : Lz.cov k (P : Int) = k - P - 1 := by unfold Lz.cov; omega
              rw [hcov] at hI
              have HI : Hid (Lz.Inv zs k l bk (k - P - 1)) := hI
              have hlb : lk zs P k M = Lz.lb zs k (k - P) := by unfold Lz.lb; rw [← HM.out, show k - (k - P) = P by omega]
              have h3 : 3 ≤ Lz.lb zs k (k - P) := Lz.lb_three zs k (k - P) hby (by rw [← HM.out]; omega) (by rw [show k - (k - P) = P by omega]; exact HP.out)
              have hn := Lz.prevOf_lt zs (key zs P) P
              have hca := HC.out P hP
              rw [Lz.aheadL_at zs k P hP] at hca
              have HK : Hid (∀ l' bk', Lz.Inv zs k l' bk' (k - P) → Lz.Inv zs k l' bk' (Lz.cov k (prevOf (lastP zs (key zs P) P)))) := fun l' bk' h => h.next hP (by omega) HP.out
              have HN : Hid (0 ≤ prevOf (lastP zs (key zs P) P) → key zs (prevOf (lastP zs (key zs P) P)).toNat = key zs k) := fun h => (Lz.prevOf_key zs _ P h).trans HP.out
              have HL : Hid (lk zs P k M = Lz.lb zs k (k - P)) := hlb
              clear hI hcov hlb
              generalize prevOf (lastP zs (key zs P) P) = np at hn hca HK HN
              have hlbM := Lz.lb_le zs k (k - P)
              rw [← HM.out] at hlbM
              by_cases d4 : l < Lz.lb zs k (k - P)
              · have R := HK.out _ _ (by have := HI.out.better (by rw [show k - P - 1 + 1 = k - P by omega]; exact h3) (by rw [show k - P - 1 + 1 = k - P by omega]; exact d4); rw [show k - P - 1 + 1 = k - P by omega] at this; exact this)
                go_wp2_with (go_at_call 190; refine (likewise_any b off len cap P k M zs _ hz (hs.drewN _) (by omega) (by omega) hl).mono ?_; rintro e w' ⟨rfl, mm, rfl⟩; rw [HL.out])
                go_roundw
                case rel => exact ⟨_, k - P, np, rfl, by go_num, rfl, by omega, by omega, HN.out, R, _, rfl⟩
                case measure => simp only [intOf]; omega
              · have R := HK.out _ _ (by have := HI.out.worse (by rw [show k - P - 1 + 1 = k - P by omega]; exact h3) (by rw [show k - P - 1 + 1 = k - P by omega]; exact d4); rw [show k - P - 1 + 1 = k - P by omega] at this; exact this)
                go_wp2_with (go_at_call 190; refine (likewise_any b off len cap P k M zs _ hz (hs.drewN _) (by omega) (by omega) hl).mono ?_; rintro e w' ⟨rfl, mm, rfl⟩; rw [HL.out])
                go_roundw
                case rel => exact ⟨l, bk, np, rfl, rfl, rfl, by omega, by omega, HN.out, R, _, rfl⟩
                case measure => simp only [intOf]; omega
            · have HF : Hid (Lz.mt zs k = (l, bk)) := hI.full (by rw [← HM.out]; omega) (by rw [← HM.out]; omega) (by unfold Lz.cov; omega)
              clear hI
              go_wp2
              go_ret2
              rw [HF.out]
              exact ⟨rfl, _, rfl⟩
          · have HF : Hid (Lz.mt zs k = (l, bk)) := Lz.Inv.mt (by have e : Lz.cov k (P : Int) = min 256 k := by unfold Lz.cov; omega
                                                                  rw [e] at hI; exact hI)
            clear hI
            go_wp2
            go_ret2
            rw [HF.out]
            exact ⟨rfl, _, rfl⟩
        · have HF : Hid (Lz.mt zs k = (l, bk)) := Lz.Inv.mt (by have e : Lz.cov k pl = min 256 k := by unfold Lz.cov; omega
                                                                rw [e] at hI; exact hI)
          clear hI hp3
          go_wp2
          go_ret2
          rw [HF.out]
          exact ⟨rfl, _, rfl⟩
end Go.Proofs.YtoohanojfoichaaGreatDoor

/- The walks of lz.Match and of the reference's Match: each tells the longest and nearest match. -/
namespace Go.Proofs.YtoohanojfoichaaGreatDoor
set_option linter.unusedVariables false
open Go.RowKit Go.Maps
open Lz (g lk key lastP prevOf aheadL mt)


end Go.Proofs.YtoohanojfoichaaGreatDoor

/- The walks of appendRuns, appendCopy and of the reference's runs: bytes are laid down as tokens behind what is there. -/
namespace Go.Proofs.YtoohanojfoichaaGreatDoor
set_option linter.unusedVariables false
open Go.RowKit Go.Maps
open Lz (g runs)


def lenOf : Value → Nat
  | .slice _ n _ => n
  | _ => 0





set_option maxHeartbeats 800000 in
theorem appendRuns_any (B n c len cap : Nat) (ao bo : Option Addr) (xs l : List Int) (w : World) (ho : w.ownsRow B 5 1 (.slice ao n c) n (bv xs)) (hB : B ≤ w.heap.size) (hl : BsB w B bo len l) (hlc : len ≤ cap) (hbd : n + 2 * len ≤ 1000000) :
    Calls Tryz.prog 173 #[.slice ao n c, .slice bo len cap] w fun r w' =>
      ∃ ao' n' c', r = .returned (.slice ao' n' c') ∧ w'.ownsRow B 5 1 (.slice ao' n' c') n' (bv (xs ++ runs l)) ∧ Below B w w' ∧ KeepN 5 w w' := by
  obtain ⟨i0, hi, hz0, hz1, hz2⟩ := info_parts infoByte
  go_enter Tryz.func173, Tryz.ntmps173
  go_wp2_with fail
  go_loopw [0, 1] (fun s0 s1 wr => ∃ (ao : Option Addr) (n c : Nat) (ys : List Int) (bo : Option Addr) (len cap : Nat) (rest : List Int), s0 = .slice ao n c ∧ s1 = .slice bo len cap ∧ wr.ownsRow B 5 1 (.slice ao n c) n (bv ys) ∧
      BsB wr B bo len rest ∧ ys ++ runs rest = xs ++ runs l ∧ len ≤ cap ∧ n + 2 * len ≤ 1000000 ∧ Below B w wr ∧ KeepN 5 w wr) (fun _ s1 _ => lenOf s1)
  case atStart => exact ⟨ao, n, c, xs, bo, len, cap, l, rfl, rfl, ho, hl, rfl, hlc, hbd, Below.refl _ _, KeepN.refl _ _⟩
  case round =>
    clear ho hl hlc hbd
    obtain ⟨ao, n, c, ys, bo, len, cap, rest, rfl, rfl, ho, hl, heq, hlc, hbd, hbel, hkeep⟩ := hrel
    have HQ : Hid (ys ++ runs rest = xs ++ runs l) := heq
    clear heq
    have hsz := hbel.size
    by_cases d1 : 0 < len
    · obtain ⟨hz, hby, h0⟩ := hl
      rcases h0 with h0 | ⟨b, off, rfl, hb, hs⟩
      · omega
      obtain ⟨m, hm⟩ : ∃ m : Nat, m = min len 128 := ⟨_, rfl⟩
      have hmin : (if (128 : Int) < (len : Int) then 128 else (len : Int)) = (m : Int) := by split <;> omega
      have hm1 : 1 ≤ m := by omega
      have hm2 : m ≤ 128 := by omega
      have hm3 : m ≤ len := by omega
      have HM : Hid (m = min len 128) := hm
      clear hm
      have ht : (rest.take m).length = m := by simp [hz]; omega
      have hstep : ys ++ runs rest = (ys ++ [(m : Int) - 1] ++ rest.take m) ++ runs (rest.drop m) := by
        rw [Lz.runs_step rest (by omega), hz, ← HM.out]; simp
      have HS : Hid (ys ++ runs rest = (ys ++ [(m : Int) - 1] ++ rest.take m) ++ runs (rest.drop m)) := hstep
      have HR : Hid (BsB wr B (if cap = m then some ⟨b, off, none⟩ else some ⟨b, off + m, none⟩) (len - m) (rest.drop m)) := by
        refine ⟨by simp [hz], bytes_drop hby m, ?_⟩
        by_cases e : len = m
        · exact .inl (by omega)
        · refine .inr ⟨b, off + m, by rw [if_neg (by omega)], hb, ?_⟩
          have := hs.cut m len
          rw [List.take_of_length_le (by omega)] at this
          exact this
      clear hstep
      go_wp2_with (first
        | (at_builtin; refine wpList_append_lies _ rfl (.tmp 12) (.tmp 16) 25 rfl B 5 i0 (.int .u8 0) 1 1 Tryz.underlying25 hi hz0 hz1 hz2 rfl (by decide) _ _ _ rfl (ho.alloc _) ⟨wr.heap.size, 0, none⟩ 1 1 (bv [(m : Int) - 1]) rfl rfl (cell_one_new wr _ _) (bv_one _) (by decide) (by unfold maxLen; omega) (by omega) (by simp; omega) (wr.heap.size + 1) (by simp) ?_; intro g1 c1 w1 a1 k1 _ _; obtain ⟨bel1, keep1, bel1'⟩ := grow_step hbel hkeep (by omega) ho k1; have hs1 := hs.below bel1' hb)
        | (at_builtin; refine wpList_append_lies _ rfl (.tmp 18) (.tmp 21) 25 rfl B 5 i0 (.int .u8 0) 1 1 Tryz.underlying25 hi hz0 hz1 hz2 rfl (by decide) _ _ _ rfl a1 ⟨b, off, none⟩ m _ (bv (rest.take m)) rfl (by rw [bv_length, ht]; omega) (news_seg hs1 m) (bv_one _) (by omega) (by unfold maxLen; omega) (by omega) (by have := bel1.size; omega) w1.heap.size rfl ?_; intro g2 c2 w2 a2 k2 _ _; obtain ⟨bel2, keep2, bel2'⟩ := grow_step0 bel1 keep1 (by have := bel1.size; omega) a1 k2))
      have HF : Hid (BsB w2 B (if cap = m then some ⟨b, off, none⟩ else some ⟨b, off + m, none⟩) (len - m) (rest.drop m)) := (HR.out.below bel1').below bel2'
      have HO : Hid (w2.ownsRow B 5 1 (.slice (some ⟨g2, 0, none⟩) (n + 1 + m) c2) (n + 1 + m) (bv (ys ++ [(m : Int) - 1] ++ rest.take m))) := by rw [bv_append, bv_append]; exact a2
      go_roundw
      case rel => exact ⟨_, _, _, _, _, _, _, _, rfl, rfl, HO.out, HF.out, HS.out.symm.trans HQ.out, by omega, by omega, bel2, keep2⟩
      case measure => simp only [lenOf]; omega
    · go_wp2
      go_ret
      have er : runs rest = [] := Lz.runs_zero rest (by rw [hl.1]; omega)
      have hq := HQ.out
      rw [er, List.append_nil] at hq
      exact ⟨_, _, _, rfl, by rw [← hq]; exact ho, hbel, hkeep⟩

theorem list2 {a b c d : Int} (h1 : a = c) (h2 : b = d) : [a, b] = [c, d] := by rw [h1, h2]

set_option maxHeartbeats 400000 in
theorem appendCopy_any (B n c L K : Nat) (ao : Option Addr) (xs : List Int) (w : World) (ho : w.ownsRow B 5 1 (.slice ao n c) n (bv xs)) (hB : B ≤ w.heap.size) (hbd : n + 2 ≤ 1000000) (hL1 : 3 ≤ L) (hL2 : L ≤ 130) (hK1 : 1 ≤ K) (hK2 : K ≤ 256) :
    Calls Tryz.prog 174 #[.slice ao n c, .int .i64 L, .int .i64 K] w fun r w' =>
      ∃ ao' c', r = .returned (.slice ao' (n + 2) c') ∧ w'.ownsRow B 5 1 (.slice ao' (n + 2) c') (n + 2) (bv (xs ++ [(L : Int) + 125, (K : Int) - 1])) ∧ Below B w w' ∧ KeepN 5 w w' := by
  obtain ⟨i0, hi, hz0, hz1, hz2⟩ := info_parts infoByte
  go_enter Tryz.func174, Tryz.ntmps174
  go_wp2_with (at_builtin; refine wpList_append_lies _ rfl _ _ 25 rfl B 5 i0 (.int .u8 0) 1 1 Tryz.underlying25 hi hz0 hz1 hz2 rfl (by decide) _ _ _ rfl (ho.alloc _) ⟨w.heap.size, 0, none⟩ 2 2 (bv [(L : Int) - 3 + 128, (K : Int) - 1]) rfl rfl (World.news_of_block (heap_alloc_new w _)) (bv_one _) (by decide) (by unfold maxLen; omega) (by omega) (by simp; omega) (w.heap.size + 1) (by simp) ?_; intro g1 c1 w1 a1 k1 _ _)
  go_ret
  obtain ⟨bel1, keep1, _⟩ := grow_step (Below.refl B w) (KeepN.refl _ w) hB ho k1
  refine ⟨_, _, rfl, ?_, bel1, keep1⟩
  rw [bv_append, list2 (show (L : Int) + 125 = (L : Int) - 3 + 128 by omega) rfl]
  exact a1



end Go.Proofs.YtoohanojfoichaaGreatDoor

/- The walks of lz.Pack and of the reference's Pack: both come to the same tokens. -/
namespace Go.Proofs.YtoohanojfoichaaGreatDoor
set_option linter.unusedVariables false
open Go.RowKit Go.Maps
open Lz (g runs mt pk pack)


set_option maxRecDepth 100000 in
set_option maxHeartbeats 4000000 in
theorem Pack_any (len cap : Nat) (ao : Option Addr) (zs : List Int) (w : World) (hB : Bs w ao len zs) (hc : len ≤ cap) (hl : len ≤ 5000) :
    Calls Tryz.prog 129 #[.slice ao len cap] w fun r w' =>
      (4096 < len ∧ r = .returned (.tuple #[.slice none 0 0, .int .i64 3]) ∧ w' = w) ∨
      (len ≤ 4096 ∧ ∃ ao' n' c', r = .returned (.tuple #[.slice ao' n' c', .int .i64 0]) ∧ w'.ownsRow w.heap.size 5 1 (.slice ao' n' c') n' (bv (pack zs)) ∧ Below w.heap.size w w') := by
  by_cases d0 : 4096 < len
  · go_enter Tryz.func129, Tryz.ntmps129
    go_wp2_with fail
    go_ret2
    exact .inl ⟨d0, rfl, rfl⟩
  · have d0' : decide ((4096 : Int) < (len : Int)) = false := by simp; omega
    go_enter Tryz.func129, Tryz.ntmps129
    go_wp2_with fail
    refine (newTrios_any _ zs).mono ?_
    rintro r w1 ⟨rfl, ht, hbel, _⟩
    go_wp2_with fail
    go_loopw [4, 6, 7] (fun s4 s6 s7 wr => ∃ (vo : Option Addr) (n c run a : Nat) (ys : List Int), s4 = .slice vo n c ∧ s6 = .int .i64 run ∧ s7 = .int .i64 a ∧ wr.ownsRow w.heap.size 5 1 (.slice vo n c) n (bv ys) ∧
        run ≤ a ∧ a ≤ len ∧ n ≤ 2 * run ∧ pk zs ys run a = pack zs ∧ Tr wr w.heap.size (w.heap.size + 1) zs (min a (len - 2)) ∧ Below w.heap.size w wr) (fun _ _ s7 _ => len - (intOf s7).toNat)
    case atStart => exact ⟨none, 0, 0, 0, 0, [], rfl, rfl, rfl, World.ownsRow_nil _ _ _ _, by omega, by omega, by omega, rfl, by simpa using ht, hbel⟩
    case round =>
      clear ht hbel
      obtain ⟨vo, n, c, run, a, ys, rfl, rfl, rfl, ho, hra, hal, hn, hpk, hT, hbel⟩ := hrel
      have HP : Hid (pk zs ys run a = pack zs) := hpk
      clear hpk
      have hsz := hbel.size
      by_cases d1 : a < len
      · have hBw := hB.below hbel
        obtain ⟨hz, hby, h0⟩ := hB
        rcases h0 with h0 | ⟨b, off, rfl, hb, hs⟩
        · omega
        have hs1 := hs.below hbel hb
        have hmle := Lz.mt_le zs a
        have hmb := Lz.mt_back zs a
        have hmo : Lz.most zs a ≤ len - a := by unfold Lz.most; omega
        have hmo2 : Lz.most zs a ≤ 130 := by unfold Lz.most; omega
        have HM : Hid (mt zs a = (0, 0) ∨ (3 ≤ (mt zs a).1 ∧ 1 ≤ (mt zs a).2 ∧ (mt zs a).1 = Lz.lb zs a (mt zs a).2)) := Lz.mt_is zs a
        by_cases d2 : (mt zs a).1 = 0
        · have HK : Hid (pk zs ys run a = pk zs ys run (a + 1)) := Lz.pk_byte zs ys run a (by omega) d2
          have d2' : (((mt zs a).1 : Int) == 0) = true := by rw [beq_iff_eq]; omega
          clear d2
          go_wp2_with fail
          refine (match_any b off len cap _ w.heap.size _ a zs _ hz hs1 (by omega) hby hT d1 (by omega)).mono ?_
          rintro r w2 ⟨rfl, nq, rfl⟩
          go_wp2_with fail
          rw [show (a : Int) + 1 = ((a + 1 : Nat) : Int) by omega]
          refine (addUpTo_any b off len cap _ w.heap.size _ (a + 1) zs _ hz (hs1.drewN nq) hb hsz (by omega) hby (hT.drewN nq) (by omega)).mono ?_
          rintro r w3 ⟨rfl, hT3, hbel3, hk3⟩
          have HR : Hid (w3.ownsRow w.heap.size 5 1 (.slice vo n c) n (bv ys) ∧ Tr w3 w.heap.size (w.heap.size + 1) zs (min (a + 1) (len - 2)) ∧ Below w.heap.size w w3) :=
            ⟨hk3.owns ho, by rw [show min (a + 1) (len - 2) = max (min a (len - 2)) (min (a + 1) (len - 2)) by omega]; exact hT3, (below_drewN hbel nq).trans hbel3⟩
          go_wp2
          go_roundw
          case rel => exact ⟨vo, n, c, run, a + 1, ys, rfl, rfl, rfl, HR.out.1, by omega, by omega, hn, HK.out.symm.trans HP.out, HR.out.2.1, HR.out.2.2⟩
          case measure => simp only [intOf]; omega
        · obtain ⟨hm3, hm1⟩ : 3 ≤ (mt zs a).1 ∧ 1 ≤ (mt zs a).2 := by
            rcases HM.out with h | h
            · rw [h] at d2; simp at d2
            · exact ⟨h.1, h.2.1⟩
          have HK : Hid (pk zs ys run a = pk zs (ys ++ runs ((zs.take a).drop run) ++ [((mt zs a).1 : Int) + 125, ((mt zs a).2 : Int) - 1]) (a + (mt zs a).1) (a + (mt zs a).1)) := Lz.pk_copy zs ys run a (by omega) d2
          have d2' : (((mt zs a).1 : Int) == 0) = false := by rw [beq_eq_false_iff_ne]; omega
          clear d2 HM
          have hcr : ¬ cap = run := by omega
          go_wp2_with fail
          refine (match_any b off len cap _ w.heap.size _ a zs _ hz hs1 (by omega) hby hT d1 (by omega)).mono ?_
          rintro r w2 ⟨rfl, nq, rfl⟩
          go_wp2_with fail
          have hcut : BsB wr w.heap.size (some ⟨b, off + run, none⟩) (a - run) ((zs.take a).drop run) := BsB.cut hs1 hb hby run a (a - run) rfl (by omega)
          refine (appendRuns_any w.heap.size n c (a - run) (cap - run) vo _ ys ((zs.take a).drop run) (wr.drewN nq) ho hsz hcut (by omega) (by omega)).mono ?_
          rintro r w3 ⟨ao3, n3, c3, rfl, ho3, hbel3, hk3⟩
          have hn3 : n3 = ys.length + (runs ((zs.take a).drop run)).length := by
            have := ho3.1
            rw [bv_length, List.length_append] at this; omega
          have hn0 : n = ys.length := by
            have := ho.1
            rw [bv_length] at this; omega
          have hn4 : n3 ≤ 2 * a := by
            rw [hn3, Lz.runs_length, hcut.1]; omega
          clear hn3 hn0
          have hB3 : w.heap.size ≤ w3.heap.size := Nat.le_trans hsz hbel3.size
          go_wp2_with fail
          refine (appendCopy_any w.heap.size n3 c3 (mt zs a).1 (mt zs a).2 ao3 _ w3 ho3 hB3 (by omega) hm3 (by omega) hm1 (by omega)).mono ?_
          rintro r w4 ⟨ao4, c4, rfl, ho4, hbel4, hk4⟩
          have hbelw : Below w.heap.size w w4 := ((below_drewN hbel nq).trans hbel3).trans hbel4
          have hT4 : Tr w4 w.heap.size (w.heap.size + 1) zs (min a (len - 2)) := ((hT.drewN nq).kept hk3).kept hk4
          go_wp2_with fail
          rw [show (a : Int) + ((mt zs a).1 : Int) = ((a + (mt zs a).1 : Nat) : Int) by omega]
          refine (addUpTo_any b off len cap _ w.heap.size _ (a + (mt zs a).1) zs _ hz (hs.below hbelw hb) hb hbelw.size (by omega) hby hT4 (by omega)).mono ?_
          rintro r w5 ⟨rfl, hT5, hbel5, hk5⟩
          have HR : Hid (w5.ownsRow w.heap.size 5 1 (.slice ao4 (n3 + 2) c4) (n3 + 2) (bv (ys ++ runs ((zs.take a).drop run) ++ [((mt zs a).1 : Int) + 125, ((mt zs a).2 : Int) - 1])) ∧ Tr w5 w.heap.size (w.heap.size + 1) zs (min (a + (mt zs a).1) (len - 2)) ∧ Below w.heap.size w w5) :=
            ⟨hk5.owns ho4, by rw [show min (a + (mt zs a).1) (len - 2) = max (min a (len - 2)) (min (a + (mt zs a).1) (len - 2)) by omega]; exact hT5, hbelw.trans hbel5⟩
          clear hT hT4 hT5 ho ho3 ho4 hk3 hk4 hk5 hcut hBw
          go_wp2
          go_roundw
          case rel => exact ⟨ao4, n3 + 2, c4, a + (mt zs a).1, a + (mt zs a).1, _, rfl, rfl, rfl, HR.out.1, Nat.le_refl _, by omega, by omega, HK.out.symm.trans HP.out, HR.out.2.1, HR.out.2.2⟩
          case measure => simp only [intOf]; omega
      · have hR := (hB.toB.below hbel).rest run (by omega) hc
        by_cases dc : cap = run
        · rw [if_pos dc] at hR
          obtain rfl := dc
          rw [Nat.sub_eq_zero_of_le hc] at hR
          go_wp2_with fail
          refine (appendRuns_any w.heap.size n c 0 0 vo ao ys (zs.drop cap) _ ho hsz hR (by omega) (by omega)).mono ?_
          rintro r w2 ⟨ao', n', c', rfl, ho', hbel', _⟩
          go_wp2
          go_ret2
          exact .inr ⟨by omega, _, _, _, rfl, by rw [← HP.out, Lz.pk_end _ _ _ _ (by rw [hB.1]; omega)]; exact ho', hbel.trans hbel'⟩
        · rw [if_neg dc] at hR
          go_wp2_with fail
          refine (appendRuns_any w.heap.size n c _ _ vo _ ys (zs.drop run) _ ho hsz hR (by omega) (by omega)).mono ?_
          rintro r w2 ⟨ao', n', c', rfl, ho', hbel', _⟩
          go_wp2
          go_ret2
          exact .inr ⟨by omega, _, _, _, rfl, by rw [← HP.out, Lz.pk_end _ _ _ _ (by rw [hB.1]; omega)]; exact ho', hbel.trans hbel'⟩
end Go.Proofs.YtoohanojfoichaaGreatDoor

/- The walk of the reference's Pack: it comes to the tokens that the document says. -/
namespace Go.Proofs.YtoohanojfoichaaGreatDoor
set_option linter.unusedVariables false
open Go.RowKit Go.Maps
open Lz (g runs mt pk pack)


end Go.Proofs.YtoohanojfoichaaGreatDoor

/- The walks of firstToken, appendTo and lz.Unpack: packed bytes are unpacked, or refused, as the document says. -/
namespace Go.Proofs.YtoohanojfoichaaGreatDoor
set_option linter.unusedVariables false
open Go.RowKit Go.Maps
open Lz (g)

end Go.Proofs.YtoohanojfoichaaGreatDoor

/- The walk of lz.Unpack: packed bytes are unpacked, or refused, as the document says. -/
namespace Go.Proofs.YtoohanojfoichaaGreatDoor
set_option linter.unusedVariables false
open Go.RowKit Go.Maps
open Lz (g)

end Go.Proofs.YtoohanojfoichaaGreatDoor

/- The walk of the reference's Unpack: packed bytes are unpacked, or refused, as the document says. -/
namespace Go.Proofs.YtoohanojfoichaaGreatDoor
set_option linter.unusedVariables false
open Go.RowKit Go.Maps
open Lz (g)

end Go.Proofs.YtoohanojfoichaaGreatDoor

/- What is packed, and what is unpacked, are bytes. -/
namespace Go.Proofs.YtoohanojfoichaaGreatDoor
set_option linter.unusedVariables false
open Go.RowKit Go.Maps
open Lz (g pack runs mt)

theorem Bytes.runsF : ∀ (f : Nat) {l : List Int}, Bytes l → Bytes (Lz.runsF f l)
  | 0, l, _ => fun x hx => by simp [Lz.runsF] at hx
  | f + 1, l, h => by
    rw [Lz.runsF_succ]
    split
    · intro x hx; simp at hx
    · rename_i hne
      intro x hx
      rcases List.mem_cons.1 hx with rfl | hx
      · omega
      · exact ((h.take _).append (Bytes.runsF f (h.drop _))) x hx
theorem Bytes.runs {l : List Int} (h : Bytes l) : Bytes (Lz.runs l) := Bytes.runsF _ h
theorem mt_bytes (zs : List Int) (a : Nat) (h : (mt zs a).1 ≠ 0) : Bytes [((mt zs a).1 : Int) + 125, ((mt zs a).2 : Int) - 1] := by
  have h1 := Lz.mt_le zs a
  have h2 := Lz.mt_back zs a
  have h3 : Lz.most zs a ≤ 130 := by unfold Lz.most; omega
  rcases Lz.mt_is zs a with e | ⟨h4, h5, _⟩
  · rw [e] at h; simp at h
  · intro x hx
    simp at hx
    rcases hx with rfl | rfl <;> omega
theorem Bytes.packF {zs : List Int} (hz : Bytes zs) : ∀ (f : Nat) (out : List Int) (run a : Nat), Bytes out → Bytes (Lz.packF zs f out run a)
  | 0, out, run, a, h => h.append (hz.drop run).runs
  | f + 1, out, run, a, h => by
    rw [Lz.packF_succ]
    split
    · exact h.append (hz.drop run).runs
    · split
      · exact Bytes.packF hz f _ _ _ h
      · rename_i h0
        exact Bytes.packF hz f _ _ _ ((h.append ((hz.take a).drop run).runs).append (mt_bytes zs a h0))
theorem Bytes.pack {zs : List Int} (hz : Bytes zs) : Bytes (Lz.pack zs) := Bytes.packF hz _ _ _ _ (fun x hx => by simp at hx)
end Go.Proofs.YtoohanojfoichaaGreatDoor

/- The plain mathematics of unpacking what was packed: whole, with less room, cut, and one behind the other. -/
namespace Go.Proofs.YtoohanojfoichaaGreatDoor.Lz

theorem packF_out (zs : List Int) : ∀ (f : Nat) (out : List Int) (run a : Nat), packF zs f out run a = out ++ packF zs f [] run a
  | 0, out, run, a => by simp [packF]
  | f + 1, out, run, a => by
    rw [packF_succ, packF_succ]
    by_cases h : zs.length ≤ a
    · rw [if_pos h, if_pos h]; simp
    · rw [if_neg h, if_neg h]
      by_cases h0 : (mt zs a).1 = 0
      · rw [if_pos h0, if_pos h0, packF_out zs f out]
      · rw [if_neg h0, if_neg h0, packF_out zs f (out ++ _ ++ _), packF_out zs f ([] ++ _ ++ _)]; simp
theorem pk_out (zs out : List Int) (run a : Nat) : pk zs out run a = out ++ pk zs [] run a := packF_out zs _ out run a

theorem mt_facts (zs : List Int) (a : Nat) (h : (mt zs a).1 ≠ 0) : 3 ≤ (mt zs a).1 ∧ (mt zs a).1 ≤ 130 ∧ a + (mt zs a).1 ≤ zs.length ∧ 1 ≤ (mt zs a).2 ∧ (mt zs a).2 ≤ 256 ∧ (mt zs a).2 ≤ a ∧
    ∀ k, k < (mt zs a).1 → g zs (a - (mt zs a).2 + k) = g zs (a + k) := by
  have h1 := mt_le zs a
  have h2 := mt_back zs a
  have h3 : most zs a ≤ 130 := by unfold most; omega
  have h4 : most zs a ≤ zs.length - a := by unfold most; omega
  rcases mt_is zs a with e | ⟨h5, h6, h7⟩
  · rw [e] at h; simp at h
  · refine ⟨h5, by omega, by omega, h6, by omega, by omega, fun k hk => ?_⟩
    rw [h7] at hk
    exact lk_eq zs _ _ _ k hk

/-! ### how long -/
theorem pk_short (zs : List Int) : ∀ (f run a : Nat), zs.length - a ≤ f → run ≤ a → a ≤ zs.length → (pk zs [] run a).length ≤ (zs.length - run) + (zs.length - run + 127) / 128
  | 0, run, a, hf, hra, hal => by rw [pk_end zs [] run a (by omega), List.nil_append, runs_length]; simp
  | f + 1, run, a, hf, hra, hal => by
    by_cases h : zs.length ≤ a
    · rw [pk_end zs [] run a (by omega), List.nil_append, runs_length]; simp
    · by_cases h0 : (mt zs a).1 = 0
      · rw [pk_byte zs [] run a (by omega) h0]
        exact pk_short zs f run (a + 1) (by omega) (by omega) (by omega)
      · obtain ⟨m1, m2, m3, _⟩ := mt_facts zs a h0
        have ih := pk_short zs f (a + (mt zs a).1) (a + (mt zs a).1) (by omega) (by omega) (by omega)
        have hl2 : ((zs.take a).drop run).length = a - run := by simp; omega
        rw [pk_copy zs [] run a (by omega) h0, pk_out, List.nil_append, List.length_append, List.length_append, runs_length, hl2]
        simp only [List.length_cons, List.length_nil]
        omega
theorem pack_short (zs : List Int) : (pack zs).length ≤ zs.length + (zs.length + 127) / 128 := by
  have := pk_short zs zs.length 0 0 (by omega) (by omega) (by omega)
  simpa [pack] using this

end Go.Proofs.YtoohanojfoichaaGreatDoor.Lz

/- The walks of the reference's writer: Bytes, Num, Text, Done. -/
namespace Go.Proofs.YtoohanojfoichaaGreatDoor
set_option linter.unusedVariables false
open Go.RowKit Go.Maps
open Lz (g)
open Cur

end Go.Proofs.YtoohanojfoichaaGreatDoor

/- The plain mathematics of layer 1 (lz): matches, runs, packing and unpacking over lists of numbers; nothing of the program is named here. -/
import Derived.Test.YtahbgebnmgnmoaaBase
namespace Go.Proofs.Ytahbgebnmgnmoaa.Lz



/-- How many bytes from a on are as those from p on, m at most. -/
def lk (zs : List Int) (p a : Nat) : Nat → Nat
  | 0 => 0
  | m + 1 => if g zs p = g zs a then lk zs (p + 1) (a + 1) m + 1 else 0

theorem lk_le (zs : List Int) : ∀ (m p a : Nat), lk zs p a m ≤ m
  | 0, _, _ => Nat.le_refl _
  | m + 1, p, a => by
    unfold lk
    split
    · have := lk_le zs m (p + 1) (a + 1); omega
    · omega

theorem lk_eq (zs : List Int) : ∀ (m p a k : Nat), k < lk zs p a m → g zs (p + k) = g zs (a + k)
  | 0, _, _, _, h => by simp [lk] at h
  | m + 1, p, a, k, h => by
    unfold lk at h
    split at h
    · rename_i he
      cases k with
      | zero => exact he
      | succ k =>
        have := lk_eq zs m (p + 1) (a + 1) k (by omega)
        rw [show p + (k + 1) = p + 1 + k by omega, show a + (k + 1) = a + 1 + k by omega]
        exact this
    · omega

theorem lk_stop (zs : List Int) : ∀ (m p a : Nat), lk zs p a m < m → g zs (p + lk zs p a m) ≠ g zs (a + lk zs p a m)
  | 0, _, _, h => by simp [lk] at h
  | m + 1, p, a, h => by
    unfold lk at h ⊢
    split at h
    · rename_i he
      rw [if_pos he]
      have := lk_stop zs m (p + 1) (a + 1) (by omega)
      rw [show p + (lk zs (p + 1) (a + 1) m + 1) = p + 1 + lk zs (p + 1) (a + 1) m by omega, show a + (lk zs (p + 1) (a + 1) m + 1) = a + 1 + lk zs (p + 1) (a + 1) m by omega]
      exact this
    · rename_i he
      rw [if_neg he]
      exact he

/-- It is the one number of which this holds. -/
theorem lk_unique (zs : List Int) (p a m n : Nat) (h1 : n ≤ m) (h2 : ∀ k, k < n → g zs (p + k) = g zs (a + k)) (h3 : n < m → g zs (p + n) ≠ g zs (a + n)) : lk zs p a m = n := by
  have l1 := lk_le zs m p a
  rcases Nat.lt_trichotomy (lk zs p a m) n with h | h | h
  · exact absurd (h2 _ h) (lk_stop zs m p a (by omega))
  · exact h
  · exact absurd (lk_eq zs m p a n h) (h3 (by omega))

/-- At other numbers that are the same there. -/
theorem lk_congr (zs ys : List Int) (p a p' a' m : Nat) (hp : ∀ k, k < m → g zs (p + k) = g ys (p' + k)) (ha : ∀ k, k < m → g zs (a + k) = g ys (a' + k)) : lk zs p a m = lk ys p' a' m := by
  have l1 := lk_le ys m p' a'
  refine lk_unique zs p a m _ l1 (fun k hk => ?_) (fun hlt => ?_)
  · rw [hp k (by omega), ha k (by omega)]; exact lk_eq ys m p' a' k hk
  · rw [hp _ hlt, ha _ hlt]; exact lk_stop ys m p' a' hlt

theorem lk_ge (zs : List Int) (p a m n : Nat) (h1 : n ≤ m) (h2 : ∀ k, k < n → g zs (p + k) = g zs (a + k)) : n ≤ lk zs p a m := by
  rcases Nat.lt_or_ge (lk zs p a m) n with h | h
  · exact absurd (h2 _ h) (lk_stop zs m p a (by omega))
  · exact h

/-- As many bytes as a match may have at most. -/
def most (zs : List Int) (a : Nat) : Nat := min 130 (zs.length - a)
/-- How many bytes from a on are as those so far back. -/
def lb (zs : List Int) (a j : Nat) : Nat := lk zs (a - j) a (most zs a)
/-- The longest, and the nearest of these, among the backs up to j. -/
def best (zs : List Int) (a : Nat) : Nat → Nat × Nat
  | 0 => (0, 0)
  | j + 1 => if (best zs a j).1 < lb zs a (j + 1) then (lb zs a (j + 1), j + 1) else best zs a j
/-- Match's answer. -/
def mt (zs : List Int) (a : Nat) : Nat × Nat := if (best zs a (min 256 a)).1 < 3 then (0, 0) else best zs a (min 256 a)

theorem lb_le (zs : List Int) (a j : Nat) : lb zs a j ≤ most zs a := lk_le ..
theorem best_le (zs : List Int) (a : Nat) : ∀ j, (best zs a j).1 ≤ most zs a
  | 0 => Nat.zero_le _
  | j + 1 => by
    unfold best
    split
    · exact lb_le ..
    · exact best_le zs a j
theorem best_back (zs : List Int) (a : Nat) : ∀ j, (best zs a j).2 ≤ j
  | 0 => Nat.le_refl _
  | j + 1 => by
    unfold best
    split
    · exact Nat.le_refl _
    · exact Nat.le_succ_of_le (best_back zs a j)
theorem best_ge (zs : List Int) (a : Nat) : ∀ j i, 1 ≤ i → i ≤ j → lb zs a i ≤ (best zs a j).1
  | 0, i, h1, h2 => by omega
  | j + 1, i, h1, h2 => by
    unfold best
    by_cases e : i = j + 1
    · subst e; split <;> omega
    · have := best_ge zs a j i h1 (by omega)
      split <;> omega
theorem best_is (zs : List Int) (a : Nat) : ∀ j, best zs a j = (0, 0) ∨ (1 ≤ (best zs a j).2 ∧ (best zs a j).1 = lb zs a (best zs a j).2 ∧ 0 < (best zs a j).1)
  | 0 => .inl rfl
  | j + 1 => by
    unfold best
    split
    · exact .inr ⟨by simp, rfl, by simp; omega⟩
    · exact best_is zs a j
theorem best_near (zs : List Int) (a : Nat) : ∀ j i, 1 ≤ i → i < (best zs a j).2 → lb zs a i < (best zs a j).1
  | 0, i, h1, h2 => by simp [best] at h2
  | j + 1, i, h1, h2 => by
    unfold best at h2 ⊢
    split at h2
    · rename_i hc
      rw [if_pos hc]
      have := best_ge zs a j i h1 (by simp at h2; omega)
      simp; omega
    · rename_i hc
      rw [if_neg hc]
      exact best_near zs a j i h1 h2

/-- A back that does no better changes nothing. -/
theorem best_skip (zs : List Int) (a j : Nat) (h : lb zs a (j + 1) ≤ (best zs a j).1) : best zs a (j + 1) = best zs a j := by
  rw [best, if_neg (by omega)]
theorem best_take (zs : List Int) (a j : Nat) (h : (best zs a j).1 < lb zs a (j + 1)) : best zs a (j + 1) = (lb zs a (j + 1), j + 1) := by
  rw [best, if_pos h]

/-- Nothing is better than what is as long as may be. -/
theorem best_full (zs : List Int) (a j : Nat) (h : (best zs a j).1 = most zs a) : ∀ k, best zs a (j + k) = best zs a j
  | 0 => rfl
  | k + 1 => by
    have e := best_full zs a j h k
    rw [← Nat.add_assoc, best_skip, e]
    rw [e, h]; exact lb_le ..

/-- Backs at which fewer than three bytes are alike leave what is there: nothing of three bytes, or the same. -/
theorem best_small (zs : List Int) (a j : Nat) : ∀ k, (∀ i, j < i → i ≤ j + k → lb zs a i < 3) → ((best zs a j).1 < 3 ∧ (best zs a (j + k)).1 < 3) ∨ (3 ≤ (best zs a j).1 ∧ best zs a (j + k) = best zs a j)
  | 0, _ => by by_cases h : (best zs a j).1 < 3 <;> simp [h]; omega
  | k + 1, h => by
    have hs := h (j + k + 1) (by omega) (by omega)
    rw [← Nat.add_assoc]
    rcases best_small zs a j k (fun i h1 h2 => h i h1 (by omega)) with ⟨h1, h2⟩ | ⟨h1, h2⟩
    · refine .inl ⟨h1, ?_⟩
      unfold best
      split <;> omega
    · refine .inr ⟨h1, ?_⟩
      rw [best_skip, h2]
      rw [h2]; omega

theorem mt_zero (zs : List Int) (a : Nat) (h : zs.length ≤ a) : mt zs a = (0, 0) := by
  have h0 : most zs a = 0 := by unfold most; omega
  have := best_le zs a (min 256 a)
  unfold mt
  rw [if_pos (by omega)]
theorem mt_small (zs : List Int) (a : Nat) (h : most zs a < 3) : mt zs a = (0, 0) := by
  have := best_le zs a (min 256 a)
  unfold mt
  rw [if_pos (by omega)]
theorem mt_le (zs : List Int) (a : Nat) : (mt zs a).1 ≤ most zs a := by
  unfold mt
  split
  · exact Nat.zero_le _
  · exact best_le ..
theorem mt_back (zs : List Int) (a : Nat) : (mt zs a).2 ≤ min 256 a := by
  unfold mt
  split
  · exact Nat.zero_le _
  · exact best_back ..
theorem mt_is (zs : List Int) (a : Nat) : mt zs a = (0, 0) ∨ (3 ≤ (mt zs a).1 ∧ 1 ≤ (mt zs a).2 ∧ (mt zs a).1 = lb zs a (mt zs a).2) := by
  unfold mt
  split
  · exact .inl rfl
  · rcases best_is zs a (min 256 a) with h | ⟨h1, h2, h3⟩
    · rename_i hn; rw [h] at hn; simp at hn
    · exact .inr ⟨by omega, h1, h2⟩

/-- The window: b's bytes ahead of it, and those behind what a match may reach, have no say. -/
theorem mt_window (zs : List Int) (a lo hi : Nat) (h2 : lo ≤ a) (h3 : a < zs.length) (h4 : hi = a + most zs a) (h5 : lo = 0 ∨ lo + 256 ≤ a) :
    mt ((zs.take hi).drop lo) (a - lo) = mt zs a := by
  have hm : most ((zs.take hi).drop lo) (a - lo) = most zs a := by
    unfold most at h4 ⊢
    simp only [List.length_drop, List.length_take]
    omega
  have hl : ∀ j, j ≤ a - lo → lb ((zs.take hi).drop lo) (a - lo) j = lb zs a j := by
    intro j hj
    unfold lb
    rw [hm]
    refine lk_congr _ _ _ _ _ _ _ (fun k hk => ?_) (fun k hk => ?_)
    · rw [g_drop, g_take _ _ _ (by omega)]; congr 1; omega
    · rw [g_drop, g_take _ _ _ (by omega)]; congr 1; omega
  have hb : ∀ j, j ≤ a - lo → best ((zs.take hi).drop lo) (a - lo) j = best zs a j := by
    intro j
    induction j with
    | zero => intro _; rfl
    | succ j ih =>
      intro hj
      unfold best
      rw [ih (by omega), hl _ hj]
  unfold mt
  rw [show min 256 (a - lo) = min 256 a by omega, hb _ (by omega)]

/-! ### runs -/
def runsF : Nat → List Int → List Int
  | 0, _ => []
  | f + 1, l => if l.length = 0 then [] else (((min l.length 128 : Nat) : Int) - 1) :: (l.take (min l.length 128) ++ runsF f (l.drop (min l.length 128)))
theorem runsF_succ (f : Nat) (l : List Int) : runsF (f + 1) l = if l.length = 0 then [] else (((min l.length 128 : Nat) : Int) - 1) :: (l.take (min l.length 128) ++ runsF f (l.drop (min l.length 128))) := rfl
theorem runsF_fuel : ∀ (f : Nat) (l : List Int), l.length ≤ f → runsF f l = runsF l.length l
  | 0, l, h => by rw [Nat.le_zero.1 h]
  | f + 1, l, h => by
    cases hl : l.length with
    | zero => simp [runsF, hl]
    | succ n =>
      have hne : ¬ l.length = 0 := by omega
      rw [runsF_succ f, runsF_succ n, if_neg hne, if_neg hne]
      rw [runsF_fuel f _ (by simp; omega), runsF_fuel n _ (by simp; omega)]
/-- Bytes as runs. -/
def runs (l : List Int) : List Int := runsF l.length l
theorem runs_nil : runs [] = [] := rfl
theorem runs_zero (l : List Int) (h : l.length = 0) : runs l = [] := by rw [List.eq_nil_of_length_eq_zero h]; rfl
theorem runs_step (l : List Int) (h : 0 < l.length) : runs l = ((((min l.length 128 : Nat) : Int) - 1) :: l.take (min l.length 128)) ++ runs (l.drop (min l.length 128)) := by
  unfold runs
  cases hl : l.length with
  | zero => omega
  | succ n =>
    have hne : ¬ l.length = 0 := by omega
    rw [runsF_succ n, if_neg hne, runsF_fuel n _ (by simp; omega), hl]
    rfl
theorem runsF_length : ∀ (f : Nat) (l : List Int), l.length ≤ f → (runsF f l).length = l.length + (l.length + 127) / 128
  | 0, l, h => by rw [Nat.le_zero.1 h]; rfl
  | f + 1, l, h => by
    rw [runsF]
    split
    · rename_i h0; rw [h0]; rfl
    · have := runsF_length f (l.drop (min l.length 128)) (by simp; omega)
      simp only [List.length_cons, List.length_append, this, List.length_take, List.length_drop]
      omega
theorem runs_length (l : List Int) : (runs l).length = l.length + (l.length + 127) / 128 := runsF_length _ _ (Nat.le_refl _)

/-! ### packing -/
def packF (zs : List Int) : Nat → List Int → Nat → Nat → List Int
  | 0, out, run, _ => out ++ runs (zs.drop run)
  | f + 1, out, run, a => if zs.length ≤ a then out ++ runs (zs.drop run) else
      if (mt zs a).1 = 0 then packF zs f out run (a + 1)
      else packF zs f (out ++ runs ((zs.take a).drop run) ++ [((mt zs a).1 : Int) + 125, ((mt zs a).2 : Int) - 1]) (a + (mt zs a).1) (a + (mt zs a).1)
/-- What is still to be packed from a on, behind what is there. -/
def pk (zs : List Int) (out : List Int) (run a : Nat) : List Int := packF zs (zs.length - a) out run a
def pack (zs : List Int) : List Int := pk zs [] 0 0
theorem packF_succ (zs : List Int) (f : Nat) (out : List Int) (run a : Nat) : packF zs (f + 1) out run a = if zs.length ≤ a then out ++ runs (zs.drop run) else
      if (mt zs a).1 = 0 then packF zs f out run (a + 1)
      else packF zs f (out ++ runs ((zs.take a).drop run) ++ [((mt zs a).1 : Int) + 125, ((mt zs a).2 : Int) - 1]) (a + (mt zs a).1) (a + (mt zs a).1) := rfl
theorem packF_fuel (zs : List Int) : ∀ (f : Nat) (out : List Int) (run a : Nat), zs.length - a ≤ f → packF zs f out run a = packF zs (zs.length - a) out run a
  | 0, out, run, a, h => by rw [Nat.le_zero.1 h]
  | f + 1, out, run, a, h => by
    cases hn : zs.length - a with
    | zero => simp [packF, show zs.length ≤ a by omega]
    | succ n =>
      have hne : ¬ zs.length ≤ a := by omega
      rw [packF_succ zs f, packF_succ zs n, if_neg hne, if_neg hne]
      by_cases h0 : (mt zs a).1 = 0
      · rw [if_pos h0, if_pos h0, packF_fuel zs f _ _ _ (by omega), packF_fuel zs n _ _ _ (by omega)]
      · rw [if_neg h0, if_neg h0, packF_fuel zs f _ _ _ (by omega), packF_fuel zs n _ _ _ (by omega)]
theorem pk_end (zs out : List Int) (run a : Nat) (h : zs.length ≤ a) : pk zs out run a = out ++ runs (zs.drop run) := by
  unfold pk
  rw [show zs.length - a = 0 by omega]; rfl
theorem pk_byte (zs out : List Int) (run a : Nat) (h : a < zs.length) (h0 : (mt zs a).1 = 0) : pk zs out run a = pk zs out run (a + 1) := by
  unfold pk
  have hne : ¬ zs.length ≤ a := by omega
  rw [show zs.length - a = (zs.length - (a + 1)) + 1 by omega, packF_succ, if_neg hne, if_pos h0]
theorem pk_copy (zs out : List Int) (run a : Nat) (h : a < zs.length) (h0 : (mt zs a).1 ≠ 0) :
    pk zs out run a = pk zs (out ++ runs ((zs.take a).drop run) ++ [((mt zs a).1 : Int) + 125, ((mt zs a).2 : Int) - 1]) (a + (mt zs a).1) (a + (mt zs a).1) := by
  unfold pk
  have hne : ¬ zs.length ≤ a := by omega
  rw [show zs.length - a = (zs.length - (a + 1)) + 1 by omega, packF_succ, if_neg hne, if_neg h0, packF_fuel _ _ _ _ _ (by omega)]

/-! ### unpacking -/
/-- n bytes more, each as the one so far back. -/
def cp (back : Nat) : Nat → List Int → List Int
  | 0, out => out
  | n + 1, out => cp back n (out ++ [g out (out.length - back)])
theorem cp_length (back : Nat) : ∀ (n : Nat) (out : List Int), (cp back n out).length = out.length + n
  | 0, out => rfl
  | n + 1, out => by rw [cp, cp_length]; simp; omega
def upF (most : Int) : Nat → List Int → List Int → List Int × Int
  | 0, _, out => (out, 0)
  | f + 1, b, out => if b.length = 0 then (out, 0) else
      if g b 0 < 128 then
        if (b.length : Int) < g b 0 + 2 then ([], 2) else
        if most - out.length < g b 0 + 1 then ([], 3) else upF most f (b.drop ((g b 0).toNat + 2)) (out ++ (b.take ((g b 0).toNat + 2)).drop 1)
      else
        if b.length < 2 ∨ (out.length : Int) < g b 1 + 1 then ([], 2) else
        if most - out.length < g b 0 - 125 then ([], 3) else upF most f (b.drop 2) (cp ((g b 1).toNat + 1) (g b 0 - 125).toNat out)
theorem upF_succ (most : Int) (f : Nat) (b out : List Int) : upF most (f + 1) b out = if b.length = 0 then (out, 0) else
      if g b 0 < 128 then
        if (b.length : Int) < g b 0 + 2 then ([], 2) else
        if most - out.length < g b 0 + 1 then ([], 3) else upF most f (b.drop ((g b 0).toNat + 2)) (out ++ (b.take ((g b 0).toNat + 2)).drop 1)
      else
        if b.length < 2 ∨ (out.length : Int) < g b 1 + 1 then ([], 2) else
        if most - out.length < g b 0 - 125 then ([], 3) else upF most f (b.drop 2) (cp ((g b 1).toNat + 1) (g b 0 - 125).toNat out) := rfl
theorem upF_fuel (most : Int) : ∀ (f : Nat) (b out : List Int), b.length ≤ f → upF most f b out = upF most b.length b out
  | 0, b, out, h => by rw [Nat.le_zero.1 h]
  | f + 1, b, out, h => by
    cases hn : b.length with
    | zero => simp [upF, hn]
    | succ n =>
      have hne : ¬ b.length = 0 := by omega
      rw [upF_succ most f, upF_succ most n, if_neg hne, if_neg hne]
      rw [upF_fuel most f (b.drop ((g b 0).toNat + 2)) _ (by simp; omega), upF_fuel most n (b.drop ((g b 0).toNat + 2)) _ (by simp; omega)]
      rw [upF_fuel most f (b.drop 2) _ (by simp; omega), upF_fuel most n (b.drop 2) _ (by simp; omega)]
/-- What is still to be unpacked, behind what is there. -/
def up (most : Int) (b out : List Int) : List Int × Int := upF most b.length b out
theorem up_end (most : Int) (b out : List Int) (h : b.length = 0) : up most b out = (out, 0) := by unfold up; rw [h]; rfl
theorem up_step (most : Int) (b out : List Int) (h : 0 < b.length) : up most b out =
      if g b 0 < 128 then
        if (b.length : Int) < g b 0 + 2 then ([], 2) else
        if most - out.length < g b 0 + 1 then ([], 3) else up most (b.drop ((g b 0).toNat + 2)) (out ++ (b.take ((g b 0).toNat + 2)).drop 1)
      else
        if b.length < 2 ∨ (out.length : Int) < g b 1 + 1 then ([], 2) else
        if most - out.length < g b 0 - 125 then ([], 3) else up most (b.drop 2) (cp ((g b 1).toNat + 1) (g b 0 - 125).toNat out) := by
  unfold up
  cases hn : b.length with
  | zero => omega
  | succ n =>
    have hne : ¬ b.length = 0 := by omega
    rw [upF_succ most n, if_neg hne]
    rw [upF_fuel most n (b.drop ((g b 0).toNat + 2)) _ (by simp; omega), upF_fuel most n (b.drop 2) _ (by simp; omega), hn]
/-- Unpack's answer: the bytes, and the error. -/
def unpack (b : List Int) (most : Int) : List Int × Int := if most < 0 then ([], 1) else up most b []

end Go.Proofs.Ytahbgebnmgnmoaa.Lz

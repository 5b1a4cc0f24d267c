/- The plain mathematics of unpacking what was packed: whole, with less room, cut, and one behind the other. -/
import Derived.Test.YtahbgebnmgnmoaaLzPure
namespace Go.Proofs.Ytahbgebnmgnmoaa.Lz

/-- One run ahead of anything. -/
theorem up_run (most : Int) (x T out : List Int) (m : Nat) (hm : x.length = m) (h1 : 1 ≤ m) (h2 : m ≤ 128) :
    up most ((((m : Int) - 1) :: x) ++ T) out = if most - out.length < m then ([], 3) else up most T (out ++ x) := by
  have e0 : g ((((m : Int) - 1) :: x) ++ T) 0 = (m : Int) - 1 := by simp [g]
  have en : ((m : Int) - 1).toNat + 2 = m + 1 := by omega
  have hlen : ((((m : Int) - 1) :: x) ++ T).length = 1 + m + T.length := by simp [hm]; omega
  rw [up_step _ _ _ (by omega), e0, hlen, en, if_pos (by omega), if_neg (by omega)]
  have ed : List.drop (m + 1) ((((m : Int) - 1) :: x) ++ T) = T := by
    rw [List.drop_append_of_le_length (by simp [hm]), List.drop_eq_nil_of_le (by simp [hm])]; rfl
  have et : List.drop 1 (List.take (m + 1) ((((m : Int) - 1) :: x) ++ T)) = x := by
    rw [List.take_append_of_le_length (by simp [hm]), List.take_of_length_le (by simp [hm])]; rfl
  rw [ed, et]
  by_cases h : most - out.length < m
  · rw [if_pos h, if_pos (by omega)]
  · rw [if_neg h, if_neg (by omega)]
/-- One run that is cut. -/
theorem up_run_cut (most : Int) (x out : List Int) (m j : Nat) (hm : x.length = m) (h1 : 1 ≤ m) (h2 : m ≤ 128) (hj0 : 1 ≤ j) (hj : j ≤ m) :
    up most ((((m : Int) - 1) :: x).take j) out = ([], 2) := by
  have e0 : g ((((m : Int) - 1) :: x).take j) 0 = (m : Int) - 1 := by rw [g_take _ _ _ (by omega)]; simp [g]
  have hlen : ((((m : Int) - 1) :: x).take j).length = j := by simp [hm]; omega
  rw [up_step _ _ _ (by omega), e0, hlen, if_pos (by omega), if_pos (by omega)]

theorem up_runs (most : Int) : ∀ (n : Nat) (l T out : List Int), l.length ≤ n → (out.length : Int) ≤ most →
    up most (runs l ++ T) out = if most < out.length + l.length then ([], 3) else up most T (out ++ l)
  | 0, l, T, out, hn, ho => by
    have : l = [] := List.eq_nil_of_length_eq_zero (by omega)
    subst this
    rw [runs_nil, List.nil_append, List.append_nil, if_neg (by simp; omega)]
  | n + 1, l, T, out, hn, ho => by
    by_cases h0 : l.length = 0
    · have : l = [] := List.eq_nil_of_length_eq_zero h0
      subst this
      rw [runs_nil, List.nil_append, List.append_nil, if_neg (by simp; omega)]
    · rw [runs_step l (by omega), List.append_assoc, up_run most (l.take (min l.length 128)) _ out (min l.length 128) (by simp) (by omega) (by omega)]
      by_cases h : most - out.length < ((min l.length 128 : Nat) : Int)
      · rw [if_pos h, if_pos (by omega)]
      · rw [if_neg h, up_runs most n (l.drop (min l.length 128)) T (out ++ l.take (min l.length 128)) (by simp; omega) (by simp; omega)]
        have e1 : ((out ++ l.take (min l.length 128)).length : Int) + ((l.drop (min l.length 128)).length : Int) = (out.length : Int) + l.length := by simp; omega
        rw [e1, List.append_assoc, List.take_append_drop]

theorem take_cons_append (A B : List Int) (j : Nat) (h : A.length ≤ j) : (A ++ B).take j = A ++ B.take (j - A.length) := by
  rw [List.take_append, List.take_of_length_le h]
theorem take_left (A B : List Int) (j : Nat) (h : j ≤ A.length) : (A ++ B).take j = A.take j := by
  rw [List.take_append_of_le_length h]

/-- Runs that are cut. -/
theorem up_runs_cut (most : Int) : ∀ (n : Nat) (l out : List Int) (j : Nat), l.length ≤ n → (out.length : Int) + l.length ≤ most →
    up most ((runs l).take j) out = ([], 2) ∨ ∃ k, k ≤ l.length ∧ up most ((runs l).take j) out = (out ++ l.take k, 0)
  | 0, l, out, j, hn, ho => by
    have : l = [] := List.eq_nil_of_length_eq_zero (by omega)
    subst this
    exact .inr ⟨0, by simp, by rw [runs_nil, List.take_nil, up_end _ _ _ rfl]; simp⟩
  | n + 1, l, out, j, hn, ho => by
    by_cases h0 : l.length = 0
    · have : l = [] := List.eq_nil_of_length_eq_zero h0
      subst this
      exact .inr ⟨0, by simp, by rw [runs_nil, List.take_nil, up_end _ _ _ rfl]; simp⟩
    · by_cases hj : j = 0
      · subst hj
        exact .inr ⟨0, by simp, by rw [List.take_zero, up_end _ _ _ rfl]; simp⟩
      · rw [runs_step l (by omega)]
        have hA : ((((min l.length 128 : Nat) : Int) - 1) :: l.take (min l.length 128)).length = min l.length 128 + 1 := by simp
        by_cases hjm : j ≤ min l.length 128
        · rw [take_left _ _ _ (by omega)]
          exact .inl (up_run_cut most (l.take (min l.length 128)) out (min l.length 128) j (by simp) (by omega) (by omega) (by omega) hjm)
        · rw [take_cons_append _ _ _ (by omega), up_run most (l.take (min l.length 128)) _ out (min l.length 128) (by simp) (by omega) (by omega), if_neg (by omega)]
          rcases up_runs_cut most n (l.drop (min l.length 128)) (out ++ l.take (min l.length 128)) (j - ((((min l.length 128 : Nat) : Int) - 1) :: l.take (min l.length 128)).length) (by simp; omega) (by simp; omega) with h | ⟨k, hk, h⟩
          · exact .inl h
          · refine .inr ⟨min l.length 128 + k, by simp at hk; omega, ?_⟩
            rw [h, List.append_assoc, List.take_add]

/-- A copy lays down what stands there. -/
theorem cp_match (zs P : List Int) (a back n : Nat) (ha : a + n ≤ zs.length) (hb1 : 1 ≤ back) (hb : back ≤ a) (h : ∀ k, k < n → g zs (a - back + k) = g zs (a + k)) : cp back n (P ++ zs.take a) = P ++ zs.take (a + n) := by
  induction n generalizing a with
  | zero => rfl
  | succ n ih =>
    have hl : (P ++ zs.take a).length = P.length + a := by simp; omega
    have e : g (P ++ zs.take a) ((P ++ zs.take a).length - back) = g zs a := by
      rw [hl]
      have : P.length + a - back = P.length + (a - back) := by omega
      rw [this]
      have h1 : g (P ++ zs.take a) (P.length + (a - back)) = g (zs.take a) (a - back) := by
        unfold g
        rw [List.getD_eq_getElem?_getD, List.getD_eq_getElem?_getD, List.getElem?_append_right (by omega), Nat.add_sub_cancel_left]
      rw [h1, g_take _ _ _ (by omega)]
      have := h 0 (by omega)
      simpa using this
    unfold cp
    rw [e, List.append_assoc]
    have et : zs.take a ++ [g zs a] = zs.take (a + 1) := by
      rw [List.take_succ_eq_append_getElem (by omega), g_lt zs a (by omega)]
    rw [et, ih (a + 1) (by omega) (by omega) (fun k hk => ?_)]
    · congr 2; omega
    · have := h (k + 1) (by omega)
      rw [show a + 1 - back + k = a - back + (k + 1) by omega, show a + 1 + k = a + (k + 1) by omega]
      exact this

theorem up_copy (most : Int) (zs P T : List Int) (a n back : Nat) (ha : a + n ≤ zs.length) (hn1 : 3 ≤ n) (hn2 : n ≤ 130) (hb1 : 1 ≤ back) (hb2 : back ≤ 256) (hb : back ≤ a) (h : ∀ k, k < n → g zs (a - back + k) = g zs (a + k)) :
    up most ([(n : Int) + 125, (back : Int) - 1] ++ T) (P ++ zs.take a) = if most < (P.length : Int) + a + n then ([], 3) else up most T (P ++ zs.take (a + n)) := by
  have e0 : g ([(n : Int) + 125, (back : Int) - 1] ++ T) 0 = (n : Int) + 125 := by simp [g]
  have e1 : g ([(n : Int) + 125, (back : Int) - 1] ++ T) 1 = (back : Int) - 1 := by simp [g]
  have hlen : ([(n : Int) + 125, (back : Int) - 1] ++ T).length = 2 + T.length := by simp; omega
  have hl : (P ++ zs.take a).length = P.length + a := by simp; omega
  rw [up_step _ _ _ (by omega), e0, e1, hlen, hl, if_neg (by omega), if_neg (by omega)]
  have en : ((n : Int) + 125 - 125).toNat = n := by omega
  have eb : ((back : Int) - 1).toNat + 1 = back := by omega
  have ed : List.drop 2 ([(n : Int) + 125, (back : Int) - 1] ++ T) = T := rfl
  rw [en, eb, ed, cp_match zs P a back n ha hb1 hb h]
  by_cases hm : most < (P.length : Int) + a + n
  · rw [if_pos hm, if_pos (by omega)]
  · rw [if_neg hm, if_neg (by omega)]

theorem packF_out (zs : List Int) : ∀ (f : Nat) (out : List Int) (run a : Nat), packF zs f out run a = out ++ packF zs f [] run a
  | 0, out, run, a => by simp [packF]
  | f + 1, out, run, a => by
    rw [packF_succ, packF_succ]
    by_cases h : zs.length ≤ a
    · rw [if_pos h, if_pos h]; simp
    · rw [if_neg h, if_neg h]
      by_cases h0 : (mt zs a).1 = 0
      · rw [if_pos h0, if_pos h0, packF_out zs f out]
      · rw [if_neg h0, if_neg h0, packF_out zs f (out ++ _ ++ _), packF_out zs f ([] ++ _ ++ _)]; simp
theorem pk_out (zs out : List Int) (run a : Nat) : pk zs out run a = out ++ pk zs [] run a := packF_out zs _ out run a

theorem mt_facts (zs : List Int) (a : Nat) (h : (mt zs a).1 ≠ 0) : 3 ≤ (mt zs a).1 ∧ (mt zs a).1 ≤ 130 ∧ a + (mt zs a).1 ≤ zs.length ∧ 1 ≤ (mt zs a).2 ∧ (mt zs a).2 ≤ 256 ∧ (mt zs a).2 ≤ a ∧
    ∀ k, k < (mt zs a).1 → g zs (a - (mt zs a).2 + k) = g zs (a + k) := by
  have h1 := mt_le zs a
  have h2 := mt_back zs a
  have h3 : most zs a ≤ 130 := by unfold most; omega
  have h4 : most zs a ≤ zs.length - a := by unfold most; omega
  rcases mt_is zs a with e | ⟨h5, h6, h7⟩
  · rw [e] at h; simp at h
  · refine ⟨h5, by omega, by omega, h6, by omega, by omega, fun k hk => ?_⟩
    rw [h7] at hk
    exact lk_eq zs _ _ _ k hk

/-- The middle of the bytes: from run on to a. -/
theorem take_mid (zs : List Int) (run a : Nat) (h : run ≤ a) : zs.take run ++ (zs.take a).drop run = zs.take a := by
  have : zs.take run = (zs.take a).take run := by rw [List.take_take]; congr 1; omega
  rw [this, List.take_append_drop]

theorem up_pk (most : Int) (zs P T : List Int) : ∀ (f run a : Nat), zs.length - a ≤ f → run ≤ a → a ≤ zs.length → (P.length : Int) + run ≤ most →
    up most (pk zs [] run a ++ T) (P ++ zs.take run) = if most < (P.length : Int) + zs.length then ([], 3) else up most T (P ++ zs)
  | 0, run, a, hf, hra, hal, hm => by
    have hl : ((P ++ zs.take run).length : Int) = (P.length : Int) + run := by simp; omega
    rw [pk_end zs [] run a (by omega), List.nil_append, up_runs most zs.length (zs.drop run) T _ (by simp) (by rw [hl]; exact hm), hl, List.append_assoc, List.take_append_drop]
    have e : (P.length : Int) + run + ((zs.drop run).length : Int) = (P.length : Int) + zs.length := by simp; omega
    rw [e]
  | f + 1, run, a, hf, hra, hal, hm => by
    by_cases h : zs.length ≤ a
    · have hl : ((P ++ zs.take run).length : Int) = (P.length : Int) + run := by simp; omega
      rw [pk_end zs [] run a (by omega), List.nil_append, up_runs most zs.length (zs.drop run) T _ (by simp) (by rw [hl]; exact hm), hl, List.append_assoc, List.take_append_drop]
      have e : (P.length : Int) + run + ((zs.drop run).length : Int) = (P.length : Int) + zs.length := by simp; omega
      rw [e]
    · by_cases h0 : (mt zs a).1 = 0
      · rw [pk_byte zs [] run a (by omega) h0]
        exact up_pk most zs P T f run (a + 1) (by omega) (by omega) (by omega) hm
      · obtain ⟨m1, m2, m3, m4, m5, m6, m7⟩ := mt_facts zs a h0
        have hl : ((P ++ zs.take run).length : Int) = (P.length : Int) + run := by simp; omega
        have hl2 : (((zs.take a).drop run).length : Int) = (a : Int) - run := by simp; omega
        rw [pk_copy zs [] run a (by omega) h0, pk_out, List.nil_append, List.append_assoc, List.append_assoc, up_runs most zs.length _ _ _ (by simp; omega) (by rw [hl]; exact hm), hl, hl2, List.append_assoc P, take_mid zs run a hra]
        by_cases h1 : most < (P.length : Int) + run + ((a : Int) - run)
        · rw [if_pos h1, if_pos (by omega)]
        · rw [if_neg h1, up_copy most zs P _ a (mt zs a).1 (mt zs a).2 m3 m1 m2 m4 m5 m6 m7]
          by_cases h2 : most < (P.length : Int) + a + (mt zs a).1
          · rw [if_pos h2, if_pos (by omega)]
          · rw [if_neg h2]
            exact up_pk most zs P T f (a + (mt zs a).1) (a + (mt zs a).1) (by omega) (by omega) (by omega) (by omega)

/-- What was packed is unpacked as it was, behind whatever is there already. -/
theorem up_pack (most : Int) (zs P T : List Int) (hm : (P.length : Int) ≤ most) : up most (pack zs ++ T) P = if most < (P.length : Int) + zs.length then ([], 3) else up most T (P ++ zs) := by
  have := up_pk most zs P T zs.length 0 0 (by omega) (by omega) (by omega) (by omega)
  simpa [pack] using this
theorem unpack_pack (zs : List Int) (most : Int) (hm : 0 ≤ most) : unpack (pack zs) most = if most < zs.length then ([], 3) else (zs, 0) := by
  have := up_pack most zs [] [] (by simpa using hm)
  rw [List.append_nil] at this
  unfold unpack
  rw [if_neg (by omega), this]
  simp [up_end]
theorem unpack_two (xs ys : List Int) : unpack (pack xs ++ pack ys) (xs.length + ys.length) = (xs ++ ys, 0) := by
  unfold unpack
  rw [if_neg (by omega), up_pack _ xs [] (pack ys) (by simp; omega), if_neg (by simp; omega)]
  have := up_pack ((xs.length : Int) + ys.length) ys xs [] (by omega)
  rw [List.append_nil] at this
  rw [List.nil_append, this, if_neg (by omega), up_end _ _ _ rfl]

/-- What was packed and then cut is a beginning of the bytes, or none. -/
theorem up_pk_cut (most : Int) (zs : List Int) (hmost : (zs.length : Int) ≤ most) : ∀ (f run a j : Nat), zs.length - a ≤ f → run ≤ a → a ≤ zs.length →
    up most ((pk zs [] run a).take j) (zs.take run) = ([], 2) ∨ ∃ k, k ≤ zs.length ∧ up most ((pk zs [] run a).take j) (zs.take run) = (zs.take k, 0)
  | f, run, a, j, hf, hra, hal => by
    have fin : zs.length ≤ a → (up most ((pk zs [] run a).take j) (zs.take run) = ([], 2) ∨ ∃ k, k ≤ zs.length ∧ up most ((pk zs [] run a).take j) (zs.take run) = (zs.take k, 0)) := fun h => by
      rw [pk_end zs [] run a h, List.nil_append]
      rcases up_runs_cut most zs.length (zs.drop run) (zs.take run) j (by simp) (by simp; omega) with h1 | ⟨k, hk, h1⟩
      · exact .inl h1
      · refine .inr ⟨run + k, by simp at hk; omega, ?_⟩
        rw [h1, List.take_add]
    match f, hf with
    | 0, hf => exact fin (by omega)
    | f + 1, hf =>
      by_cases h : zs.length ≤ a
      · exact fin h
      · by_cases h0 : (mt zs a).1 = 0
        · rw [pk_byte zs [] run a (by omega) h0]
          exact up_pk_cut most zs hmost f run (a + 1) j (by omega) (by omega) (by omega)
        · obtain ⟨m1, m2, m3, m4, m5, m6, m7⟩ := mt_facts zs a h0
          have hl : ((zs.take run).length : Int) = run := by simp; omega
          have hl2 : (((zs.take a).drop run).length : Int) = (a : Int) - run := by simp; omega
          rw [pk_copy zs [] run a (by omega) h0, pk_out, List.nil_append, List.append_assoc]
          by_cases hj : j ≤ (runs ((zs.take a).drop run)).length
          · rw [take_left _ _ _ hj]
            rcases up_runs_cut most zs.length ((zs.take a).drop run) (zs.take run) j (by simp; omega) (by rw [hl, hl2]; omega) with h1 | ⟨k, hk, h1⟩
            · exact .inl h1
            · refine .inr ⟨run + k, by simp at hk; omega, ?_⟩
              rw [h1, List.take_add]
              congr 2
              rw [List.drop_take, List.take_take]
              congr 1
              simp at hk; omega
          · rw [take_cons_append _ _ _ (by omega), up_runs most zs.length _ _ _ (by simp; omega) (by rw [hl]; omega), hl, hl2, take_mid zs run a hra, if_neg (by omega)]
            generalize hj' : j - (runs ((zs.take a).drop run)).length = i
            by_cases hi : i ≤ 1
            · have hi1 : i = 1 := by omega
              subst hi1
              refine .inl ?_
              have e0 : g (([((mt zs a).1 : Int) + 125, ((mt zs a).2 : Int) - 1] ++ pk zs [] (a + (mt zs a).1) (a + (mt zs a).1)).take 1) 0 = ((mt zs a).1 : Int) + 125 := by simp [g]
              have hlen : (([((mt zs a).1 : Int) + 125, ((mt zs a).2 : Int) - 1] ++ pk zs [] (a + (mt zs a).1) (a + (mt zs a).1)).take 1).length = 1 := by simp
              rw [up_step _ _ _ (by omega), e0, hlen, if_neg (by omega), if_pos (by omega)]
            · rw [take_cons_append _ _ _ (by simp; omega)]
              have hcp := up_copy most zs [] ((pk zs [] (a + (mt zs a).1) (a + (mt zs a).1)).take (i - [((mt zs a).1 : Int) + 125, ((mt zs a).2 : Int) - 1].length)) a (mt zs a).1 (mt zs a).2 m3 m1 m2 m4 m5 m6 m7
              rw [List.nil_append, List.nil_append, if_neg (by simp; omega)] at hcp
              rw [hcp]
              exact up_pk_cut most zs hmost f (a + (mt zs a).1) (a + (mt zs a).1) _ (by omega) (by omega) (by omega)
theorem unpack_cut (zs : List Int) (j : Nat) : unpack ((pack zs).take j) zs.length = ([], 2) ∨ ∃ k, k ≤ zs.length ∧ unpack ((pack zs).take j) zs.length = (zs.take k, 0) := by
  have := up_pk_cut zs.length zs (Int.le_refl _) zs.length 0 0 j (by omega) (by omega) (by omega)
  unfold unpack
  rw [if_neg (by omega)]
  simpa [pack] using this

/-! ### how long -/
theorem pk_short (zs : List Int) : ∀ (f run a : Nat), zs.length - a ≤ f → run ≤ a → a ≤ zs.length → (pk zs [] run a).length ≤ (zs.length - run) + (zs.length - run + 127) / 128
  | 0, run, a, hf, hra, hal => by rw [pk_end zs [] run a (by omega), List.nil_append, runs_length]; simp
  | f + 1, run, a, hf, hra, hal => by
    by_cases h : zs.length ≤ a
    · rw [pk_end zs [] run a (by omega), List.nil_append, runs_length]; simp
    · by_cases h0 : (mt zs a).1 = 0
      · rw [pk_byte zs [] run a (by omega) h0]
        exact pk_short zs f run (a + 1) (by omega) (by omega) (by omega)
      · obtain ⟨m1, m2, m3, _⟩ := mt_facts zs a h0
        have ih := pk_short zs f (a + (mt zs a).1) (a + (mt zs a).1) (by omega) (by omega) (by omega)
        have hl2 : ((zs.take a).drop run).length = a - run := by simp; omega
        rw [pk_copy zs [] run a (by omega) h0, pk_out, List.nil_append, List.length_append, List.length_append, runs_length, hl2]
        simp only [List.length_cons, List.length_nil]
        omega
theorem pack_short (zs : List Int) : (pack zs).length ≤ zs.length + (zs.length + 127) / 128 := by
  have := pk_short zs zs.length 0 0 (by omega) (by omega) (by omega)
  simpa [pack] using this

/-- Where fewer than three bytes are left. -/
theorem pk_last (zs : List Int) : ∀ (f run a : Nat), zs.length - a ≤ f → zs.length - a < 3 → pk zs [] run a = runs (zs.drop run)
  | 0, run, a, hf, h3 => by rw [pk_end zs [] run a (by omega)]; rfl
  | f + 1, run, a, hf, h3 => by
    by_cases h : zs.length ≤ a
    · rw [pk_end zs [] run a (by omega)]; rfl
    · have h0 : mt zs a = (0, 0) := mt_small zs a (by unfold most; omega)
      rw [pk_byte zs [] run a (by omega) (by rw [h0])]
      exact pk_last zs f run (a + 1) (by omega) (by omega)
theorem g_replicate (k i : Nat) (c : Int) (h : i < k) : g (List.replicate k c) i = c := by simp [g, h]
/-- Bytes that are all the same. -/
theorem mt_same (k a : Nat) (c : Int) (h1 : 1 ≤ a) (h2 : a < k) : best (List.replicate k c) a (min 256 a) = (min 130 (k - a), 1) := by
  have hm : most (List.replicate k c) a = min 130 (k - a) := by unfold most; simp
  have hlb : lb (List.replicate k c) a 1 = min 130 (k - a) := by
    unfold lb
    rw [hm]
    refine lk_unique _ _ _ _ _ (Nat.le_refl _) (fun i hi => ?_) (fun h => by omega)
    rw [g_replicate _ _ _ (by omega), g_replicate _ _ _ (by omega)]
  have hb1 : best (List.replicate k c) a 1 = (min 130 (k - a), 1) := by
    rw [show (1 : Nat) = 0 + 1 from rfl, best_take _ _ 0 (by simp [best, hlb]; omega), hlb]
  have := best_full (List.replicate k c) a 1 (by rw [hb1, hm]) (min 256 a - 1)
  rw [show 1 + (min 256 a - 1) = min 256 a by omega, hb1] at this
  exact this
theorem same_tail (k : Nat) (c : Int) : ∀ (f a : Nat), k - a ≤ f → 1 ≤ a → a ≤ k → (pk (List.replicate k c) [] a a).length ≤ if k - a = 0 then 0 else 2 * ((k - a) / 130) + 3
  | 0, a, hf, h1, h2 => by rw [pk_end _ [] a a (by simp; omega), if_pos (by omega), List.nil_append, runs_length]; simp; omega
  | f + 1, a, hf, h1, h2 => by
    by_cases h3 : k - a < 3
    · rw [pk_last _ (k - a) a a (by simp) (by simpa using h3), runs_length]; simp only [List.length_drop, List.length_replicate]; split <;> omega
    · have hb := mt_same k a c h1 (by omega)
      have hmt : mt (List.replicate k c) a = (min 130 (k - a), 1) := by unfold mt; rw [hb, if_neg (by simp; omega)]
      have ih := same_tail k c f (a + min 130 (k - a)) (by omega) (by omega) (by omega)
      rw [pk_copy _ [] a a (by simp; omega) (by rw [hmt]; simp; omega), hmt, pk_out, List.length_append, List.length_append, List.length_append, runs_length]
      simp only [List.length_cons, List.length_nil, List.length_drop, List.length_take, List.length_replicate]
      split at ih <;> split <;> omega
theorem pack_same (k : Nat) (c : Int) : (pack (List.replicate k c)).length ≤ 6 + 2 * (k / 130) + 2 := by
  unfold pack
  by_cases hk : k < 3
  · rw [pk_last _ k 0 0 (by simp) (by simpa using hk), runs_length]; simp; omega
  · have h0 : mt (List.replicate k c) 0 = (0, 0) := rfl
    rw [pk_byte _ [] 0 0 (by simp; omega) (by rw [h0])]
    by_cases h3 : k - 1 < 3
    · rw [pk_last _ k 0 (0 + 1) (by simp) (by simpa using h3), runs_length]; simp; omega
    · have hb := mt_same k 1 c (by omega) (by omega)
      have hmt : mt (List.replicate k c) 1 = (min 130 (k - 1), 1) := by unfold mt; rw [hb, if_neg (by simp; omega)]
      have ih := same_tail k c k (1 + min 130 (k - 1)) (by omega) (by omega) (by omega)
      rw [Nat.zero_add, pk_copy _ [] 0 1 (by simp; omega) (by rw [hmt]; simp; omega), hmt, pk_out, List.length_append, List.length_append, List.length_append, runs_length]
      simp only [List.length_cons, List.length_nil, List.length_drop, List.length_take, List.length_replicate]
      split at ih <;> omega
end Go.Proofs.Ytahbgebnmgnmoaa.Lz

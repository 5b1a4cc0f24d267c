/- Layer 6: the walks of what compares rows of names: slices.Compare and Equal, Less, Same, Below, and the reference's. -/
import Derived.Test.YtppmekmaclolbabNamLeaf
namespace Go.Proofs.Ytppmekmaclolbab
set_option linter.unusedVariables false
open Go.RowKit Go.Maps
open Nam

theorem cmp_nil_left (k : List (List UInt8)) : cmp [] k = if 0 < k.length then -1 else 0 := by cases k <;> simp [cmp]
theorem drop_all {l : List ByteArray} {i : Nat} (h : l.length ≤ i) : (nm l).drop i = [] := List.drop_eq_nil_of_le (by rw [nm_length]; exact h)
set_option maxRecDepth 100000 in
theorem Compare_any (a b : Option Addr) (n c m d : Nat) (l k : List ByteArray) (w : World) (hl : Rs w a n l) (hk : Rs w b m k) (hn : n ≤ 1000000) (hm : m ≤ 1000000) :
    Calls Try.prog 53 #[.slice a n c, .slice b m d] w fun e w' => e = .returned (.int .i64 (cmp (nm l) (nm k))) ∧ ∃ q, w' = w.drewN q := by
  have HL := hide hl
  have HK := hide hk
  have hln := hl.1
  have hkn := hk.1
  have HLN := hide hln
  have HKN := hide hkn
  clear hl hk hln hkn
  go_enter Try.func53, Try.ntmps53
  go_wp2
  go_loopw [5, 6, 7, 8, 11] (fun _ _ _ _ r wr => ∃ i : Nat, wr = w ∧ r = .int .i64 i ∧ i ≤ n ∧ cmp (nm l) (nm k) = cmp ((nm l).drop i) ((nm k).drop i)) (fun _ _ _ _ r _ => n - (intOf r).toNat)
  case atStart => exact ⟨0, rfl, rfl, Nat.zero_le _, rfl⟩
  case round =>
    obtain ⟨i, rfl, rfl, hi0, hinv⟩ := hrel
    have HI := hide hinv
    clear hinv
    by_cases hp : i < n
    · have hd : decide ((i : Int) < n) = true := by simpa using hp
      obtain ⟨ba, oa, rfl, hba, hca⟩ := HL.out.at (by omega)
      have c1 := hca i hp
      have e1 := nm_drop l i (by rw [HLN.out]; exact hp)
      have E1 := hide e1
      clear hca e1
      by_cases hq : i < m
      · have hd2 : decide ((m : Int) ≤ i) = false := by simp; omega
        obtain ⟨bb, ob, rfl, hbb, hcb⟩ := HK.out.at (by omega)
        have c2 := hcb i hq
        have e2 := nm_drop k i (by rw [HKN.out]; exact hq)
        have E2 := hide e2
        clear hcb e2
        go_wp2_with (go_at_call 70; refine (cmp_any _ _ _).mono ?_; rintro e w' ⟨rfl, rfl⟩)
        · have e : (cmp1 (gs l i).toList (gs k i).toList != 0) = true := by assumption
          go_ret
          refine ⟨ret_int ?_, 0, rfl⟩
          rw [HI.out, E1.out, E2.out, cmp, if_neg (by simpa using e)]
        · have e : (cmp1 (gs l i).toList (gs k i).toList != 0) = false := by assumption
          refine ⟨⟨i + 1, trivial, by go_num, by omega, ?_⟩, by simp [intOf]; omega⟩
          rw [HI.out, E1.out, E2.out, cmp, if_pos (by simpa using e)]
      · have hd2 : decide ((m : Int) ≤ i) = true := by simp; omega
        go_wp2
        go_ret
        refine ⟨ret_int ?_, 0, rfl⟩
        rw [HI.out, E1.out, drop_all (l := k) (by rw [HKN.out]; omega)]; rfl
    · have hd : decide ((i : Int) < n) = false := by simpa using hp
      have e := cmp_nil_left ((nm k).drop i)
      rw [← drop_all (l := l) (i := i) (by rw [HLN.out]; omega), List.length_drop, nm_length, HKN.out] at e
      have E := hide e
      clear e
      go_wp2
      · have h : n < m := by assumption
        go_ret
        refine ⟨ret_int ?_, 0, rfl⟩
        rw [HI.out, E.out, if_pos (by omega)]
      · have h : ¬ n < m := by assumption
        go_ret
        refine ⟨ret_int ?_, 0, rfl⟩
        rw [HI.out, E.out, if_neg (by omega)]
theorem Less_any (a b : Option Addr) (n c m d : Nat) (l k : List ByteArray) (w : World) (hl : Rs w a n l) (hk : Rs w b m k) (hn : n ≤ 1000000) (hm : m ≤ 1000000) :
    Calls Try.prog 32 #[.slice a n c, .slice b m d] w fun e w' => e = .returned (.bool (less (nm l) (nm k))) ∧ ∃ q, w' = w.drewN q := by
  have H := hide (Compare_any a b n c m d l k w hl hk hn hm)
  have HE := hide (cmp_less (nm l) (nm k))
  clear hl hk
  go_enter Try.func32, Try.ntmps32
  go_wp2_with (go_at_call 53; refine H.out.mono ?_; rintro e w' ⟨rfl, q, rfl⟩)
  go_ret
  exact ⟨ret_bool HE.out, _, rfl⟩
/-- The last names of two rows, held against each other. -/
theorem eq_step {l k : List ByteArray} {i : Nat} (h : i < l.length) (h' : i < k.length) : (nm l).drop i = (nm k).drop i ↔ (gs l i).toList = (gs k i).toList ∧ (nm l).drop (i + 1) = (nm k).drop (i + 1) := by
  rw [nm_drop l i h, nm_drop k i h', List.cons.injEq]
set_option maxRecDepth 100000 in
theorem Equal_any (a b : Option Addr) (n c m d : Nat) (l k : List ByteArray) (w : World) (hl : Rs w a n l) (hk : Rs w b m k) (hn : n ≤ 1000000) (hm : m ≤ 1000000) :
    Calls Try.prog 35 #[.slice a n c, .slice b m d] w fun e w' => e = .returned (.bool (decide (nm l = nm k))) ∧ ∃ q, w' = w.drewN q := by
  have HL := hide hl
  have HK := hide hk
  have HLN := hide hl.1
  have HKN := hide hk.1
  clear hl hk
  by_cases hnm : n = m
  · subst hnm
    go_enter Try.func35, Try.ntmps35
    go_wp2
    go_loopw [5, 13] (fun _ r wr => ∃ i q : Nat, wr = w.drewN q ∧ r = .int .i64 i ∧ i ≤ n ∧ (nm l = nm k ↔ (nm l).drop i = (nm k).drop i)) (fun _ r _ => n - (intOf r).toNat)
    case atStart => exact ⟨0, 0, rfl, rfl, Nat.zero_le _, Iff.rfl⟩
    case round =>
      obtain ⟨i, q, rfl, rfl, hi0, hinv⟩ := hrel
      have HI := hide hinv
      clear hinv
      by_cases hp : i < n
      · have hd : decide ((i : Int) < n) = true := by simpa using hp
        obtain ⟨ba, oa, rfl, hba, hca⟩ := HL.out.at (by omega)
        obtain ⟨bb, ob, rfl, hbb, hcb⟩ := HK.out.at (by omega)
        have c1 := hca i hp
        have c2 := hcb i hp
        have ES := hide (eq_step (l := l) (k := k) (i := i) (by rw [HLN.out]; exact hp) (by rw [HKN.out]; exact hp))
        clear hca hcb
        go_wp2
        go_quiet (fail)
        go_wp2
        · have e : (!(gs l i).toList == (gs k i).toList) = true := by assumption
          go_ret
          refine ⟨ret_bool ?_, dr2 _ _ _⟩
          symm
          rw [decide_eq_false_iff_not, HI.out, ES.out]
          intro h
          rw [h.1] at e
          simp at e
        · have e : (!(gs l i).toList == (gs k i).toList) = false := by assumption
          refine ⟨⟨i + 1, _, rfl, by go_num, by omega, ?_⟩, by simp [intOf]; omega⟩
          rw [HI.out, ES.out]
          have : (gs l i).toList = (gs k i).toList := by simpa using e
          simp [this]
      · have hd : decide ((i : Int) < n) = false := by simpa using hp
        go_wp2
        go_ret
        refine ⟨ret_bool ?_, q, rfl⟩
        symm
        rw [decide_eq_true_eq, HI.out, drop_all (l := l) (by rw [HLN.out]; omega), drop_all (l := k) (by rw [HKN.out]; omega)]
  · have hnm' : ((n : Int) != m) = true := by simp; omega
    have hne : Hid (false = decide (nm l = nm k)) := by
      show _ = _
      symm
      rw [decide_eq_false_iff_not]
      intro h
      have := congrArg List.length h
      rw [nm_length, nm_length, HLN.out, HKN.out] at this
      exact hnm this
    go_enter Try.func35, Try.ntmps35
    go_wp2
    go_ret
    exact ⟨ret_bool hne.out, 0, rfl⟩
theorem Same_any (a b : Option Addr) (n c m d : Nat) (l k : List ByteArray) (w : World) (hl : Rs w a n l) (hk : Rs w b m k) (hn : n ≤ 1000000) (hm : m ≤ 1000000) :
    Calls Try.prog 20 #[.slice a n c, .slice b m d] w fun e w' => e = .returned (.bool (decide (nm l = nm k))) ∧ ∃ q, w' = w.drewN q := by
  have H := hide (Equal_any a b n c m d l k w hl hk hn hm)
  clear hl hk
  go_enter Try.func20, Try.ntmps20
  go_wp2_with (go_at_call 35; refine H.out.mono ?_; rintro e w' ⟨rfl, q, rfl⟩)
  go_ret
  exact ⟨rfl, _, rfl⟩
theorem below_eq {l k : List ByteArray} {m : Nat} (h : k.length = m) (hlt : m < l.length) : decide (nm (l.take m) = nm k) = below (nm l) (nm k) := by
  rw [below, nm_length, nm_length, h, decide_eq_true hlt, Bool.true_and, nm_take]
theorem below_short {l k : List ByteArray} (h : ¬ k.length < l.length) : false = below (nm l) (nm k) := by
  rw [below, nm_length, nm_length, decide_eq_false h]; rfl
theorem Below_any (a b : Option Addr) (n c m d : Nat) (l k : List ByteArray) (w : World) (hl : Rs w a n l) (hk : Rs w b m k) (hn : n ≤ 1000000) (hm : m ≤ 1000000) (hc : n ≤ c) (hcm : c ≤ 9223372036854775807) :
    Calls Try.prog 14 #[.slice a n c, .slice b m d] w fun e w' => e = .returned (.bool (below (nm l) (nm k))) ∧ ∃ q, w' = w.drewN q := by
  by_cases hlt : m < n
  · have hd : decide ((m : Int) < n) = true := by simpa using hlt
    have H := hide (Same_any a b m c m d (l.take m) k w (hl.take m (by omega)) hk hm hm)
    have HE := hide (below_eq (l := l) (k := k) hk.1 (by rw [hl.1]; exact hlt))
    clear hl hk
    go_enter Try.func14, Try.ntmps14
    go_wp2_with (go_at_call 20; refine H.out.mono ?_; rintro e w' ⟨rfl, q, rfl⟩)
    go_ret
    exact ⟨ret_bool HE.out, _, rfl⟩
  · have hd : decide ((m : Int) < n) = false := by simpa using hlt
    have HE := hide (below_short (l := l) (k := k) (by rw [hl.1, hk.1]; exact hlt))
    clear hl hk
    go_enter Try.func14, Try.ntmps14
    go_wp2
    go_ret
    exact ⟨ret_bool HE.out, 0, rfl⟩

/-! ### The reference's -/

theorem less_end_left (k : List (List UInt8)) : less [] k = decide (0 < k.length) := by cases k <;> simp [less]
theorem less_end_right (l : List (List UInt8)) : less l [] = false := by cases l <;> rfl
end Go.Proofs.Ytppmekmaclolbab

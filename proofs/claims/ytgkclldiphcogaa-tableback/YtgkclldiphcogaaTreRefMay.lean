/- Layer 7: the reference's nul, Xattrs and May. -/
import Derived.Test.YtgkclldiphcogaaTreMayX
namespace Go.Proofs.Ytgkclldiphcogaa
set_option linter.unusedVariables false
open Go.RowKit Go.Maps
open Nam Tre
open Lz (g)

theorem nul_step (s : ByteArray) (i : Nat) (h : i < s.size) : (s.toList.drop i).any (· == 0) = (((s[i]'h).toNat : Int) == 0 || (s.toList.drop (i + 1)).any (· == 0)) := by
  have hl : i < s.toList.length := by rw [toList_length]; exact h
  rw [List.drop_eq_getElem_cons hl, List.any_cons]
  congr 1
  have e : s.toList[i] = s[i] := by simp only [ByteArray.toList_eq]; rfl
  rw [e, Bool.eq_iff_iff, beq_iff_eq, beq_iff_eq]
  constructor
  · intro k; rw [k]; rfl
  · intro k
    exact UInt8.toNat_inj.1 (by simpa using k)
set_option maxRecDepth 100000 in
theorem nul_any (s : ByteArray) (w : World) (q : Bool) (hq : s.toList.any (· == 0) = q) (hs : s.size ≤ 9223372036854775807) : Calls Try.prog 60 #[.string s] w fun e w' => e = .returned (.bool q) ∧ w' = w := by
  have HS := hide (toList_length s)
  have HQ := hide hq
  clear hq
  go_enter Try.func60, Try.ntmps60
  go_wp2
  go_loopw [3] (fun r wr => ∃ i : Nat, wr = w ∧ r = .int .i64 i ∧ i ≤ s.size ∧ q = (s.toList.drop i).any (· == 0)) (fun r _ => s.size - (intOf r).toNat)
  case atStart => exact ⟨0, rfl, rfl, Nat.zero_le _, HQ.out.symm⟩
  case round =>
    obtain ⟨i, rfl, rfl, hi0, hinv⟩ := hrel
    have HI := hide hinv
    clear hinv
    by_cases hp : i < s.size
    · have hd : decide ((i : Int) < s.size) = true := by simpa using hp
      have HN := hide (nul_step s i hp)
      by_cases h0 : ((s[i]'hp).toNat : Int) = 0
      · have h1 : (((s[i]'hp).toNat : Int) == 0) = true := by simpa using h0
        have HH := hide h1
        have h2 : (s[i]'hp).toNat = 0 := by omega
        clear h0
        go_wp2
        go_ret
        exact ⟨ret_bool (by rw [HI.out, HN.out, HH.out]; rfl), rfl⟩
      · have h1 : (((s[i]'hp).toNat : Int) == 0) = false := by simpa using h0
        have HH := hide h1
        have h2 : ¬ (s[i]'hp).toNat = 0 := by omega
        clear h0
        go_wp2
        refine ⟨⟨i + 1, trivial, by go_num, by omega, ?_⟩, by simp [intOf]; omega⟩
        rw [HI.out, HN.out, HH.out]; rfl
    · have hd : decide ((i : Int) < s.size) = false := by simpa using hp
      go_wp2
      go_ret
      exact ⟨ret_bool (by rw [HI.out, List.drop_eq_nil_of_le (by rw [HS.out]; omega)]; rfl), rfl⟩
/-- The name ahead. -/
def prev (xs : List (ByteArray × List Int)) : Nat → List UInt8
  | 0 => []
  | i + 1 => (gx xs i).1.toList
theorem txt40 (s : ByteArray) (a b c : Bool) (ha : decide ((s.size : Int) < 1) = a) (hb : decide ((40 : Int) < s.size) = b) (hc : s.toList.any (· == 0) = c) : txt s.toList 40 = (!a && !b && !c) := by
  subst ha hb hc
  unfold txt
  rw [toList_length]
  congr 1
  congr 1
  · rw [Bool.eq_iff_iff]
    simp only [decide_eq_true_eq, Bool.not_eq_true', decide_eq_false_iff_not]
    constructor
    · intro h k
      exact h (List.eq_nil_of_length_eq_zero (by rw [toList_length]; omega))
    · intro h k
      have := toList_length s
      rw [k] at this
      simp at this
      omega
  · rw [Bool.eq_iff_iff]
    simp only [decide_eq_true_eq, Bool.not_eq_true', decide_eq_false_iff_not]
    omega
set_option maxRecDepth 100000 in
set_option maxHeartbeats 1000000 in
theorem refXattrs_any (ao : Option Addr) (n c : Nat) (xs : List (ByteArray × List Int)) (w : World) (h : XsR w ao n xs) (hc : n ≤ c) (hcm : c ≤ 9223372036854775807) (q : Bool) (hq : xsOk xs = q) :
    Calls Try.prog 38 #[.slice ao n c] w fun e w' => e = .returned (.bool q) ∧ Below w.heap.size w w' := by
  have HN := hide h.1
  have HX := hide h
  have HE : Hid (q = (decide ((n : Int) ≤ 8) && xs1 [] xs)) := by
    show _ = _
    rw [← hq, xsOk, h.1]
    congr 1
    rw [Bool.eq_iff_iff, decide_eq_true_eq, decide_eq_true_eq]; omega
  clear hq h
  go_enter Try.func38, Try.ntmps38
  go_wp2
  go_loopw [3, 4, 5] (fun r _ _ wr => ∃ (i : Nat), r = .int .i64 i ∧ i ≤ n ∧ Below w.heap.size w wr ∧ xs1 [] xs = xs1 (prev xs i) (xs.drop i)) (fun r _ _ _ => n - (intOf r).toNat)
  case atStart => exact ⟨0, rfl, Nat.zero_le _, Below.refl _ _, rfl⟩
  case round =>
    obtain ⟨i, rfl, hi0, hbel, hinv⟩ := hrel
    have HI := hide hinv
    have HB := hide hbel
    by_cases hp : i < n
    · have hd : decide ((i : Int) < n) = true := by simpa using hp
      obtain ⟨ba, oa, rfl, hba, hca⟩ := (HX.out.below hbel).at (by omega)
      have HCA := hide hca
      obtain ⟨c1, va, vn, vc, c2, b1, _, _, _, hsz⟩ := hca i hp
      have HS := hide (xs1_step (prev xs i) xs i (by rw [HN.out]; exact hp))
      have HL := hide b1.1
      obtain ⟨a1, ha1⟩ : ∃ q, decide (((gx xs i).1.size : Int) < 1) = q := ⟨_, rfl⟩
      obtain ⟨a2, ha2⟩ : ∃ q, decide ((40 : Int) < (gx xs i).1.size) = q := ⟨_, rfl⟩
      obtain ⟨a3, ha3⟩ : ∃ q, (gx xs i).1.toList.any (· == 0) = q := ⟨_, rfl⟩
      obtain ⟨a4, ha4⟩ : ∃ q, decide ((200 : Int) < vn) = q := ⟨_, rfl⟩
      have HT := hide (txt40 (gx xs i).1 a1 a2 a3 ha1 ha2 ha3)
      have HA3 := hide ha3
      have HV : Hid (decide ((gx xs i).2.length ≤ 200) = !a4) := by
        show _ = _
        rw [← ha4, HL.out, Bool.eq_iff_iff]
        simp only [decide_eq_true_eq, Bool.not_eq_true', decide_eq_false_iff_not]
        omega
      have bel : Hid (∀ o k, Below w.heap.size w ((wr.alloc o).drewN k)) := fun o k => (HB.out.alloc HB.out.size _).trans (drewN_below _ _)
      clear hca b1 hinv hbel ha3
      cases a1 with
      | true =>
        have g1 : (gx xs i).1.size < 1 := by have := of_decide_eq_true ha1; omega
        have HEF : Hid (false = q) := by show _ = _; rw [HE.out, HI.out, HS.out, HT.out]; simp
        go_wp2_with (go_at_call 60; refine (nul_any _ _ a3 HA3.out hsz).mono ?_; rintro e w' ⟨rfl, rfl⟩)
        go_quiet (fail)
        go_wp2
        go_ret
        exact ⟨ret_bool HEF.out, bel.out _ _⟩
      | false =>
      have g1 : ¬ (gx xs i).1.size < 1 := by have := of_decide_eq_false ha1; omega
      cases a2 with
      | true =>
        have g2 : (40 : Int) < (gx xs i).1.size := of_decide_eq_true ha2
        have HEF : Hid (false = q) := by show _ = _; rw [HE.out, HI.out, HS.out, HT.out]; simp
        go_wp2_with (go_at_call 60; refine (nul_any _ _ a3 HA3.out hsz).mono ?_; rintro e w' ⟨rfl, rfl⟩)
        go_quiet (fail)
        go_wp2
        go_ret
        exact ⟨ret_bool HEF.out, bel.out _ _⟩
      | false =>
      have g2 : ¬ (40 : Int) < (gx xs i).1.size := of_decide_eq_false ha2
      cases a3 with
      | true =>
        have HEF : Hid (false = q) := by show _ = _; rw [HE.out, HI.out, HS.out, HT.out]; simp
        go_wp2_with (go_at_call 60; refine (nul_any _ _ true HA3.out hsz).mono ?_; rintro e w' ⟨rfl, rfl⟩)
        go_quiet (fail)
        go_wp2
        go_ret
        exact ⟨ret_bool HEF.out, bel.out _ _⟩
      | false =>
      cases a4 with
      | true =>
        have g4 : (200 : Int) < vn := of_decide_eq_true ha4
        have HEF : Hid (false = q) := by show _ = _; rw [HE.out, HI.out, HS.out, HT.out, HV.out]; simp
        go_wp2_with (go_at_call 60; refine (nul_any _ _ false HA3.out hsz).mono ?_; rintro e w' ⟨rfl, rfl⟩)
        go_quiet (fail)
        go_wp2
        go_ret
        exact ⟨ret_bool HEF.out, bel.out _ _⟩
      | false =>
      have g4 : ¬ (200 : Int) < vn := of_decide_eq_false ha4
      cases i with
      | zero =>
        rw [Nat.zero_mul, Nat.add_zero] at c1 c2
        have HL0 : Hid (Op.bytesLess (prev xs 0) (gx xs 0).1.toList = true) := by
          show Op.bytesLess [] _ = true
          have : (gx xs 0).1.toList ≠ [] := fun e => by
            have := toList_length (gx xs 0).1
            rw [e] at this; simp at this; omega
          cases hh : (gx xs 0).1.toList with
          | nil => exact absurd hh this
          | cons a r => simp [Op.bytesLess]
        go_wp2_with (go_at_call 60; refine (nul_any _ _ false HA3.out hsz).mono ?_; rintro e w' ⟨rfl, rfl⟩)
        go_quiet (fail)
        go_wp2
        refine ⟨⟨_ + 1, by go_num, by omega, bel.out _ _, ?_⟩, by simp [intOf]; omega⟩
        rw [HI.out, HS.out, HL0.out, HT.out, HV.out]; rfl
      | succ k =>
        have hz : decide ((0 : Int) < ((k + 1 : Nat) : Int)) = true := by rw [decide_eq_true_eq]; omega
        obtain ⟨p1, _, _, _, _, _⟩ := HCA.out k (by omega)
        have hk1 : (k : Int) < n := by omega
        obtain ⟨q1, hq1⟩ : ∃ q, Op.bytesLess (gx xs k).1.toList (gx xs (k + 1)).1.toList = q := ⟨_, rfl⟩
        have HQ1 : Hid (Op.bytesLess (prev xs (k + 1)) (gx xs (k + 1)).1.toList = q1) := hq1
        cases q1 with
        | true =>
          have f1 : Op.bytesLess (gx xs (k + 1)).1.toList (gx xs k).1.toList = false := bless_asymm _ _ hq1
          have f2 : ((gx xs k).1.toList == (gx xs (k + 1)).1.toList) = false := by
            rw [beq_eq_false_iff_ne]; intro he; rw [he, bless_irrefl] at hq1; cases hq1
          have f3 : ¬ (gx xs k).1.toList = (gx xs (k + 1)).1.toList := by simpa using f2
          go_wp2_with (go_at_call 60; refine (nul_any _ _ false HA3.out hsz).mono ?_; rintro e w' ⟨rfl, rfl⟩)
          go_quiet (fail)
          go_wp2
          refine ⟨⟨_ + 1, by go_num, by omega, bel.out _ _, ?_⟩, by simp [intOf]; omega⟩
          rw [HI.out, HS.out, HQ1.out, HT.out, HV.out]; rfl
        | false =>
          have HEF : Hid (false = q) := by show _ = _; rw [HE.out, HI.out, HS.out, HQ1.out]; simp
          by_cases he : (gx xs k).1.toList = (gx xs (k + 1)).1.toList
          · have f1 : Op.bytesLess (gx xs (k + 1)).1.toList (gx xs k).1.toList = false := by rw [he]; exact bless_irrefl _
            have f2 : ((gx xs k).1.toList == (gx xs (k + 1)).1.toList) = true := by simpa using he
            clear he
            go_wp2_with (go_at_call 60; refine (nul_any _ _ false HA3.out hsz).mono ?_; rintro e w' ⟨rfl, rfl⟩)
            go_quiet (fail)
            go_wp2
            go_ret
            exact ⟨ret_bool HEF.out, bel.out _ _⟩
          · have f1 : Op.bytesLess (gx xs (k + 1)).1.toList (gx xs k).1.toList = true := by
              rcases bless_total _ _ he with h | h
              · rw [h] at hq1; cases hq1
              · exact h
            clear he
            go_wp2_with (go_at_call 60; refine (nul_any _ _ false HA3.out hsz).mono ?_; rintro e w' ⟨rfl, rfl⟩)
            go_quiet (fail)
            go_wp2
            go_ret
            exact ⟨ret_bool HEF.out, bel.out _ _⟩
    · have hd : decide ((i : Int) < n) = false := by simpa using hp
      have HEF : Hid (decide ((n : Int) ≤ 8) = q) := by
        show _ = _
        rw [HE.out, HI.out, List.drop_eq_nil_of_le (by rw [HN.out]; omega)]; simp [xs1]
      go_wp2
      go_ret
      exact ⟨ret_bool (by rw [← HEF.out]), HB.out⟩
end Go.Proofs.Ytgkclldiphcogaa

/- Layer 8: rows of ints that do not fall, numbers within bounds; whether a superblock may be. -/
import Derived.Test.YthghodmjpdooaaaDoorSupPure
namespace Go.Proofs.YthghodmjpdooaaaDoor
set_option linter.unusedVariables false
open Go.RowKit Go.Maps
open Sup

theorem hide {p : Prop} (h : p) : Hid p := h
theorem ret_bool {a b : Bool} (h : a = b) : Ending.returned (.bool a) = .returned (.bool b) := by rw [h]
theorem isNaN_any (x : Int) (w : World) : Calls Tryd.prog 43 #[.int .i64 x] w fun e w' => e = .returned (.bool false) ∧ w' = w := by
  have h : (x != x) = false := by simp
  go_enter Tryd.func43, Tryd.ntmps43
  go_wp2
  go_ret
  exact ⟨rfl, rfl⟩
theorem iLess_any (x y : Int) (w : World) : Calls Tryd.prog 33 #[.int .i64 x, .int .i64 y] w fun e w' => e = .returned (.bool (decide (x < y))) ∧ w' = w := by
  go_enter Tryd.func33, Tryd.ntmps33
  go_wp2_with (go_at_call 43; refine (isNaN_any _ _).mono ?_; rintro e w' ⟨rfl, rfl⟩)
  go_ret
  exact ⟨rfl, rfl⟩
theorem within_any (n a b : Int) (w : World) : Calls Tryd.prog 23 #[.int .i64 n, .int .i64 a, .int .i64 b] w fun e w' => e = .returned (.bool (inn n a b)) ∧ w' = w := by
  by_cases h1 : a ≤ n
  · by_cases h2 : n ≤ b
    · have e : inn n a b = true := by simp [inn, h1, h2]
      rw [e]
      clear e
      go_enter Tryd.func23, Tryd.ntmps23
      go_wp2
      go_ret
      exact ⟨rfl, rfl⟩
    · have e : inn n a b = false := by simp [inn, h2]
      have h2' : decide (n ≤ b) = false := by simpa using h2
      rw [e]
      clear e
      go_enter Tryd.func23, Tryd.ntmps23
      go_wp2
      go_ret
      exact ⟨rfl, rfl⟩
  · have e : inn n a b = false := by simp [inn, h1]
    have h1' : decide (a ≤ n) = false := by simpa using h1
    rw [e]
    clear e
    go_enter Tryd.func23, Tryd.ntmps23
    go_wp2
    go_ret
    exact ⟨rfl, rfl⟩
/-- Whether it does not fall. -/
def rises (n : Nat) (Z : Nat → Int) : Bool := decide (∀ i, i < n - 1 → Z i ≤ Z (i + 1))
set_option maxRecDepth 100000 in
theorem IsSorted_any (b n c : Nat) (Z : Nat → Int) (w : World) (hZ : ∀ i, i < n → w.cell? ⟨b, i, none⟩ = some (.int .i64 (Z i))) (h1 : 1 ≤ n) (hn : n ≤ 1000) :
    Calls Tryd.prog 22 #[.slice (some ⟨b, 0, none⟩) n c] w fun e w' => e = .returned (.bool (rises n Z)) ∧ ∃ q, w' = w.drewN q := by
  have HZ := hide hZ
  clear hZ
  go_enter Tryd.func22, Tryd.ntmps22
  go_wp2
  go_loopw [3] (fun s3 wr => ∃ i q : Nat, i < n ∧ s3 = .int .i64 i ∧ wr = w.drewN q ∧ ∀ j, i ≤ j → j < n - 1 → Z j ≤ Z (j + 1)) (fun s3 _ => (intOf s3).toNat)
  case atStart => exact ⟨n - 1, 0, by omega, by congr 1; omega, rfl, fun j h1 h2 => by omega⟩
  case round =>
    obtain ⟨i, q, hi, rfl, hWq, hinv⟩ := hrel
    have HI := hide hinv
    have HQ := hide hWq
    have HZr : Hid (∀ i, i < n → wr.cell? ⟨b, i, none⟩ = some (.int .i64 (Z i))) := fun i hi => by rw [hWq, ← HZ.out i hi]; simp
    clear hinv hWq
    by_cases h0 : i = 0
    · subst h0
      have e : Hid (true = rises n Z) := by
        show _ = _
        symm; unfold rises; rw [decide_eq_true_eq]
        exact fun j hj => HI.out j (by omega) hj
      go_wp2
      go_ret
      exact ⟨ret_bool e.out, q, HQ.out⟩
    · obtain ⟨t, ht⟩ : ∃ t, i = t + 1 := ⟨i - 1, by omega⟩
      have HT := hide ht
      have c1 := HZr.out t (by omega)
      have c2 := HZr.out i (by omega)
      have hp : (0 : Int) < i := by omega
      have hn1 : (t : Int) < n := by omega
      have hn2 : (i : Int) < n := by omega
      have hw1 : IntKind.i64.wrap ((i : Int) - 1) = t := by rw [IntKind.wrap_i64]; omega
      clear ht h0
      have HL : Hid (∀ w', Calls Tryd.prog 33 #[.int .i64 (Z i), .int .i64 (Z t)] w' fun e w2 => e = .returned (.bool (decide (Z i < Z t))) ∧ w2 = w') := fun w' => iLess_any _ _ w'
      by_cases hlt : Z i < Z t
      · have hd : decide (Z i < Z t) = true := by simpa using hlt
        have e : Hid (false = rises n Z) := by
          show _ = _
          symm; unfold rises; rw [decide_eq_false_iff_not]
          intro h
          have := h t (by have := HT.out; omega)
          rw [← HT.out] at this
          omega
        go_wp2
        go_quiet ((go_at_call 33; exact Calls.quiet_of_same (HL.out _)))
        go_wp2
        go_ret
        exact ⟨ret_bool e.out, by rw [HQ.out]; exact dr2 _ _ _⟩
      · have hd : decide (Z i < Z t) = false := by simpa using hlt
        go_wp2
        go_quiet ((go_at_call 33; exact Calls.quiet_of_same (HL.out _)))
        go_wp2
        go_roundw
        case rel =>
          have ht := HT.out
          refine ⟨t, _, by omega, by go_num, by rw [HQ.out, World.drewN_drewN], fun j h1 h2 => ?_⟩
          by_cases e : j = t
          · subst e; rw [← ht]; omega
          · exact HI.out j (by omega) h2
        case measure => have ht := HT.out; simp [intOf]; omega
end Go.Proofs.YthghodmjpdooaaaDoor

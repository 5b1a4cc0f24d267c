import Derived.Test.YtflohhefbbidcaaLNamTxt
import Derived.Lib.OthersKept
import Derived.ProofKit
set_option linter.unusedVariables false
namespace Go.Proofs.Ytflohhefbbidcaa
open Go.RowKit Go.Maps
open Nam
namespace Nam
end Nam
theorem byte_at (s : ByteArray) (i : Nat) (h : i < s.size) : s.toList.take (i + 1) = s.toList.take i ++ [s[i]] := by
 rw [List.take_succ_eq_append_getElem (by rw [toList_length]; exact h)]
 congr 2
 have e := ByteArray.toList_eq (bs := s)
 simp only [e]; rfl
theorem byte_bad (s : ByteArray) (i : Nat) (h : i < s.size) (e : (((s[i]'h).toNat : Int) == 0 || ((s[i]'h).toNat : Int) == 47) = true) : s.toList.any bad = true := by
 rw [← List.take_append_drop (i + 1) s.toList, byte_at s i h, List.any_append, List.any_append]
 have : bad s[i] = true := by
  simp only [Bool.or_eq_true, beq_iff_eq] at e
  simp only [bad, Bool.or_eq_true, beq_iff_eq]
  rcases e with e | e
  ·exact .inl (UInt8.toNat_inj.1 (by simpa using e))
  ·exact .inr (UInt8.toNat_inj.1 (by simpa using (by omega : s[i].toNat = 47)))
 simp [this]
theorem byte_good (s : ByteArray) (i : Nat) (h : i < s.size) (e : ((s[i]'h).toNat : Int) ≠ 0 ∧ ((s[i]'h).toNat : Int) ≠ 47) (k : (s.toList.take i).any bad = false) : (s.toList.take (i + 1)).any bad = false := by
 rw [byte_at s i h, List.any_append, k]
 have : bad s[i] = false := by
  simp only [bad, Bool.or_eq_false_iff, beq_eq_false_iff_ne]
  exact ⟨fun k => e.1 (by rw [k]; rfl), fun k => e.2 (by rw [k]; rfl)⟩
 simp [this]
set_option maxRecDepth 100000 in
theorem refValid_any (s : ByteArray) (w : World) : Calls Try.prog 33 #[.string s] w fun e w' => e = .returned (.int .i64 (valid s.toList)) ∧ w' = w := by
 have HS := hide (toList_length s)
 by_cases hl : (255 : Int) < s.size
 ·have kl : decide ((255 : Int) < s.size) = true := by simpa using hl
  go_enter Try.func33, Try.ntmps33
  go_wp2
  go_ret
  exact ⟨ret_int (valid_long (by rw [HS.out]; omega)).symm, rfl⟩
 ·have kl : decide ((255 : Int) < s.size) = false := by simpa using hl
  have hsz : s.size ≤ 255 := by omega
  go_enter Try.func33, Try.ntmps33
  go_wp2
  go_loopw [3] (fun r wr => ∃ i : Nat, wr = w ∧ r = .int .i64 i ∧ i ≤ s.size ∧ (s.toList.take i).any bad = false) (fun r _ => s.size - (intOf r).toNat)
  case atStart => exact ⟨0, rfl, rfl, Nat.zero_le _, rfl⟩
  case round =>
   obtain ⟨i, rfl, rfl, hi0, hinv⟩ := hrel
   have HI := hide hinv
   clear hinv
   by_cases hp : i < s.size
   ·have hd : decide ((i : Int) < s.size) = true := by simpa using hp
    have HB := hide (byte_bad s i hp)
    have HG := hide (byte_good s i hp)
    go_wp2
    ·have e : (s[i]'hp).toNat = 0 := by assumption
     go_ret
     exact ⟨ret_int (valid_bad (by rw [HS.out]; omega) (HB.out (by rw [e]; rfl))).symm, rfl⟩
    ·have e : (((s[i]'hp).toNat : Int) == 0) = true ∨ (((s[i]'hp).toNat : Int) == 47) = true := by assumption
     go_ret
     exact ⟨ret_int (valid_bad (by rw [HS.out]; omega) (HB.out (by simpa using e))).symm, rfl⟩
    ·have e : (((s[i]'hp).toNat : Int) == 0) = false ∧ (((s[i]'hp).toNat : Int) == 47) = false := by assumption
     simp only [beq_eq_false_iff_ne] at e
     refine ⟨⟨i + 1, trivial, by go_num, by omega, HG.out e HI.out⟩, ?_⟩
     simp [intOf]; omega
   ·have hd : decide ((i : Int) < s.size) = false := by simpa using hp
    have HB : Hid (s.toList.any bad = false) := by
     have := HI.out
     rw [List.take_of_length_le (by rw [HS.out]; omega)] at this
     exact this
    go_wp2
    ·have k : s.toList = [] := by assumption
     go_ret
     exact ⟨ret_int (valid_name (by rw [HS.out]; omega) (.inl k)).symm, rfl⟩
    ·have k : s.toList = [46] := by assumption
     go_ret
     exact ⟨ret_int (valid_name (by rw [HS.out]; omega) (.inr (.inl k))).symm, rfl⟩
    ·have k : (s.toList.isEmpty = true ∨ (s.toList == [46]) = true) ∨ (s.toList == [46, 46]) = true := by assumption
     go_ret
     refine ⟨ret_int (valid_name (by rw [HS.out]; omega) ?_).symm, rfl⟩
     simpa [or_assoc] using k
    ·have k : (s.toList.isEmpty = false ∧ (s.toList == [46]) = false) ∧ (s.toList == [46, 46]) = false := by assumption
     simp only [List.isEmpty_eq_false_iff, beq_eq_false_iff_ne] at k
     go_ret
     exact ⟨ret_int (valid_ok (by rw [HS.out]; omega) k.1.1 k.1.2 k.2 HB.out).symm, rfl⟩
end Go.Proofs.Ytflohhefbbidcaa

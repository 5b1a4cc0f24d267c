import Derived.Test.YtgnjifdaccphhaaBNamTxt
import Derived.Lib.OthersKept
import Derived.ProofKit
set_option linter.unusedVariables false
namespace Go.Proofs.Ytgnjifdaccphhaa
open Go.RowKit Go.Maps
open Nam
namespace Nam
end Nam
theorem drop_end {s : ByteArray} {pos : Nat} (h : ¬ pos < s.size) : s.toList.drop pos = [] := List.drop_eq_nil_of_le (by rw [toList_length]; omega)
theorem letter_bad {s : ByteArray} {pos : Nat} (h : pos < s.size) (hb : (((Utf8.decode s pos).1 : Int) == 0 || ((Utf8.decode s pos).1 : Int) == 47) = true) : (s.toList.drop pos).any bad = true := by
 obtain ⟨c, hc, hl, h1, h2, h3⟩ := letter s pos h
 rw [hc, List.any_append]
 rcases h3 with ⟨b, rfl, e⟩ | ⟨e, _⟩
 ·rw [e] at hb
  have : bad b = true := by
   simp only [Bool.or_eq_true, beq_iff_eq] at hb
   simp only [bad, Bool.or_eq_true, beq_iff_eq]
   rcases hb with hb | hb
   ·exact .inl (UInt8.toNat_inj.1 (by simpa using hb))
   ·exact .inr (UInt8.toNat_inj.1 (by simpa using (by omega : b.toNat = 47)))
  simp [this]
 ·simp only [Bool.or_eq_true, beq_iff_eq] at hb
  omega
theorem letter_good {s : ByteArray} {pos : Nat} (h : pos < s.size) (hb : (((Utf8.decode s pos).1 : Int) == 0 || ((Utf8.decode s pos).1 : Int) == 47) = false) : (s.toList.drop pos).any bad = (s.toList.drop (pos + (Utf8.decode s pos).2)).any bad := by
 obtain ⟨c, hc, hl, h1, h2, h3⟩ := letter s pos h
 rw [hc, List.any_append]
 have : c.any bad = false := by
  rw [List.any_eq_false]
  intro b hbc
  simp only [bad, Bool.or_eq_true, beq_iff_eq, not_or]
  rcases h3 with ⟨b', rfl, e⟩ | ⟨e, hh⟩
  ·rw [e] at hb
   simp only [List.mem_singleton] at hbc
   subst hbc
   simp only [Bool.or_eq_false_iff, beq_eq_false_iff_ne] at hb
   exact ⟨fun k => hb.1 (by rw [k]; rfl), fun k => hb.2 (by rw [k]; rfl)⟩
  ·have := hh b hbc
   exact ⟨fun k => by rw [k] at this; simp at this, fun k => by rw [k] at this; simp at this⟩
 rw [this, Bool.false_or]
theorem width_pos (s : ByteArray) (pos : Nat) (h : pos < s.size) : 1 ≤ (Utf8.decode s pos).2 := (decode_pass s pos h).2.1
set_option maxRecDepth 100000 in
theorem Valid_good (s : ByteArray) (w : World) (hl : ¬ (255 : Int) < s.size) (h0 : s.toList ≠ []) (h1 : s.toList ≠ [46]) (h2 : s.toList ≠ [46, 46]) :
  Calls Try.prog 35 #[.string s] w fun e w' => e = .returned (.int .i64 (valid s.toList)) ∧ Below w.heap.size w w' := by
 have hv : Hid (valid s.toList = if (s.toList.drop 0).any bad = true then 22 else 0) := by
  show _ = _
  cases hb : (s.toList.drop 0).any bad with
  | true => exact valid_bad (by rw [toList_length]; omega) hb
  | false => exact valid_ok (by rw [toList_length]; omega) h0 h1 h2 hb
 have k0 : s.toList.isEmpty = false := by simpa using h0
 have k1 : (s.toList == [46]) = false := by simpa using h1
 have k2 : (s.toList == [46, 46]) = false := by simpa using h2
 have kl : decide ((255 : Int) < s.size) = false := by simpa using hl
 clear h1 h2
 go_enter Try.func35, Try.ntmps35
 go_wp2
 go_loopw [2, 4] (fun r _ wr => ∃ pos, wr = w.iter s pos ∧ r = .int .i64 0 ∧ pos ≤ s.size ∧ valid s.toList = if (s.toList.drop pos).any bad = true then 22 else 0) (fun _ _ wr => s.size - wr.iterPos w.heap.size)
 case atStart => exact ⟨0, rfl, rfl, Nat.zero_le _, hv.out⟩
 case round =>
  obtain ⟨pos, rfl, rfl, hp0, hinv⟩ := hrel
  have HI := hide hinv
  clear hinv
  by_cases hp : pos < s.size
  ·have hnx : ∀ ty, (Instr.next (.pointer (some ⟨w.heap.size, 0, none⟩)) true ty).run Try.prog (w.iter s pos) = _ := fun ty => run_next_any w s pos ty hp
   have hwd := width_pos s pos hp
   have hle := (decode_pass s pos hp).1
   obtain ⟨dc, hdc⟩ : ∃ dc, Utf8.decode s pos = dc := ⟨_, rfl⟩
   have HB : Hid (((dc.1 : Int) == 0 || (dc.1 : Int) == 47) = true → (s.toList.drop pos).any bad = true) := by rw [← hdc]; exact letter_bad hp
   have HG : Hid (((dc.1 : Int) == 0 || (dc.1 : Int) == 47) = false → (s.toList.drop pos).any bad = (s.toList.drop (pos + dc.2)).any bad) := by rw [← hdc]; exact letter_good hp
   simp only [hdc] at hnx hwd hle
   clear hdc
   go_wp2
   ·have e : dc.1 = 0 := by assumption
    go_ret
    refine ⟨ret_int ?_, (Below.refl _ _).alloc (Nat.le_refl _) _⟩
    rw [HI.out, if_pos (HB.out (by rw [e]; rfl))]
   ·have e : ((dc.1 : Int) == 0) = true ∨ ((dc.1 : Int) == 47) = true := by assumption
    go_ret
    refine ⟨ret_int ?_, (Below.refl _ _).alloc (Nat.le_refl _) _⟩
    rw [HI.out, if_pos (HB.out (by simpa using e))]
   ·have e : ((dc.1 : Int) == 0) = false ∧ ((dc.1 : Int) == 47) = false := by assumption
    go_roundw
    case rel =>
     refine ⟨pos + dc.2, rfl, rfl, hle, ?_⟩
     rw [HI.out, HG.out (by rw [e.1, e.2]; rfl)]
    case measure =>
     simp
     omega
  ·have hnx : ∀ ty, (Instr.next (.pointer (some ⟨w.heap.size, 0, none⟩)) true ty).run Try.prog (w.iter s pos) = _ := fun ty => run_next_end w s pos ty hp
   go_wp2
   go_ret
   refine ⟨ret_int ?_, (Below.refl _ _).alloc (Nat.le_refl _) _⟩
   rw [HI.out, drop_end hp]; rfl
set_option maxRecDepth 100000 in
theorem Valid_any (s : ByteArray) (w : World) : Calls Try.prog 35 #[.string s] w fun e w' => e = .returned (.int .i64 (valid s.toList)) ∧ Below w.heap.size w w' := by
 have HS := hide (toList_length s)
 by_cases hl : (255 : Int) < s.size
 ·have kl : decide ((255 : Int) < s.size) = true := by simpa using hl
  go_enter Try.func35, Try.ntmps35
  go_wp2
  go_ret
  exact ⟨ret_int (valid_long (by rw [HS.out]; omega)).symm, Below.refl _ _⟩
 ·have kl : decide ((255 : Int) < s.size) = false := by simpa using hl
  by_cases h0 : s.toList = [] ∨ s.toList = [46] ∨ s.toList = [46, 46]
  ·have H := hide (valid_name (l := s.toList) (by rw [HS.out]; omega) h0)
   have e : s = ⟨#[]⟩ ∨ s = ⟨#[46]⟩ ∨ s = ⟨#[46, 46]⟩ := by
    rcases h0 with h | h | h
    ·exact .inl (toList_inj (by rw [h]; exact (toList_mk []).symm))
    ·exact .inr (.inl (toList_inj (by rw [h]; exact (toList_mk [46]).symm)))
    ·exact .inr (.inr (toList_inj (by rw [h]; exact (toList_mk [46, 46]).symm)))
   clear h0 H
   rcases e with rfl | rfl | rfl
   all_goals
    go_enter Try.func35, Try.ntmps35
    go_wp2
    go_ret
    exact ⟨ret_int (by decide), Below.refl _ _⟩
  ·simp only [not_or] at h0
   exact Valid_good s w hl h0.1 h0.2.1 h0.2.2
theorem byte_at (s : ByteArray) (i : Nat) (h : i < s.size) : s.toList.take (i + 1) = s.toList.take i ++ [s[i]] := by
 rw [List.take_succ_eq_append_getElem (by rw [toList_length]; exact h)]
 congr 2
 have e := ByteArray.toList_eq (bs := s)
 simp only [e]; rfl
theorem byte_bad (s : ByteArray) (i : Nat) (h : i < s.size) (e : (((s[i]'h).toNat : Int) == 0 || ((s[i]'h).toNat : Int) == 47) = true) : s.toList.any bad = true := by
 rw [← List.take_append_drop (i + 1) s.toList, byte_at s i h, List.any_append, List.any_append]
 have : bad s[i] = true := by
  simp only [Bool.or_eq_true, beq_iff_eq] at e
  simp only [bad, Bool.or_eq_true, beq_iff_eq]
  rcases e with e | e
  ·exact .inl (UInt8.toNat_inj.1 (by simpa using e))
  ·exact .inr (UInt8.toNat_inj.1 (by simpa using (by omega : s[i].toNat = 47)))
 simp [this]
theorem byte_good (s : ByteArray) (i : Nat) (h : i < s.size) (e : ((s[i]'h).toNat : Int) ≠ 0 ∧ ((s[i]'h).toNat : Int) ≠ 47) (k : (s.toList.take i).any bad = false) : (s.toList.take (i + 1)).any bad = false := by
 rw [byte_at s i h, List.any_append, k]
 have : bad s[i] = false := by
  simp only [bad, Bool.or_eq_false_iff, beq_eq_false_iff_ne]
  exact ⟨fun k => e.1 (by rw [k]; rfl), fun k => e.2 (by rw [k]; rfl)⟩
 simp [this]
set_option maxRecDepth 100000 in
theorem refValid_any (s : ByteArray) (w : World) : Calls Try.prog 42 #[.string s] w fun e w' => e = .returned (.int .i64 (valid s.toList)) ∧ w' = w := by
 have HS := hide (toList_length s)
 by_cases hl : (255 : Int) < s.size
 ·have kl : decide ((255 : Int) < s.size) = true := by simpa using hl
  go_enter Try.func42, Try.ntmps42
  go_wp2
  go_ret
  exact ⟨ret_int (valid_long (by rw [HS.out]; omega)).symm, rfl⟩
 ·have kl : decide ((255 : Int) < s.size) = false := by simpa using hl
  have hsz : s.size ≤ 255 := by omega
  go_enter Try.func42, Try.ntmps42
  go_wp2
  go_loopw [3] (fun r wr => ∃ i : Nat, wr = w ∧ r = .int .i64 i ∧ i ≤ s.size ∧ (s.toList.take i).any bad = false) (fun r _ => s.size - (intOf r).toNat)
  case atStart => exact ⟨0, rfl, rfl, Nat.zero_le _, rfl⟩
  case round =>
   obtain ⟨i, rfl, rfl, hi0, hinv⟩ := hrel
   have HI := hide hinv
   clear hinv
   by_cases hp : i < s.size
   ·have hd : decide ((i : Int) < s.size) = true := by simpa using hp
    have HB := hide (byte_bad s i hp)
    have HG := hide (byte_good s i hp)
    go_wp2
    ·have e : (s[i]'hp).toNat = 0 := by assumption
     go_ret
     exact ⟨ret_int (valid_bad (by rw [HS.out]; omega) (HB.out (by rw [e]; rfl))).symm, rfl⟩
    ·have e : (((s[i]'hp).toNat : Int) == 0) = true ∨ (((s[i]'hp).toNat : Int) == 47) = true := by assumption
     go_ret
     exact ⟨ret_int (valid_bad (by rw [HS.out]; omega) (HB.out (by simpa using e))).symm, rfl⟩
    ·have e : (((s[i]'hp).toNat : Int) == 0) = false ∧ (((s[i]'hp).toNat : Int) == 47) = false := by assumption
     simp only [beq_eq_false_iff_ne] at e
     refine ⟨⟨i + 1, trivial, by go_num, by omega, HG.out e HI.out⟩, ?_⟩
     simp [intOf]; omega
   ·have hd : decide ((i : Int) < s.size) = false := by simpa using hp
    have HB : Hid (s.toList.any bad = false) := by
     have := HI.out
     rw [List.take_of_length_le (by rw [HS.out]; omega)] at this
     exact this
    go_wp2
    ·have k : s.toList = [] := by assumption
     go_ret
     exact ⟨ret_int (valid_name (by rw [HS.out]; omega) (.inl k)).symm, rfl⟩
    ·have k : s.toList = [46] := by assumption
     go_ret
     exact ⟨ret_int (valid_name (by rw [HS.out]; omega) (.inr (.inl k))).symm, rfl⟩
    ·have k : (s.toList.isEmpty = true ∨ (s.toList == [46]) = true) ∨ (s.toList == [46, 46]) = true := by assumption
     go_ret
     refine ⟨ret_int (valid_name (by rw [HS.out]; omega) ?_).symm, rfl⟩
     simpa [or_assoc] using k
    ·have k : (s.toList.isEmpty = false ∧ (s.toList == [46]) = false) ∧ (s.toList == [46, 46]) = false := by assumption
     simp only [List.isEmpty_eq_false_iff, beq_eq_false_iff_ne] at k
     go_ret
     exact ⟨ret_int (valid_ok (by rw [HS.out]; omega) k.1.1 k.1.2 k.2 HB.out).symm, rfl⟩
end Go.Proofs.Ytgnjifdaccphhaa

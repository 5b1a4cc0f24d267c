import Derived.Test.YtbmeapehgajbkaaGreatGNamTxt
import Derived.Lib.OthersKept
import Derived.ProofKit
set_option linter.unusedVariables false
namespace Go.Proofs.YtbmeapehgajbkaaGreat
open Go.RowKit Go.Maps
open Nam
namespace Nam
end Nam
theorem drop_end {s : ByteArray} {pos : Nat} (h : ¬ pos < s.size) : s.toList.drop pos = [] := List.drop_eq_nil_of_le (by rw [toList_length]; omega)
theorem letter_bad {s : ByteArray} {pos : Nat} (h : pos < s.size) (hb : (((Utf8.decode s pos).1 : Int) == 0 || ((Utf8.decode s pos).1 : Int) == 47) = true) : (s.toList.drop pos).any bad = true := by
 obtain ⟨c, hc, hl, h1, h2, h3⟩ := letter s pos h
 rw [hc, List.any_append]
 rcases h3 with ⟨b, rfl, e⟩ | ⟨e, _⟩
 ·rw [e] at hb
  have : bad b = true := by
   simp only [Bool.or_eq_true, beq_iff_eq] at hb
   simp only [bad, Bool.or_eq_true, beq_iff_eq]
   rcases hb with hb | hb
   ·exact .inl (UInt8.toNat_inj.1 (by simpa using hb))
   ·exact .inr (UInt8.toNat_inj.1 (by simpa using (by omega : b.toNat = 47)))
  simp [this]
 ·simp only [Bool.or_eq_true, beq_iff_eq] at hb
  omega
theorem letter_good {s : ByteArray} {pos : Nat} (h : pos < s.size) (hb : (((Utf8.decode s pos).1 : Int) == 0 || ((Utf8.decode s pos).1 : Int) == 47) = false) : (s.toList.drop pos).any bad = (s.toList.drop (pos + (Utf8.decode s pos).2)).any bad := by
 obtain ⟨c, hc, hl, h1, h2, h3⟩ := letter s pos h
 rw [hc, List.any_append]
 have : c.any bad = false := by
  rw [List.any_eq_false]
  intro b hbc
  simp only [bad, Bool.or_eq_true, beq_iff_eq, not_or]
  rcases h3 with ⟨b', rfl, e⟩ | ⟨e, hh⟩
  ·rw [e] at hb
   simp only [List.mem_singleton] at hbc
   subst hbc
   simp only [Bool.or_eq_false_iff, beq_eq_false_iff_ne] at hb
   exact ⟨fun k => hb.1 (by rw [k]; rfl), fun k => hb.2 (by rw [k]; rfl)⟩
  ·have := hh b hbc
   exact ⟨fun k => by rw [k] at this; simp at this, fun k => by rw [k] at this; simp at this⟩
 rw [this, Bool.false_or]
theorem width_pos (s : ByteArray) (pos : Nat) (h : pos < s.size) : 1 ≤ (Utf8.decode s pos).2 := (decode_pass s pos h).2.1
set_option maxRecDepth 100000 in
theorem Valid_good (s : ByteArray) (w : World) (hl : ¬ (255 : Int) < s.size) (h0 : s.toList ≠ []) (h1 : s.toList ≠ [46]) (h2 : s.toList ≠ [46, 46]) :
  Calls Tryz.prog 74 #[.string s] w fun e w' => e = .returned (.int .i64 (valid s.toList)) ∧ Below w.heap.size w w' := by
 have hv : Hid (valid s.toList = if (s.toList.drop 0).any bad = true then 22 else 0) := by
  show _ = _
  cases hb : (s.toList.drop 0).any bad with
  | true => exact valid_bad (by rw [toList_length]; omega) hb
  | false => exact valid_ok (by rw [toList_length]; omega) h0 h1 h2 hb
 have k0 : s.toList.isEmpty = false := by simpa using h0
 have k1 : (s.toList == [46]) = false := by simpa using h1
 have k2 : (s.toList == [46, 46]) = false := by simpa using h2
 have kl : decide ((255 : Int) < s.size) = false := by simpa using hl
 clear h1 h2
 go_enter Tryz.func74, Tryz.ntmps74
 go_wp2
 go_loopw [2, 4] (fun r _ wr => ∃ pos, wr = w.iter s pos ∧ r = .int .i64 0 ∧ pos ≤ s.size ∧ valid s.toList = if (s.toList.drop pos).any bad = true then 22 else 0) (fun _ _ wr => s.size - wr.iterPos w.heap.size)
 case atStart => exact ⟨0, rfl, rfl, Nat.zero_le _, hv.out⟩
 case round =>
  obtain ⟨pos, rfl, rfl, hp0, hinv⟩ := hrel
  have HI := hide hinv
  clear hinv
  by_cases hp : pos < s.size
  ·have hnx : ∀ ty, (Instr.next (.pointer (some ⟨w.heap.size, 0, none⟩)) true ty).run Tryz.prog (w.iter s pos) = _ := fun ty => run_next_any w s pos ty hp
   have hwd := width_pos s pos hp
   have hle := (decode_pass s pos hp).1
   obtain ⟨dc, hdc⟩ : ∃ dc, Utf8.decode s pos = dc := ⟨_, rfl⟩
   have HB : Hid (((dc.1 : Int) == 0 || (dc.1 : Int) == 47) = true → (s.toList.drop pos).any bad = true) := by rw [← hdc]; exact letter_bad hp
   have HG : Hid (((dc.1 : Int) == 0 || (dc.1 : Int) == 47) = false → (s.toList.drop pos).any bad = (s.toList.drop (pos + dc.2)).any bad) := by rw [← hdc]; exact letter_good hp
   simp only [hdc] at hnx hwd hle
   clear hdc
   go_wp2
   ·have e : dc.1 = 0 := by assumption
    go_ret
    refine ⟨ret_int ?_, (Below.refl _ _).alloc (Nat.le_refl _) _⟩
    rw [HI.out, if_pos (HB.out (by rw [e]; rfl))]
   ·have e : ((dc.1 : Int) == 0) = true ∨ ((dc.1 : Int) == 47) = true := by assumption
    go_ret
    refine ⟨ret_int ?_, (Below.refl _ _).alloc (Nat.le_refl _) _⟩
    rw [HI.out, if_pos (HB.out (by simpa using e))]
   ·have e : ((dc.1 : Int) == 0) = false ∧ ((dc.1 : Int) == 47) = false := by assumption
    go_roundw
    case rel =>
     refine ⟨pos + dc.2, rfl, rfl, hle, ?_⟩
     rw [HI.out, HG.out (by rw [e.1, e.2]; rfl)]
    case measure =>
     simp
     omega
  ·have hnx : ∀ ty, (Instr.next (.pointer (some ⟨w.heap.size, 0, none⟩)) true ty).run Tryz.prog (w.iter s pos) = _ := fun ty => run_next_end w s pos ty hp
   go_wp2
   go_ret
   refine ⟨ret_int ?_, (Below.refl _ _).alloc (Nat.le_refl _) _⟩
   rw [HI.out, drop_end hp]; rfl
set_option maxRecDepth 100000 in
theorem Valid_any (s : ByteArray) (w : World) : Calls Tryz.prog 74 #[.string s] w fun e w' => e = .returned (.int .i64 (valid s.toList)) ∧ Below w.heap.size w w' := by
 have HS := hide (toList_length s)
 by_cases hl : (255 : Int) < s.size
 ·have kl : decide ((255 : Int) < s.size) = true := by simpa using hl
  go_enter Tryz.func74, Tryz.ntmps74
  go_wp2
  go_ret
  exact ⟨ret_int (valid_long (by rw [HS.out]; omega)).symm, Below.refl _ _⟩
 ·have kl : decide ((255 : Int) < s.size) = false := by simpa using hl
  by_cases h0 : s.toList = [] ∨ s.toList = [46] ∨ s.toList = [46, 46]
  ·have H := hide (valid_name (l := s.toList) (by rw [HS.out]; omega) h0)
   have e : s = ⟨#[]⟩ ∨ s = ⟨#[46]⟩ ∨ s = ⟨#[46, 46]⟩ := by
    rcases h0 with h | h | h
    ·exact .inl (toList_inj (by rw [h]; exact (toList_mk []).symm))
    ·exact .inr (.inl (toList_inj (by rw [h]; exact (toList_mk [46]).symm)))
    ·exact .inr (.inr (toList_inj (by rw [h]; exact (toList_mk [46, 46]).symm)))
   clear h0 H
   rcases e with rfl | rfl | rfl
   all_goals
    go_enter Tryz.func74, Tryz.ntmps74
    go_wp2
    go_ret
    exact ⟨ret_int (by decide), Below.refl _ _⟩
  ·simp only [not_or] at h0
   exact Valid_good s w hl h0.1 h0.2.1 h0.2.2
end Go.Proofs.YtbmeapehgajbkaaGreat

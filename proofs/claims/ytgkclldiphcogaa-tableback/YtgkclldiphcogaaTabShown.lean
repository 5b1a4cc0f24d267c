/- Layer 11: the document's examples. -/
import Derived.Test.YtgkclldiphcogaaTabXat
import Derived.Lib.SlBytesConst
namespace Go.Proofs.Ytgkclldiphcogaa
set_option linter.unusedVariables false
open Go.RowKit Go.Maps
open Nam Tre Tab
open Lz (g)
open Cur

namespace Tab
theorem put_shown : putN 2 [5, 258] = ([5, 0, 2, 1], 0) := by decide
theorem xs_shown : putX [((⟨#[97]⟩ : ByteArray), [98])] = ([1, 1, 97, 1, 98], 0) := by
  have h : xsOk [((⟨#[97]⟩ : ByteArray), [98])] = true := by
    unfold xsOk xs1 xs1
    simp only [show (⟨#[97]⟩ : ByteArray).toList = [97] from toList_mk [97]]
    decide
  unfold putX
  rw [if_pos ⟨by simp, h⟩]
  rfl
end Tab
set_option maxRecDepth 100000 in
set_option maxHeartbeats 1000000 in
theorem shown_any (w : World) : Calls Try.prog 8 #[] w fun e w' => e = .returned (.bool true) ∧ Below w.heap.size w w' := by
  obtain ⟨w1, hw1⟩ : ∃ w1, w1 = w.alloc (.cells #[.int .i64 5, .int .i64 258] 3) := ⟨_, rfl⟩
  have b1 : Below w.heap.size w w1 := by rw [hw1]; exact below_one _ _
  have hZ : Zs w1 (some ⟨w.heap.size, 0, none⟩) 2 [5, 258] := by
    refine ⟨rfl, .inr ⟨w.heap.size, 0, rfl, by rw [hw1]; simp, fun i hi => ?_⟩⟩
    rw [hw1]
    match i, hi with
    | 0, _ => simp [g]
    | 1, _ => simp [g]
  have HP := hide (PutNums_any _ 2 2 _ 2 w1 hZ (by omega) (fun x hx => by simp at hx; rcases hx with rfl | rfl <;> (constructor <;> omega)) (by constructor <;> omega))
  rw [put_shown] at HP
  have HW1 := hide hw1
  have HB1 := hide b1
  clear hw1 b1 hZ
  go_enter Try.func8, Try.ntmps8
  go_wp2_with fail
  rw [← HW1.out]
  refine HP.out.mono ?_
  rintro r w2 ⟨ao, c, rfl, hN⟩
  have HN := hide hN
  have HB2 := hide (HB1.out.trans (hN.bel.mono HB1.out.size))
  clear hN HP HW1 HB1
  obtain ⟨w3, hw3⟩ : ∃ w3, w3 = w2.alloc (.cells #[.int .u8 98] 5 (1, 2)) := ⟨_, rfl⟩
  have b3 : Below w2.heap.size w2 w3 := by rw [hw3]; exact below_one _ _
  have hB3 : Bs w3 (some ⟨w2.heap.size, 0, none⟩) 1 [98] := by
    refine ⟨rfl, fun i => ?_, .inr ⟨w2.heap.size, 0, rfl, by rw [hw3]; simp, fun i hi => ?_⟩⟩
    · match i with
      | 0 => simp [g]
      | i + 1 => simp [g]
    · simp at hi
      subst hi
      rw [hw3, cell_of_row _ w2.heap.size _ _ _ _ (heap_alloc_new w2 _)]
      simp [g]
  have hcv : (convert 29 29 (.slice (some ⟨w2.heap.size, 0, none⟩) 1 1)).run Try.prog (w2.alloc (.cells #[.int .u8 98] 5)) = .ok (.slice (some ⟨w2.heap.size, 0, none⟩) 1 1) (w2.alloc (.cells #[.int .u8 98] 5 (1, 2))) :=
    Lib.run_convert_bytes_const (P := Try.prog) w2 29 5 #[.int .u8 98] 1 1 Try.underlying29 Try.underlying5
  obtain ⟨w4, hw4⟩ : ∃ w4, w4 = w3.alloc (.cells #[.string ⟨#[97]⟩, .slice (some ⟨w2.heap.size, 0, none⟩) 1 1] 69) := ⟨_, rfl⟩
  have b4 : Below w3.heap.size w3 w4 := by rw [hw4]; exact below_one _ _
  have hX : XsR w4 (some ⟨w3.heap.size, 0, none⟩) 1 [((⟨#[97]⟩ : ByteArray), [98])] := by
    refine ⟨rfl, .inr ⟨w3.heap.size, 0, rfl, by rw [hw4]; simp, fun i hi => ?_⟩⟩
    obtain rfl : i = 0 := by omega
    refine ⟨by rw [hw4]; simp [gx], some ⟨w2.heap.size, 0, none⟩, 1, 1, by rw [hw4]; simp, hB3.below b4, Nat.le_refl _, by omega, (fun h => by cases h), by show (1 : Nat) ≤ _; omega⟩
  have HP := hide (PutXattrs_any _ 1 1 _ w4 hX (by omega) (by omega) (fun h => by cases h))
  rw [xs_shown] at HP
  have HB4 := hide (HB2.out.trans (((b3.trans (b4.mono b3.size))).mono HB2.out.size))
  have HS4 := hide (HN.out.bs.below (b3.trans (b4.mono b3.size)))
  have hsz : w3.heap.size = w2.heap.size + 1 := by rw [hw3]; simp
  have HW4 : Hid (w4 = (w2.alloc (.cells #[.int .u8 98] 5 (1, 2))).alloc (.cells #[.string ⟨#[97]⟩, .slice (some ⟨w2.heap.size, 0, none⟩) 1 1] 69)) := by show _ = _; rw [hw4, hw3]
  rw [hsz] at HP
  clear b3 hB3 b4 hX HN HB2 hw3 hw4 hsz
  simp only [List.length_cons, List.length_nil] at HS4 ⊢
  go_wp2_with fail
  rw [← HW4.out]
  refine HP.out.mono ?_
  rintro r w5 ⟨ao2, c2, rfl, hN⟩
  have s1 := str_any (HS4.out.below hN.bel) c
  have s2 := str_any hN.bs c2
  have e1 : strOfNums [5, 0, 2, 1] = ⟨#[5, 0, 2, 1]⟩ := rfl
  have e2 : strOfNums [1, 1, 97, 1, 98] = ⟨#[1, 1, 97, 1, 98]⟩ := rfl
  rw [e1] at s1
  rw [e2] at s2
  have HB5 := hide (HB4.out.trans (hN.bel.mono HB4.out.size))
  clear hN HW4 HP hcv e1 e2
  simp only [List.length_cons, List.length_nil] at s1 s2 ⊢
  go_wp2
  go_ret
  exact ⟨rfl, HB5.out⟩
end Go.Proofs.Ytgkclldiphcogaa

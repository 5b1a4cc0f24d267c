/- The document's examples hold: what stands at the head of each statement of layer 4; few; a table of the call's own. -/
import Derived.Test.YtklfhamldigjbaaFrmTake
namespace Go.Proofs.Ytklfhamldigjbaa
set_option linter.unusedVariables false
open Go.RowKit Go.Maps
open Lz (g pack unpack)
open Crc (ent more)
open Cur
open Frm

set_option maxRecDepth 100000 in
theorem few_any (a : Option Addr) (len cap m : Nat) (w : World) (hlc : len ≤ cap) (hm : m ≤ 1000) : Calls Try.prog 10 #[.slice a len cap, .int .i64 m] w fun r w' => r = .returned (.slice a (min len m) cap) ∧ w' = w := by
  by_cases h : m < len
  · have e : min len m = m := by omega
    rw [e]
    clear e
    go_enter Try.func10, Try.ntmps10
    go_wp2
    go_ret
    exact ⟨rfl, rfl⟩
  · have e : min len m = len := by omega
    rw [e]
    clear e
    go_enter Try.func10, Try.ntmps10
    go_wp2
    go_ret
    exact ⟨rfl, rfl⟩
theorem put_ab : put ent [97, 98] = [2, 128, 125, 109, 72, 131, 158, 97, 98] := by decide +kernel
theorem take_ab0 : take ent [2, 128, 125, 109, 72, 131, 158, 97, 98] 0 = ([97, 98], 9, 0) := by decide +kernel
theorem take_ab1 : take ent [2, 128, 125, 109, 72, 131, 158, 97, 98] 1 = ([], 0, 2) := by decide +kernel

set_option maxRecDepth 100000 in
set_option maxHeartbeats 4000000 in
theorem shown_any (w : World) : Calls Try.prog 9 #[] w fun r w' => r = .returned (.bool true) ∧ Below w.heap.size w w' := by
  have kc := fun (w : World) (C : Array Value) (n c : Nat) => Lib.run_convert_bytes_const (P := Try.prog) w 22 5 C n c Try.underlying22 Try.underlying5
  obtain ⟨hz, hi'⟩ := zero_of_info infoTable
  have hb1 : Bytes [97, 98] := fun x hx => by simp at hx; omega
  go_enter Try.func9, Try.ntmps9
  go_wp2_with fail
  refine (New_any w).mono ?_
  rintro r w1 ⟨rfl, hbel⟩
  obtain ⟨C, hC⟩ : ∃ C, C = tab ent := ⟨_, rfl⟩
  rw [← hC]
  have HC : Hid (C = tab ent) := hC
  clear hC
  go_wp2_with (refine wpList_store_table rfl _ _ rfl ent C HC.out rfl rfl _ (by simp) ?_; intro w2 ht2 hT2 hlt2 hb2')
  have HB2 : Hid (Below w.heap.size w w2) := hbel.trans (hb2'.mono hbel.size)
  have HT2 : Hid (Tb w2 w1.heap.size ent) := hT2
  clear ht2 hT2 hb2' hbel HC
  refine (Put_any w1.heap.size 0 0 ent none [] w2 HT2.out hlt2 small_ent ⟨rfl, fun i => by simp [g], .inl rfl⟩ (by omega) (fun _ => rfl) (by omega)).mono ?_
  rintro r w3 (⟨h, _⟩ | ⟨_, ao3, c3, rfl, hN3⟩)
  · simp at h
  rw [put_nil] at hN3
  rw [put_nil]
  have HN3 : Hid (New w2 w3 ao3 3 c3 [0, 0, 255]) := hN3
  have HT3 : Hid (Tb w3 w1.heap.size ent) := HT2.out.below hN3.bel hlt2
  have hlt3 : w1.heap.size < w3.heap.size := Nat.lt_of_lt_of_le hlt2 hN3.bel.size
  have HB3 : Hid (Below w.heap.size w w3) := HB2.out.trans (hN3.bel.mono HB2.out.size)
  clear hN3
  simp only [List.length_cons, List.length_nil, Nat.zero_add, Nat.reduceAdd]
  obtain ⟨o4, ho4⟩ : ∃ o4, o4 = Obj.cells #[.int .u8 97, .int .u8 98] 5 (2, 3) := ⟨_, rfl⟩
  have hN4 : Bs (w3.alloc o4) (some ⟨w3.heap.size, 0, none⟩) 2 [97, 98] := by rw [ho4]; exact bs_new w3 (2, 3) _ hb1
  have HO4 : Hid (o4 = _) := ho4
  have HN4 : Hid (Bs (w3.alloc o4) (some ⟨w3.heap.size, 0, none⟩) 2 [97, 98]) := hN4
  have hbw : Below w3.heap.size w3 (w3.alloc o4) := (Below.refl _ _).alloc (Nat.le_refl _) _
  have HBW : Hid (Below w3.heap.size w3 (w3.alloc o4)) := hbw
  clear hN4 hbw ho4 hb1
  go_wp2_with fail
  rw [← HO4.out]
  refine (Put_any w1.heap.size 2 2 ent _ [97, 98] _ (HT3.out.below HBW.out hlt3) (Nat.lt_of_lt_of_le hlt3 HBW.out.size) small_ent HN4.out (by omega) (fun h => by simp at h) (by omega)).mono ?_
  rintro r w5 (⟨h, _⟩ | ⟨_, ao5, c5, rfl, hN5⟩)
  · simp at h
  rw [put_ab] at hN5
  rw [put_ab]
  have HN5 : Hid (New w3 w5 ao5 9 c5 [2, 128, 125, 109, 72, 131, 158, 97, 98]) := hN5.from HBW.out
  have HT5 : Hid (Tb w5 w1.heap.size ent) := HT3.out.below HN5.out.bel hlt3
  have hlt5 : w1.heap.size < w5.heap.size := Nat.lt_of_lt_of_le hlt3 HN5.out.bel.size
  have hc5 : 9 ≤ c5 := HN5.out.cap
  have hm5 : c5 ≤ 9223372036854775807 := HN5.out.max
  clear hN5
  simp only [List.length_cons, List.length_nil, Nat.zero_add, Nat.reduceAdd]
  go_wp2_with fail
  refine (Take_any w1.heap.size 9 c5 0 ent ao5 _ w5 HT5.out hlt5 small_ent HN5.out.bs hc5 HN5.out.nil (by omega) hm5 (by omega)).mono ?_
  rintro r w6 ⟨ao6, c6, rfl, hF6⟩
  rw [take_ab0] at hF6
  rw [take_ab0]
  have HF6 : Hid (Fresh w5 w6 ao6 2 c6 [97, 98]) := hF6
  have HT6 : Hid (Tb w6 w1.heap.size ent) := HT5.out.below hF6.bel hlt5
  have hlt6 : w1.heap.size < w6.heap.size := Nat.lt_of_lt_of_le hlt5 hF6.bel.size
  clear hF6
  simp only [List.length_cons, List.length_nil, Nat.zero_add, Nat.reduceAdd]
  go_wp2_with fail
  refine (Take_any w1.heap.size 9 c5 1 ent ao5 _ w6 HT6.out hlt6 small_ent (HN5.out.bs.below HF6.out.bel) hc5 HN5.out.nil (by omega) hm5 (by omega)).mono ?_
  rintro r w7 ⟨ao7, c7, rfl, hF7⟩
  rw [take_ab1] at hF7
  rw [take_ab1]
  have hB67 : Below w6.heap.size w6 w7 := hF7.bel
  have hB57 : Below w5.heap.size w5 w7 := HF6.out.bel.trans (hB67.mono HF6.out.bel.size)
  have s1 := str_any ((HN3.out.on HN5.out.bel).on hB57).bs c3
  have s2 := str_any ((HN5.out.on hB57).bs.take 3 (by omega)) c5
  have s3 := str_any (HF6.out.on hB67).bs c6
  rw [show strOfNums [0, 0, 255] = ⟨#[0, 0, 255]⟩ by decide] at s1
  rw [show strOfNums (List.take 3 [2, 128, 125, 109, 72, 131, 158, 97, 98]) = ⟨#[2, 128, 125]⟩ by decide] at s2
  rw [show strOfNums [97, 98] = ⟨#[97, 98]⟩ by decide] at s3
  have HB7 : Hid (Below w.heap.size w w7) := by
    have e1 := HB3.out.trans (HN5.out.bel.mono HB3.out.size)
    exact e1.trans (hB57.mono e1.size)
  clear hF7 hB67 hB57
  go_wp2
  go_ret
  exact ⟨rfl, HB7.out⟩
end Go.Proofs.Ytklfhamldigjbaa

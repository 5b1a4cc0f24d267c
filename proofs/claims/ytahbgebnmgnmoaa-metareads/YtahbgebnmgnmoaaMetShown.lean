/- The document's example, at the head of all statements of layer 5; and the rows that they cut. -/
import Derived.Test.YtahbgebnmgnmoaaMetRead
import Derived.Test.YtahbgebnmgnmoaaMats
namespace Go.Proofs.Ytahbgebnmgnmoaa
set_option linter.unusedVariables false
open Go.RowKit Go.Maps
open Lz (g)
open Crc (ent)
open Frm Mtr

theorem abcde_len : (done ent [97, 98, 99, 100, 101]).length ≤ 135 := done_length ent _
theorem abcde_bytes : Bytes [97, 98, 99, 100, 101] := fun x hx => by simp at hx; omega
theorem abcde_13 : rd ent (done ent [97, 98, 99, 100, 101]) 1 3 = some ([98, 99, 100], 4) := rd_row small_ent [97, 98, 99, 100, 101] 3 1 3 (by omega) (by decide)
theorem abcde_42 : rd ent (done ent [97, 98, 99, 100, 101]) 4 2 = none := by decide +kernel

set_option maxRecDepth 100000 in
set_option maxHeartbeats 4000000 in
theorem mShown_any (w : World) : Calls Try.prog 8 #[] w fun r w' => r = .returned (.bool true) ∧ Below w.heap.size w w' := by
  have kc := fun (w : World) (C : Array Value) (n c : Nat) => Lib.run_convert_bytes_const (P := Try.prog) w 33 5 C n c Try.underlying33 Try.underlying5
  obtain ⟨hz, hi'⟩ := zero_of_info infoTable
  have hb1 : Bytes [97, 98, 99] := fun x hx => by simp at hx; omega
  have hb2 : Bytes [100, 101] := fun x hx => by simp at hx; omega
  go_enter Try.func8, Try.ntmps8
  go_wp2_with fail
  refine (New_any w).mono ?_
  rintro r w1 ⟨rfl, hbel⟩
  obtain ⟨C, hC⟩ : ∃ C, C = tab ent := ⟨_, rfl⟩
  rw [← hC]
  have HC : Hid (C = tab ent) := hC
  clear hC
  go_wp2_with (refine wpList_store_table rfl _ _ rfl ent C HC.out rfl rfl _ (by simp) ?_; intro w2 ht2 hT2 hlt2 hb2')
  have HB2 : Hid (Below w.heap.size w w2) := hbel.trans (hb2'.mono hbel.size)
  have HT2 : Hid (Tb w2 w1.heap.size ent) := hT2
  clear ht2 hT2 hb2' hbel HC
  refine (metaNew_any w1.heap.size w2).mono ?_
  rintro r w3 ⟨rfl, hW3, hb3, hs3⟩
  have hB3 : Below w.heap.size w w3 := HB2.out.trans (hb3.mono HB2.out.size)
  have HB3 := hide hB3
  have HW3 : Hid (WrM w3 w2.heap.size (fun k => k = w2.heap.size) w1.heap.size (fr ent [] (([] : List Int).length / 128)) (rest [])) := hW3
  have HT3 := hide (HT2.out.below hb3 hlt2)
  have hw2 := HB2.out.size
  have hs3' : w2.heap.size < w3.heap.size := by omega
  clear hW3 hb3 hB3 HT2 HB2 hs3
  obtain ⟨o4, ho4⟩ : ∃ o4, o4 = Obj.cells #[.int .u8 97, .int .u8 98, .int .u8 99] 5 (3, 4) := ⟨_, rfl⟩
  have hN4 : Bs (w3.alloc o4) (some ⟨w3.heap.size, 0, none⟩) 3 [97, 98, 99] := by rw [ho4]; exact bs_new w3 (3, 4) _ hb1
  have hb34 : Below w3.heap.size w3 (w3.alloc o4) := (Below.refl _ _).alloc (Nat.le_refl _) _
  have HK := hide (Add_any w2.heap.size w1.heap.size 3 3 _ _ ent [] [97, 98, 99] (w3.alloc o4) (HW3.out.below hb34) (HT3.out.below hb34 (by omega)) (by simp; omega) (by omega) small_ent hN4 (fun h => by simp at h) (by simp) (by omega))
  have HO4 : Hid (o4 = _) := ho4
  have HB34 := hide hb34
  clear hN4 hb34 ho4 hb1
  go_wp2_with fail
  rw [← HO4.out]
  refine HK.out.mono ?_
  rintro r w5 ⟨rfl, O5, hW5, hF5, hG5⟩
  have hB5 : Below w.heap.size w w5 := (HB3.out.trans (HB34.out.mono HB3.out.size)).trans (hF5.below w.heap.size (Nat.le_trans HB3.out.size HB34.out.size) (fun k hk => by omega))
  have hp5 : ∀ k, O5 k → k = w2.heap.size ∨ w3.heap.size ≤ k := fun k hk => by
    rcases hG5 k hk with h | h
    · exact .inl h
    · exact .inr (Nat.le_trans HB34.out.size h)
  have hs35 : w3.heap.size ≤ w5.heap.size := Nat.le_trans HB34.out.size hF5.size
  have HT5 : Hid (Tb w5 w1.heap.size ent) := (HT3.out.below HB34.out (by omega)).fr hF5 (Nat.lt_of_lt_of_le (by omega) HB34.out.size) (by omega)
  have HW5 : Hid (WrM w5 w2.heap.size O5 w1.heap.size (fr ent [97, 98, 99] (([97, 98, 99] : List Int).length / 128)) (rest [97, 98, 99])) := hW5
  have HB5 := hide hB5
  have HP5 := hide hp5
  have e0 : rf ent [] (([] : List Int).length) = 0 := rfl
  rw [e0]
  clear hW5 hF5 hG5 hB5 hp5 HW3 HT3 HB3 HB34 HO4 HK e0
  obtain ⟨o6, ho6⟩ : ∃ o6, o6 = Obj.cells #[.int .u8 100, .int .u8 101] 5 (2, 3) := ⟨_, rfl⟩
  have hN6 : Bs (w5.alloc o6) (some ⟨w5.heap.size, 0, none⟩) 2 [100, 101] := by rw [ho6]; exact bs_new w5 (2, 3) _ hb2
  have hb56 : Below w5.heap.size w5 (w5.alloc o6) := (Below.refl _ _).alloc (Nat.le_refl _) _
  have HK := hide (Add_any w2.heap.size w1.heap.size 2 2 O5 _ ent [97, 98, 99] [100, 101] (w5.alloc o6) (HW5.out.below hb56) (HT5.out.below hb56 (by omega)) (by simp; omega) (fun hx => by have := HP5.out _ hx; omega) small_ent hN6 (fun h => by simp at h) (by simp) (by omega))
  have HO6 : Hid (o6 = _) := ho6
  have HB56 := hide hb56
  clear hN6 hb56 ho6 hb2
  go_wp2_with fail
  rw [← HO6.out]
  refine HK.out.mono ?_
  rintro r w7 ⟨rfl, O7, hW7, hF7, hG7⟩
  have hB7 : Below w.heap.size w w7 := (HB5.out.trans (HB56.out.mono HB5.out.size)).trans (hF7.below w.heap.size (Nat.le_trans HB5.out.size HB56.out.size) (fun k hk => by have := HP5.out k hk; omega))
  have HT7 : Hid (Tb w7 w1.heap.size ent) := (HT5.out.below HB56.out (by omega)).fr hF7 (Nat.lt_of_lt_of_le (by omega) HB56.out.size) (fun hx => by have := HP5.out _ hx; omega)
  have HW7 : Hid (WrM w7 w2.heap.size O7 w1.heap.size (fr ent [97, 98, 99, 100, 101] (([97, 98, 99, 100, 101] : List Int).length / 128)) (rest [97, 98, 99, 100, 101])) := hW7
  have HB7 := hide hB7
  have hs57 : w5.heap.size ≤ w7.heap.size := Nat.le_trans HB56.out.size hF7.size
  have e3 : rf ent [97, 98, 99] (([97, 98, 99] : List Int).length) = 3 := rfl
  rw [e3]
  clear hW7 hF7 hG7 hB7 HW5 HT5 HB5 HP5 HB56 HO6 HK e3
  go_wp2_with fail
  refine (metaDone_any w2.heap.size w1.heap.size O7 ent [97, 98, 99, 100, 101] w7 HW7.out HT7.out (by omega) small_ent (by simp)).mono ?_
  rintro r w8 ⟨ao8, c8, rfl, hF8⟩
  have hX := abcde_len
  have HXb := hide (done_bytes ent abcde_bytes)
  have H13 := hide abcde_13
  have H42 := hide abcde_42
  generalize done ent [97, 98, 99, 100, 101] = X at *
  obtain ⟨m, hm⟩ : ∃ m, X.length = m := ⟨_, rfl⟩
  rw [hm] at hF8 hX
  rw [hm]
  have HF8 := hide hF8
  have hc8 := hF8.cap
  have hm8 := hF8.max
  have HT8 := hide (HT7.out.below hF8.bel (by omega))
  have hs78 := hF8.bel.size
  have hB8 := HB7.out.trans (hF8.bel.mono HB7.out.size)
  have HB8 := hide hB8
  have hmm : (m : Int) ≤ 9223372036854775807 := by omega
  have HX1 : Hid ((X.take ((m : Int).toNat)).drop ((0 : Int).toNat) = X) := by
    show _ = _
    simp [← hm]
  have HM := hide hm
  clear hF8 HW7 HT7 HB7 hB8 hm
  go_wp2_with fail
  refine (Open_any w1.heap.size m c8 ao8 X ent w8 0 m HF8.out.bs hc8 hm8 HF8.out.nil (by omega) (by omega) (by omega) (by omega)).mono ?_
  rintro r w9 ⟨q, rfl, hR9, hb9⟩
  rw [HX1.out] at hR9
  have HR9 := hide hR9
  have HT9 := hide (HT8.out.below hb9 (by omega))
  have hs9 := hb9.size
  have HB9 := hide (HB8.out.trans (hb9.mono HB8.out.size))
  clear hR9 hb9 HX1 HT8 HB8
  go_wp2_with fail
  refine (mRead_any q w1.heap.size 0 _ ent X 1 3 w9 HR9.out HT9.out (by omega) (by omega) small_ent HXb.out (by omega) (by rw [HM.out]; omega) (by omega) (by omega)).mono ?_
  rintro r w10 ⟨O10, hR10, hF10, hG10, ⟨hp, _⟩ | ⟨z, nx, ao, c, hp, rfl, hBz, hcz, hmz, hnz, hoz⟩⟩
  · rw [H13.out] at hp; simp at hp
  obtain ⟨rfl, rfl⟩ : z = [98, 99, 100] ∧ nx = 4 := by rw [H13.out] at hp; simpa [eq_comm] using hp
  have HR10 := hide hR10
  have HT10 : Hid (Tb w10 w1.heap.size ent) := HT9.out.fr hF10 (by omega) (by omega)
  have hs10 := hF10.size
  have HO10 : Hid (∀ k, O10 k → w8.heap.size ≤ k) := fun k hk => by
    rcases hG10 k hk with h | h
    · exact h.1
    · omega
  have hw8 : w.heap.size ≤ w8.heap.size := by omega
  have HB10 : Hid (Below w.heap.size w w10) := HB9.out.trans (hF10.below w.heap.size HB9.out.size (fun k hk => by have := hk.1; omega))
  have HBz := hide hBz
  have HOz := hide hoz
  clear hR10 hF10 hG10 hp hBz hoz HR9 HT9 HB9
  go_wp2_with fail
  refine (mRead_any q w1.heap.size 3 O10 ent X 4 2 w10 HR10.out HT10.out (by omega) (fun hx => by have := HO10.out _ hx; omega) small_ent HXb.out (by omega) (by rw [HM.out]; omega) (by omega) (by omega)).mono ?_
  rintro r w11 ⟨O11, hR11, hF11, hG11, ⟨_, rfl⟩ | ⟨z', nx', ao', c', hp', _⟩⟩
  · have hB11 : Below w.heap.size w w11 := HB10.out.trans (hF11.below w.heap.size HB10.out.size (fun k hk => by have := HO10.out k hk; omega))
    have s1 := str_any (HBz.out.fr hF11 (fun a ha _ hx => (HOz.out a ha).2 hx)) c
    rw [show strOfNums [98, 99, 100] = ⟨#[98, 99, 100]⟩ by decide] at s1
    have HB11 := hide hB11
    clear hR11 hF11 hG11 hB11
    go_wp2
    go_ret
    exact ⟨rfl, HB11.out⟩
  · rw [H42.out] at hp'; simp at hp'
end Go.Proofs.Ytahbgebnmgnmoaa

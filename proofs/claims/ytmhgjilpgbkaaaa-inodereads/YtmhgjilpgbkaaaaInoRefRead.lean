/- Layer 9: Read, by the document's answer. -/
import Derived.Test.YtmhgjilpgbkaaaaInoRefTake
import Derived.Test.YtmhgjilpgbkaaaaInoRead
import Derived.Test.YtmhgjilpgbkaaaaMetRefNx
namespace Go.Proofs.Ytmhgjilpgbkaaaa
set_option linter.unusedVariables false
open Go.RowKit Go.Maps
open Lz (g)
open Crc (ent)
open Cur
open Ino
open Mtr (rd)

namespace Ino
theorem good_nil : good [] = false := by
  cases h : good []
  case false => rfl
  case true =>
    obtain ⟨h1, h2⟩ := (good_iff Bytes.nil).1 h
    have := (putB_least h1).1
    rw [h2] at this
    simp at this
theorem long_zero {h : List Int} (hk : isKind (g h 0) = false) : long h = 0 := by
  unfold isKind at hk
  simp only [decide_eq_false_iff_not, not_or] at hk
  unfold long
  rw [if_neg hk.1, if_neg hk.2.1, if_neg hk.2.2]
/-- One word for both ways: a kind that is none asks for no bytes, which are no record. -/
theorem readA_both {X h b : List Int} {ref nx n2 : Int} (h1 : rdA X ref 14 = some (h, nx)) (h3 : rdA X ref (long h) = some (b, n2)) (hl : b.length = long h) : readA X ref = if good b = true then (readR b, n2, 0) else (zr, 0, 2) := by
  cases hk : isKind (g h 0)
  case true => exact readA_some h1 hk h3
  case false =>
    rw [readA_kind h1 hk]
    rw [long_zero hk] at hl
    rw [List.eq_nil_of_length_eq_zero hl, good_nil]
    rfl
theorem readA_both_not {X h : List Int} {ref nx : Int} (h1 : rdA X ref 14 = some (h, nx)) (h3 : rdA X ref (long h) = none) : readA X ref = (zr, 0, 2) := by
  cases hk : isKind (g h 0)
  case true => exact readA_not h1 hk h3
  case false => exact readA_kind h1 hk
end Ino
theorem yRead_at (y n0 c0 : Nat) (X : List Int) (ao0 : Option Addr) (ref : Int) (n : Nat) (m : Int) (hm : m = (n : Int)) (w : World) (h : RdY w y X 0 n0 ao0 n0 c0) (hr : -9223372036854775808 ≤ ref ∧ ref ≤ 9223372036854775807) (hn : n ≤ 1000) :
    Calls Try.prog 39 #[.pointer (some ⟨y, 0, none⟩), .int .i64 ref, .int .i64 m] w fun r w' => Below w.heap.size w w' ∧ RdAns X ref n (fun k => w.heap.size ≤ k) w' r := by
  subst hm
  have hl := h.bs.1
  by_cases h1 : ref < 0
  · refine (yReadNeg_any y ref n w hr (by omega) (.inl h1)).mono ?_
    rintro r w' ⟨rfl, rfl⟩
    exact ⟨Below.refl _ _, .inl ⟨by unfold rdA; rw [if_pos h1], 1, by omega, rfl⟩⟩
  · obtain ⟨k, rfl⟩ : ∃ k : Nat, ref = k := ⟨ref.toNat, by omega⟩
    have e : (X.take n0).drop 0 = X := by rw [List.drop_zero, List.take_of_length_le (by omega)]
    refine (yRead_any y n0 c0 0 n0 X ao0 k n w h (by omega) (by omega) (by omega) (by omega)).mono ?_
    rw [e]
    rintro r w' ⟨hb, ⟨h3, rfl⟩ | ⟨z, nx, ao, c, h3, rfl, hB, hf, k1, k2, k3⟩⟩
    · exact ⟨hb, .inl ⟨by unfold rdA; rw [if_neg h1, h3], 2, by omega, rfl⟩⟩
    · exact ⟨hb, .inr ⟨z, nx, ao, c, by unfold rdA; rw [if_neg h1, h3], rfl, hB, k1, k2, k3, hf⟩⟩
theorem refLong_any (b off c : Nat) (zs : List Int) (w : World) (hz : zs.length = 14) (hby : ∀ i, 0 ≤ g zs i ∧ g zs i ≤ 255) (hs : Seg w b off zs) :
    Calls Try.prog 40 #[.slice (some ⟨b, off, none⟩) 14 c] w fun e w' => e = .returned (.int .i64 (long zs)) ∧ w' = w := by
  have h0 := hby 0
  have h13 := hby 13
  have c0 := hs 0 (by omega)
  have c13 := hs 13 (by omega)
  rw [Nat.add_zero] at c0
  obtain ⟨x, hx⟩ : ∃ x : Nat, g zs 13 = (x : Int) := ⟨(g zs 13).toNat, by omega⟩
  rw [hx] at c13 h13
  obtain ⟨k, hk⟩ : ∃ k, k = g zs 0 := ⟨_, rfl⟩
  have e : long zs = if k = 1 then 21 else if k = 2 then 22 else if k = 3 then 14 + x else 0 := by rw [hk]; unfold long; rw [hx]; rfl
  rw [← hk] at c0 h0
  rw [e]
  clear hs hby e hx hz hk
  by_cases k1 : k = 1
  · subst k1
    go_enter Try.func40, Try.ntmps40
    go_wp2
    go_ret
    exact ⟨rfl, rfl⟩
  · by_cases k2 : k = 2
    · subst k2
      go_enter Try.func40, Try.ntmps40
      go_wp2
      go_ret
      exact ⟨rfl, rfl⟩
    · by_cases k3 : k = 3
      · subst k3
        go_enter Try.func40, Try.ntmps40
        go_wp2
        go_ret
        exact ⟨by simp, rfl⟩
      · rw [if_neg k1, if_neg k2, if_neg k3]
        have d1 : (k == 1) = false := by simpa using k1
        have d2 : (k == 2) = false := by simpa using k2
        have d3 : (k == 3) = false := by simpa using k3
        clear k1 k2 k3
        go_enter Try.func40, Try.ntmps40
        go_wp2
        go_ret
        exact ⟨rfl, rfl⟩
set_option maxRecDepth 100000 in
set_option maxHeartbeats 4000000 in
theorem refIRead_any (y n0 c0 : Nat) (X : List Int) (ao0 : Option Addr) (ref : Int) (w : World) (h : RdY w y X 0 n0 ao0 n0 c0) (hr : -9223372036854775808 ≤ ref ∧ ref ≤ 9223372036854775807) :
    Calls Try.prog 19 #[.pointer (some ⟨y, 0, none⟩), .int .i64 ref] w fun e w' => e = .returned (.tuple #[.agg (iv (readA X ref).1), .int .i64 (readA X ref).2.1, .int .i64 (readA X ref).2.2]) ∧ Below w.heap.size w w' := by
  obtain ⟨w0, hw0⟩ : ∃ w0, w0 = w.alloc (.cells (iv zr) 23) := ⟨_, rfl⟩
  have b0 : Below w.heap.size w w0 := by rw [hw0]; exact below_one _ _
  have h0 : w0.heap[w.heap.size]? = some (.cells (iv zr) 23 (0, 0)) := by rw [hw0]; exact heap_new rfl
  have HW0 := hide hw0
  have HM := hide (fun (wY : World) (hb : Below w.heap.size w wY) (n : Nat) (m : Int) (hm : m = (n : Int)) (hn : n ≤ 1000) => yRead_at y n0 c0 X ao0 ref n m hm wY (h.below hb) hr hn)
  have HR0 : Hid (∀ wY, Below w0.heap.size w0 wY → wY.heap[w.heap.size]? = some (.cells (iv zr) 23 (0, 0)) ∧ Below w.heap.size w wY) := fun wY hb => ⟨(hb.block _ (heap_lt h0)).trans h0, b0.trans (hb.mono b0.size)⟩
  have HB0 := hide b0
  have HBad : Hid (readA X ref = (zr, 0, 2) → Ending.returned (.tuple #[.agg (iv zr), .int .i64 0, .int .i64 2]) = .returned (.tuple #[.agg (iv (readA X ref).1), .int .i64 (readA X ref).2.1, .int .i64 (readA X ref).2.2])) := fun e => by rw [e]
  clear h hw0 b0 h0
  unfold iv zr at HW0
  simp only at HW0
  go_enter Try.func19, Try.ntmps19
  go_wp2_with fail
  rw [← HW0.out]
  refine (HM.out w0 HB0.out 14 14 rfl (by omega)).mono ?_
  rintro r w1 ⟨b1, hA⟩
  obtain ⟨h1, bw1⟩ := HR0.out w1 b1
  have HB1 := hide b1
  have HBw1 := hide bw1
  clear b1 bw1
  rcases hA with ⟨hn, ee, hee, rfl⟩ | ⟨hd, nx, ao, c, hn, rfl, hB, hc1, hc2, hc3, hf⟩
  · have he1 : (ee != 0) = true := by simpa using hee
    have HX := hide (HBad.out (readA_none hn))
    clear hn hee
    go_wp2_with (refine wpList_store_row rfl _ _ _ rfl w.heap.size (iv zr) rfl rfl 23 (iv zr) h1 infoRec rfl (iv_one _) ?_)
    refine bodyPost_ret (v := .tuple #[.agg (iv zr), .int .i64 0, .int .i64 2]) ?_ rfl ⟨HX.out, below_setRow HBw1.out (Nat.le_refl _) _⟩
    exact results_cr3 (p := 4) (u := 5) (v := 6) rfl _ _ w.heap.size (iv zr) rfl (load_rec (setRow_heap _ _ _ _ _ _ h1) rfl)
  · obtain ⟨hz, hby2, h00⟩ := id hB
    rcases h00 with h00 | ⟨bb, off, hao, hlt, hs⟩
    · omega
    subst hao
    have hll := long_le hby2
    have HLg := hide (refLong_any bb off c hd w1 hz hby2 hs)
    have HN1 := hide hn
    obtain ⟨m, hm⟩ : ∃ m, m = long hd := ⟨_, rfl⟩
    rw [← hm] at hll HLg
    have HMm := hide hm
    clear hs hby2 hz hB hf hn hm
    go_wp2_with fail
    refine HLg.out.mono ?_
    rintro r w2 ⟨rfl, hw2⟩
    obtain rfl := hw2
    go_wp2_with fail
    refine (HM.out w2 HBw1.out m m rfl (by omega)).mono ?_
    rintro r w5 ⟨b5, hA⟩
    have b05 : Below w0.heap.size w0 w5 := HB1.out.trans (b5.mono HB1.out.size)
    obtain ⟨h5, bw5⟩ := HR0.out w5 b05
    have HB5 := hide b05
    have HBw5 := hide bw5
    clear b5 b05 bw5
    rcases hA with ⟨hn, ee, hee, rfl⟩ | ⟨bz, nx2, ao2, c2, hn, rfl, hB2, hd1, hd2, hd3, hf2⟩
    · have he1 : (ee != 0) = true := by simpa using hee
      have HX := hide (HBad.out (readA_both_not HN1.out (by rw [← HMm.out]; exact hn)))
      clear hn hee
      go_wp2_with (refine wpList_store_row rfl _ _ _ rfl w.heap.size (iv zr) rfl rfl 23 (iv zr) h5 infoRec rfl (iv_one _) ?_)
      refine bodyPost_ret (v := .tuple #[.agg (iv zr), .int .i64 0, .int .i64 2]) ?_ rfl ⟨HX.out, below_setRow HBw5.out (Nat.le_refl _) _⟩
      exact results_cr3 (p := 4) (u := 5) (v := 6) rfl _ _ w.heap.size (iv zr) rfl (load_rec (setRow_heap _ _ _ _ _ _ h5) rfl)
    · have HA := hide (readA_both HN1.out (by rw [← HMm.out]; exact hn) (by rw [← HMm.out]; exact hB2.1))
      have HTk := hide (refITake_any m c2 ao2 bz w5 hB2 hd1 hd2 hd3 (by omega))
      clear hn hB2 hf2 hd3
      go_wp2_with fail
      refine HTk.out.mono ?_
      rintro r w6 ⟨rfl, b6⟩
      obtain ⟨w7, hw7⟩ : ∃ w7, w7 = w6.alloc (.cells (iv (takR bz)) 23) := ⟨_, rfl⟩
      have b57 : Below w5.heap.size w5 w7 := by rw [hw7]; exact b6.alloc b6.size _
      have b07 : Below w0.heap.size w0 w7 := HB5.out.trans (b57.mono HB5.out.size)
      obtain ⟨h7, bw7⟩ := HR0.out w7 b07
      have h71 : w7.heap[w6.heap.size]? = some (.cells (iv (takR bz)) 23 (0, 0)) := by rw [hw7]; exact heap_new rfl
      have HBw7 := hide bw7
      have HW7 := hide hw7
      clear b6 b57 b07 bw7 HTk h5 hw7
      cases hg : good bz
      case false =>
        rw [hg] at HA
        have e1 : takE bz = 2 := by unfold takE; rw [hg]; rfl
        rw [e1]
        have HX := hide (HBad.out (by rw [HA.out]; rfl))
        clear hg e1
        go_wp2_with (first
          | (refine wpList_store_row rfl _ _ _ rfl w6.heap.size (iv (takR bz)) rfl rfl 23 _ (heap_alloc_new w6 _) infoRec rfl (iv_one _) ?_; rw [World.setRow_alloc_new, ← HW7.out])
          | refine wpList_store_row rfl _ _ _ rfl w.heap.size (iv zr) rfl rfl 23 (iv zr) h7 infoRec rfl (iv_one _) ?_)
        refine bodyPost_ret (v := .tuple #[.agg (iv zr), .int .i64 0, .int .i64 2]) ?_ rfl ⟨HX.out, below_setRow HBw7.out (Nat.le_refl _) _⟩
        exact results_cr3 (p := 4) (u := 5) (v := 6) rfl _ _ w.heap.size (iv zr) rfl (load_rec (setRow_heap _ _ _ _ _ _ h7) rfl)
      case true =>
        rw [hg] at HA
        have e1 : takE bz = 0 := by unfold takE; rw [if_pos hg]
        have e2 : takR bz = readR bz := by unfold takR; rw [if_pos hg]
        rw [e1]
        have HX : Hid (Ending.returned (.tuple #[.agg (iv (takR bz)), .int .i64 nx2, .int .i64 0]) = .returned (.tuple #[.agg (iv (readA X ref).1), .int .i64 (readA X ref).2.1, .int .i64 (readA X ref).2.2])) := by show _ = _; rw [HA.out, e2]; rfl
        clear hg e1 e2
        go_wp2_with (first
          | (refine wpList_store_row rfl _ _ _ rfl w6.heap.size (iv (takR bz)) rfl rfl 23 _ (heap_alloc_new w6 _) infoRec rfl (iv_one _) ?_; rw [World.setRow_alloc_new, ← HW7.out])
          | refine wpList_load_rec (by rfl) _ rfl w6.heap.size rfl 23 (iv (takR bz)) (0, 0) h71 rfl ?_
          | refine wpList_store_row rfl _ _ _ rfl w.heap.size (iv (takR bz)) rfl rfl 23 (iv zr) h7 infoRec rfl (iv_one _) ?_)
        refine bodyPost_ret (v := .tuple #[.agg (iv (takR bz)), .int .i64 nx2, .int .i64 0]) ?_ rfl ⟨HX.out, below_setRow HBw7.out (Nat.le_refl _) _⟩
        exact results_cr3 (p := 4) (u := 5) (v := 6) rfl _ _ w.heap.size (iv (takR bz)) rfl (load_rec (setRow_heap _ _ _ _ _ _ h7) rfl)
end Go.Proofs.Ytmhgjilpgbkaaaa

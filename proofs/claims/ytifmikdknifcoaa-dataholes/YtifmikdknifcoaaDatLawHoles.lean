/- Layer 12: DataHoles: blocks of noughts take three bytes each, and are read as noughts. -/
import Derived.Test.YtifmikdknifcoaaDatShown
import Derived.Deep.CutBlock
import Derived.Deep.CutRange
namespace Go.Proofs.Ytifmikdknifcoaa
set_option linter.unusedVariables false
set_option maxRecDepth 100000
open Go.RowKit Go.Maps
open Lz (g)
open Crc (ent more)
open Frm Mtr Dat

namespace Dat
theorem frs_zero (T : Nat → Nat) (k : Nat) : ∀ j, 128 * j ≤ k → (frs T (List.replicate k 0) j).length = 3 * j
  | 0, _ => by simp [frs]
  | j + 1, h => by
    have e : blk (List.replicate k (0 : Int)) j = List.replicate 128 0 := by
      unfold blk
      rw [List.drop_replicate, List.take_replicate, show min 128 (k - 128 * j) = 128 by omega]
    rw [frs_succ, List.length_append, frs_zero T k j (by omega), e]
    unfold bf eb
    rw [if_pos (by decide), put_nil]
    simp; omega
theorem run_zero (T : Nat → Nat) (k : Nat) : (run T (List.replicate k 0)).length = 3 * (k / 128) := by
  unfold run
  rw [List.length_replicate]
  exact frs_zero T k _ (by omega)
theorem add_first (r : List Int) : addA 0 ([], []) r = 0 ∧ (addS 0 ([], []) r).1 = r := by
  by_cases h : r = []
  · subst h; exact ⟨(add_nil 0 _).1, by rw [(add_nil 0 _).2]⟩
  · have := add_none (first := 0) (s := (([] : List Int), ([] : Wm))) h rfl
    exact ⟨by rw [this.1]; rfl, by rw [this.2]; simp⟩
end Dat
set_option maxHeartbeats 4000000 in
theorem holes_walk (a0 a1 a2 : Int) (w : World) (f0 : (Lit.int .i64 a0).wf = true) (f1 : (Lit.int .i64 a1).wf = true) (f2 : (Lit.int .i64 a2).wf = true) :
    Calls Try.prog 7 #[.int .i64 a0, .int .i64 a1, .int .i64 a2] w fun e w' => e = .returned (.bool true) ∧ Below w.heap.size w w' := by
  obtain ⟨hz, hi'⟩ := zero_of_info infoTable
  obtain ⟨i0, hi, hz0, hz1, hz2⟩ := info_parts infoByte
  have h0 := wf_i64_bd f0
  have h1 : In64 a1 := wf_i64_bd f1
  have h2 : In64 a2 := wf_i64_bd f2
  obtain ⟨k, hk, hcase⟩ : ∃ k : Nat, k ≤ 4096 ∧ (a0.tmod 4097 = (k : Int) ∨ (0 < k ∧ a0.tmod 4097 = -(k : Int))) := by
    have t1 := Int.tmod_lt_of_pos a0 (show (0 : Int) < 4097 by omega)
    have t2 := Int.neg_tmod a0 4097
    have t3 := Int.tmod_lt_of_pos (-a0) (show (0 : Int) < 4097 by omega)
    refine ⟨(a0.tmod 4097).natAbs, by omega, ?_⟩
    omega
  clear f0 f1 f2
  go_enter Try.func7, Try.ntmps7
  go_wp2_with fail
  refine (shown_any w).mono ?_
  rintro r ws ⟨rfl, bs0⟩
  have HB0 := hide bs0
  clear bs0
  go_upto_if 23 with fail
  go_cut [8] from 24 to 25 (fun s8 wx => s8 = .int .i64 k ∧ wx = ws)
  case first =>
    rcases hcase with hc | ⟨hp, hc⟩
    · have hk0 : decide ((k : Int) < 0) = false := by simp
      go_wp2_with fail
      go_meet
      case rel => exact ⟨by rw [hc], rfl⟩
    · have hk0 : -(k : Int) < 0 := by omega
      go_wp2_with fail
      go_meet
      case rel => exact ⟨by go_num, rfl⟩
  case rest =>
  obtain ⟨rfl, hwc⟩ := hcut
  obtain rfl := hwc.symm
  clear hcase hwc
  go_wp2_with fail
  refine (New_any ws).mono ?_
  rintro r w1 ⟨rfl, b1⟩
  obtain ⟨C, hC⟩ : ∃ C, C = tab ent := ⟨_, rfl⟩
  rw [← hC]
  have HC := hide hC
  clear hC
  go_wp2_with (first | (refine wpList_store_table rfl _ _ rfl ent C HC.out rfl rfl _ (by simp) ?_; intro w2 ht2 hT2 hlt2 hb2') | fail)
  have HB2 : Hid (Below w.heap.size w w2) := (HB0.out.trans (b1.mono HB0.out.size)).trans (hb2'.mono (Nat.le_trans HB0.out.size b1.size))
  have HT2 : Hid (Tb w2 w1.heap.size ent) := hT2
  clear ht2 hT2 hb2' b1 HC HB0
  refine (dNew_any w1.heap.size 0 w2).mono ?_
  rintro r w3 ⟨rfl, hw3, hb3⟩
  have HD3 := hide (DS.new HB2.out HT2.out hlt2 hw3 hb3)
  clear hw3 hb3 HT2 hz hi'
  generalize w1.heap.size = tb at *
  generalize w2.heap.size + 1 = p at *
  go_wp2_with (first | (at_make; refine wpList_make_full _ rfl _ _ 34 rfl w3.heap.size 5 i0 (.int .u8 0) 1 Try.underlying34 hi hz0 hz1 _ _ _ _ k (by rfl) (by rfl) rfl rfl (by rw [hz2]; omega) (by unfold maxLen; omega) (Nat.le_refl _) ?_; intro w4 o4 k4) | fail)
  rw [half_zero k 0, show half k 0 0 = List.replicate k 0 by simp [half]] at o4
  have hb4 : Below w3.heap.size w3 w4 := (Below.refl _ w3).grown k4 (Nat.le_refl _) (fun j e => by simp at e)
  have HD4 := hide (HD3.out.below hb4)
  have hzb : Bytes (List.replicate k 0) := fun x hx => by simp at hx; omega
  have HS4 := hide (bs_of_owns o4 hzb)
  clear o4 k4 hb4 HD3
  obtain ⟨K, hK⟩ : ∃ K, k / 128 = K := ⟨_, rfl⟩
  obtain ⟨kr, hkr⟩ : ∃ kr, k % 128 = kr := ⟨_, rfl⟩
  have hKi : (k : Int) / 128 = (K : Int) := by omega
  have hkri : (k : Int) % 128 = (kr : Int) := by omega
  have hKb : K ≤ 32 := by omega
  have HKk : Hid (k = 128 * K + kr ∧ kr < 128) := ⟨by omega, by omega⟩
  obtain ⟨r, hr⟩ : ∃ r, run ent (List.replicate k 0) = r := ⟨_, rfl⟩
  have hrl : r.length = 3 * K := by rw [← hr, run_zero, hK]
  have htl : (tl (List.replicate k (0 : Int))).length = kr := by rw [tl_length, List.length_replicate, hkr]
  have HW : Hid (∀ off n : Nat, rd ent r 0 (k : Nat) off n = (((wh (List.replicate k 0)).drop off).take n, 0)) := fun off n => by
    have := rd_run small_ent (List.replicate k 0) [] [] off n (by simp; exact hk)
    rw [hr] at this
    simp only [List.nil_append, List.append_nil, List.length_nil, List.length_replicate] at this
    exact this
  have HWl : Hid ((wh (List.replicate k (0 : Int))).length = 128 * K) := by show _ = _; rw [wh_length, List.length_replicate, hK]
  have HWz : Hid (∀ x ∈ wh (List.replicate k (0 : Int)), x = 0) := fun x hx => by
    unfold wh at hx
    have := List.mem_of_mem_take hx
    simp at this
    exact this.2
  have HAd := hide (HD4.out.adds k k _ (List.replicate k 0) HS4.out (by omega) (by omega) (fun h => by simp at h) (by omega) (by simp) (by simp) (by omega))
  rw [hr, (add_first r).1, htl] at HAd
  have HA1 := hide (add_first r).2
  have Hrl := hide hrl
  generalize addS 0 ([], []) r = s1 at *
  clear hK hkr hr htl hrl HD4 HS4 hzb
  refine HAd.out.mono ?_
  rintro e w5 ⟨ao5, c5, O5, rfl, _, _, hD5, _⟩
  have HDn := hide (dDone_any p tb 0 O5 s1 w5 hD5.wr (by rw [HA1.out, Hrl.out]; omega))
  rw [HA1.out, Hrl.out] at HDn
  have HD5 := hide hD5
  clear hD5 HAd
  go_wp2_with fail
  refine HDn.out.mono ?_
  rintro e w6 ⟨ao6, c6, rfl, hN6⟩
  have HD6 := hide (HD5.out.below hN6.bel)
  have hc6 := hN6.cap
  have hm6 := hN6.max
  have HN6 := hide hN6
  clear hN6 HDn HD5
  have g1 : (3 * (K : Int) != 3 * (K : Int)) = false := by simp
  have g2 : ((kr : Int) != (kr : Int)) = false := by simp
  go_wp2_with fail
  have HRd := hide (dRead_any tb (3 * K) c6 0 k a1 a2 ent ao6 r w6 HD6.out.tbl HD6.out.lt small_ent HN6.out.bs hc6 HN6.out.nil (by omega) hm6 ⟨by omega, by omega⟩ ⟨by omega, by omega⟩ h1 h2)
  unfold DReads at HRd
  have HB6 := hide HD6.out.bel
  clear HD6 HN6
  by_cases hneg : a1 < 0 ∨ a2 < 0
  · have e := rd_arg (T := ent) (z := r) (start := 0) (size := (k : Nat)) (off := a1) (n := a2) (by omega)
    rw [e] at HRd
    clear e
    refine HRd.out.mono ?_
    rintro e w7 ⟨ao7, c7, rfl, hF7⟩
    have HBf := hide (HB6.out.trans (hF7.bel.mono HB6.out.size))
    clear hF7 HRd
    by_cases hn1 : a1 < 0
    · go_wp2
      go_ret
      exact ⟨rfl, HBf.out⟩
    · have hn2 : a2 < 0 := by omega
      go_wp2
      go_ret
      exact ⟨rfl, HBf.out⟩
  · obtain ⟨of, rfl⟩ : ∃ j : Nat, a1 = j := ⟨a1.toNat, by omega⟩
    obtain ⟨n, rfl⟩ : ∃ j : Nat, a2 = j := ⟨a2.toNat, by omega⟩
    have hn1 : decide ((of : Int) < 0) = false := by simp
    have hn2 : decide ((n : Int) < 0) = false := by simp
    rw [HW.out of n] at HRd
    simp only [] at HRd
    obtain ⟨Y, hY⟩ : ∃ Y, ((wh (List.replicate k (0 : Int))).drop of).take n = Y := ⟨_, rfl⟩
    have hYl : Y.length = min n (128 * K - of) := by rw [← hY, List.length_take, List.length_drop, HWl.out]
    have hYz : ∀ x ∈ Y, x = 0 := fun x hx => HWz.out x (by rw [← hY] at hx; exact List.mem_of_mem_drop (List.mem_of_mem_take hx))
    rw [hY] at HRd
    obtain ⟨yl, hyl⟩ : ∃ yl, Y.length = yl := ⟨_, rfl⟩
    rw [hyl] at HRd hYl
    have HYl := hide hYl
    have HYz := hide hYz
    have hyb : yl ≤ 4096 := by omega
    clear hneg hY hYl hYz hyl HW
    refine HRd.out.mono ?_
    rintro e w7 ⟨ao7, c7, rfl, hF7⟩
    have HBf := hide (HB6.out.trans (hF7.bel.mono HB6.out.size))
    have HF7 := hide hF7
    clear hF7 HRd
    have g3 : ((yl : Int) != (yl : Int)) = false := by simp
    by_cases hA : 128 * K ≤ of
    · have hA' : ¬ (of : Int) < (K : Int) * 128 := by omega
      obtain rfl : yl = 0 := by have := HYl.out; omega
      go_wp2
      go_loopw [18] (fun s18 wr => s18 = .int .i64 0 ∧ wr = w7) (fun _ _ => 0)
      case atStart => exact ⟨rfl, rfl⟩
      case round =>
        obtain ⟨rfl, hwr⟩ := hrel
        obtain rfl := hwr.symm
        clear hwr
        go_wp2
        go_ret
        exact ⟨rfl, HBf.out⟩
    · have hA' : (of : Int) < (K : Int) * 128 := by omega
      by_cases hC : n ≤ 128 * K - of
      · have hC' : (n : Int) ≤ (K : Int) * 128 - (of : Int) := by omega
        obtain rfl : yl = n := by have := HYl.out; omega
        go_wp2
        go_loopw [18] (fun s18 wr => ∃ i : Nat, s18 = .int .i64 i ∧ i ≤ yl ∧ wr = w7) (fun s18 _ => yl - (intOf s18).toNat)
        case atStart => exact ⟨0, rfl, Nat.zero_le _, rfl⟩
        case round =>
          obtain ⟨i, rfl, hi', hwr⟩ := hrel
          obtain rfl := hwr.symm
          clear hwr
          by_cases hg : i < yl
          · have hg' : (i : Int) < (yl : Int) := by omega
            obtain ⟨b0, o0, rfl, _, hseg⟩ : ∃ b0 o0, ao7 = some ⟨b0, o0, none⟩ ∧ b0 < w7.heap.size ∧ Seg w7 b0 o0 Y := by
              rcases HF7.out.bs.2.2 with h | h
              · omega
              · exact h
            have hcell := hseg i (by rw [HF7.out.bs.1]; exact hg)
            have hgz : g Y i = 0 := by
              rw [Lz.g_lt _ _ (by rw [HF7.out.bs.1]; exact hg)]
              exact HYz.out _ (List.getElem_mem _)
            rw [hgz] at hcell
            clear hgz hseg
            go_wp2
            go_roundw
            case rel => exact ⟨i + 1, by go_num, by omega, by trivial⟩
            case measure => simp [intOf]; omega
          · have hg' : ¬ (i : Int) < (yl : Int) := by omega
            go_wp2
            go_ret
            exact ⟨rfl, HBf.out⟩
      · have hC' : (K : Int) * 128 - (of : Int) < (n : Int) := by omega
        have hC2 : (K : Int) * 128 - (of : Int) = (yl : Int) := by have := HYl.out; omega
        go_wp2
        try clear hC2
        go_loopw [18] (fun s18 wr => ∃ i : Nat, s18 = .int .i64 i ∧ i ≤ yl ∧ wr = w7) (fun s18 _ => yl - (intOf s18).toNat)
        case atStart => exact ⟨0, rfl, Nat.zero_le _, rfl⟩
        case round =>
          obtain ⟨i, rfl, hi', hwr⟩ := hrel
          obtain rfl := hwr.symm
          clear hwr
          by_cases hg : i < yl
          · have hg' : (i : Int) < (yl : Int) := by omega
            obtain ⟨b0, o0, rfl, _, hseg⟩ : ∃ b0 o0, ao7 = some ⟨b0, o0, none⟩ ∧ b0 < w7.heap.size ∧ Seg w7 b0 o0 Y := by
              rcases HF7.out.bs.2.2 with h | h
              · omega
              · exact h
            have hcell := hseg i (by rw [HF7.out.bs.1]; exact hg)
            have hgz : g Y i = 0 := by
              rw [Lz.g_lt _ _ (by rw [HF7.out.bs.1]; exact hg)]
              exact HYz.out _ (List.getElem_mem _)
            rw [hgz] at hcell
            clear hgz hseg
            go_wp2
            go_roundw
            case rel => exact ⟨i + 1, by go_num, by omega, by trivial⟩
            case measure => simp [intOf]; omega
          · have hg' : ¬ (i : Int) < (yl : Int) := by omega
            go_wp2
            go_ret
            exact ⟨rfl, HBf.out⟩
end Go.Proofs.Ytifmikdknifcoaa

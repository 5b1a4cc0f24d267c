/- The walk of FrameShort: a frame is at most 7 bytes longer than what it holds, and bytes that are all the same come to a short one. -/
import Derived.Test.YtklfhamldigjbaaFrmShown
import Derived.Test.YtklfhamldigjbaaFrmRound
namespace Go.Proofs.Ytklfhamldigjbaa
set_option linter.unusedVariables false
open Go.RowKit Go.Maps
open Lz (g pack unpack)
open Crc (ent more)
open Cur
open Frm

set_option maxRecDepth 100000 in
set_option maxHeartbeats 4000000 in
theorem short_walk (a0 : Option Addr) (len0 cap0 : Nat) (z0 : List Int) (a1 : Int) (a2 : Int) (w : World) (w0 : RowB w a0 len0 cap0 z0) (w1 : (Lit.int .u8 a1).wf = true) (w2 : (Lit.int .i64 a2).wf = true) :
    Calls Try.prog 7 #[.slice a0 len0 cap0, .int .u8 a1, .int .i64 a2] w fun e w' => e = .returned (.bool true) ∧ Below w.heap.size w w' := by
  obtain ⟨hz, hi'⟩ := zero_of_info infoTable
  obtain ⟨hbs, hlc, hcm, hby, hnil⟩ := w0.bs (min len0 128) (by omega)
  obtain ⟨i0, hi, hz0, hz1, hz2⟩ := info_parts infoByte
  obtain ⟨hc1, hc2⟩ := wf_u8 w1
  obtain ⟨ha1, ha2⟩ := wf_i64_bd w2
  generalize z0.take (min len0 128) = zs at hbs hby
  have HNil : Hid (a0 = none → cap0 = 0) := hnil
  clear w0 w1 w2 hnil
  go_enter Try.func7, Try.ntmps7
  go_wp2_with fail
  refine (shown_any w).mono ?_
  rintro r ws ⟨rfl, hbs0⟩
  go_wp2_with fail
  refine (few_any a0 len0 cap0 128 ws hlc (by omega)).mono ?_
  rintro r wx ⟨rfl, rfl⟩
  have h1 := hbs.below hbs0
  generalize hm : min len0 128 = m at *
  have hm1 : m ≤ 128 := by omega
  have hm2 : m ≤ cap0 := by omega
  have hzl := hbs.1
  clear hm
  go_wp2_with fail
  refine (New_any wx).mono ?_
  rintro r w1 ⟨rfl, hbel⟩
  obtain ⟨C, hC⟩ : ∃ C, C = tab ent := ⟨_, rfl⟩
  rw [← hC]
  have HC : Hid (C = tab ent) := hC
  clear hC
  go_wp2_with (refine wpList_store_table rfl _ _ rfl ent C HC.out rfl rfl _ (by simp) ?_; intro w2 ht2 hT2 hlt2 hb2')
  have HB2 : Hid (Below w.heap.size w w2) := by
    have e1 := hbs0.trans (hbel.mono hbs0.size)
    exact e1.trans (hb2'.mono e1.size)
  have HT2 : Hid (Tb w2 w1.heap.size ent) := hT2
  have HS2 : Hid (Bs w2 a0 m zs) := (h1.below hbel).below hb2'
  have HL : Hid (zs.length = m) := hzl
  clear ht2 hT2 hb2' hbel HC hbs h1 hbs0 hzl
  refine (Put_any w1.heap.size m cap0 ent a0 zs w2 HT2.out hlt2 small_ent HS2.out hm2 HNil.out (by omega)).mono ?_
  rintro r w3 (⟨h, _⟩ | ⟨h128, ao3, c3, rfl, hN3⟩)
  · rw [HL.out] at h; omega
  have hpl := (put_length (T := ent) h128).2.1
  rw [HL.out] at hpl
  generalize put ent zs = pz at *
  have HT3 : Hid (Tb w3 w1.heap.size ent) := HT2.out.below hN3.bel hlt2
  have hlt3 : w1.heap.size < w3.heap.size := Nat.lt_of_lt_of_le hlt2 hN3.bel.size
  have hsz : Below w.heap.size w w3 := HB2.out.trans (hN3.bel.mono HB2.out.size)
  have hszz := hsz.size
  obtain ⟨n3, hn3⟩ : ∃ n, pz.length = n := ⟨_, rfl⟩
  rw [hn3] at hpl
  rw [hn3]
  clear hN3 h128 hn3
  obtain ⟨J, hK, hcase⟩ : ∃ J : Nat, J ≤ 124 ∧ (a2.tmod 125 = (J : Int) ∨ (0 < J ∧ a2.tmod 125 = -(J : Int))) := by
    have t1 := Int.tmod_lt_of_pos a2 (show (0 : Int) < 125 by omega)
    have t2 := Int.neg_tmod a2 125
    have t3 := Int.tmod_lt_of_pos (-a2) (show (0 : Int) < 125 by omega)
    refine ⟨(a2.tmod 125).natAbs, by omega, ?_⟩
    omega
  have hK0 : decide ((J : Int) < 0) = false := by simp
  have q3 : decide ((n3 : Int) ≤ (m : Int) + 7) = true := by simp; omega
  have hJ4 : (0 : Int) ≤ 4 + (J : Int) := by omega
  rcases hcase with hk | ⟨hpos, hk⟩
  all_goals
    go_wp2_with (at_make; refine wpList_make_full _ rfl _ _ 22 rfl w.heap.size 5 i0 (.int .u8 0) 1 Try.underlying22 hi hz0 hz1 _ _ _ _ (4 + J) (by rfl) (by rfl) (by omega) (by omega) (by rw [hz2]; omega) (by unfold maxLen; omega) hszz ?_; intro w4 o4 k4)
    obtain ⟨K, hKJ⟩ : ∃ K : Nat, 4 + J = K := ⟨_, rfl⟩
    rw [hKJ] at o4
    rw [hKJ]
    have hK1 : 4 ≤ K := by omega
    have hK2 : K ≤ 128 := by omega
    rw [half_zero K a1] at o4
    have hb4 : Below w.heap.size w w4 := hsz.grown k4 hszz (fun k e => by simp at e)
    have HT4 : Hid (Tb w4 w1.heap.size ent) := HT3.out.below (((Below.refl w3.heap.size w3).grown k4 (Nat.le_refl _) (fun k e => by simp at e))) hlt3
    have HG4 : Hid (Below w3.heap.size w3 w4) := (Below.refl w3.heap.size w3).grown k4 (Nat.le_refl _) (fun k e => by simp at e)
    clear hk k4 hKJ
    go_loopw [13] (fun s13 wr => ∃ i : Nat, s13 = .int .i64 i ∧ i ≤ K ∧ wr.ownsRow w.heap.size 5 1 (.slice (some ⟨w3.heap.size, 0, none⟩) K K) K (bv (half K i a1)) ∧ Below w.heap.size w wr ∧ Below w3.heap.size w3 wr) (fun s13 _ => K - (intOf s13).toNat)
    case atStart => exact ⟨0, rfl, by omega, o4, hb4, HG4.out⟩
    case round =>
      clear o4 hb4 HT4 HG4
      obtain ⟨i, rfl, hiK, o4, hb4, hg4⟩ := hrel
      have hl4 := half_length K i a1 hiK
      by_cases dd : i < K
      · have hcell : wr.cell? ⟨w3.heap.size, i, none⟩ = some (.int .u8 (g (half K i a1) i)) := by
          rw [o4.cellAt i (by omega)]
          simp [bv, g, hl4, dd]
        have hfr := o4.frozenAt i
        have hst := o4.stored i (.int .u8 a1)
        rw [half_set K i a1 dd] at hst
        have HS : Hid ((wr.setCell ⟨w3.heap.size, i, none⟩ (.int .u8 a1)).ownsRow w.heap.size 5 1 (.slice (some ⟨w3.heap.size, 0, none⟩) K K) K (bv (half K (i + 1) a1)) ∧ Below w.heap.size w (wr.setCell ⟨w3.heap.size, i, none⟩ (.int .u8 a1)) ∧ Below w3.heap.size w3 (wr.setCell ⟨w3.heap.size, i, none⟩ (.int .u8 a1))) :=
          ⟨hst.1, hb4.setCell (by exact hszz) _, hg4.setCell (by exact Nat.le_refl _) _⟩
        clear hst hl4
        go_wp2
        go_roundw
        case rel => exact ⟨i + 1, by go_num, by omega, HS.out.1, HS.out.2.1, HS.out.2.2⟩
        case measure => simp only [intOf]; omega
      · obtain rfl : i = K := by omega
        rw [half_full] at o4
        have hrb : Bytes (List.replicate i a1) := fun x hx => by rw [(List.mem_replicate.1 hx).2]; omega
        have b4 := bs_of_owns o4 hrb
        have hps := put_same ent i a1 hK1 hK2
        have HT5 : Hid (Tb wr w1.heap.size ent) := HT3.out.below hg4 hlt3
        have hlt5 : w1.heap.size < wr.heap.size := Nat.lt_of_lt_of_le hlt3 hg4.size
        have HB4 : Hid (Bs wr (some ⟨w3.heap.size, 0, none⟩) i (List.replicate i a1)) := b4
        have HBB : Hid (Below w.heap.size w wr) := hb4
        clear hl4 o4 b4 hb4 hg4 hrb
        go_wp2_with fail
        refine (Put_any w1.heap.size i i ent _ (List.replicate i a1) wr HT5.out hlt5 small_ent HB4.out (by omega) (fun h => by simp at h) (by omega)).mono ?_
        rintro r w5 (⟨h5, _⟩ | ⟨_, ao5, c5, rfl, hN5⟩)
        · simp at h5; omega
        generalize put ent (List.replicate i a1) = pq at *
        obtain ⟨n5, hn5⟩ : ∃ n, pq.length = n := ⟨_, rfl⟩
        rw [hn5] at hps
        rw [hn5]
        have HB : Hid (Below w.heap.size w w5) := HBB.out.trans (hN5.bel.mono HBB.out.size)
        clear hN5 hn5
        have q5 : decide ((n5 : Int) ≤ 11) = true := by simp; omega
        go_wp2
        go_ret
        exact ⟨rfl, HB.out⟩
end Go.Proofs.Ytklfhamldigjbaa

/- The walk of FrameTurned: a frame of which one byte is turned into another one is none; nor is one that is cut. -/
import Derived.Test.YtklfhamldigjbaaFrmShown
import Derived.Test.YtklfhamldigjbaaFrmRound
namespace Go.Proofs.Ytklfhamldigjbaa
set_option linter.unusedVariables false
open Go.RowKit Go.Maps
open Lz (g pack unpack)
open Crc (ent more)
open Cur
open Frm

/-- One byte of a row is turned. -/
theorem bs_set {w : World} {b n k : Nat} {zs : List Int} {y : Int} (h : Bs w (some ⟨b, 0, none⟩) n zs) (hk : k < n) (hy : 0 ≤ y ∧ y ≤ 255) : Bs (w.setCell ⟨b, k, none⟩ (.int .u8 y)) (some ⟨b, 0, none⟩) n (zs.set k y) := by
  have hz := h.1
  have hb := h.bytes
  refine ⟨by simp [hz], ?_, ?_⟩
  · refine Bytes.g (fun x hx => ?_)
    rcases List.mem_or_eq_of_mem_set hx with h1 | rfl
    · exact hb x h1
    · exact hy
  · rcases h.2.2 with h0 | ⟨b', off, e, h2, h3⟩
    · omega
    · cases e
      refine .inr ⟨b, 0, rfl, by simpa [World.setCell] using h2, fun i hi => ?_⟩
      rw [Nat.zero_add]
      by_cases e : k = i
      · subst e
        have := h3 k (by omega)
        rw [Nat.zero_add] at this
        rw [World.cell?_setCell_same _ _ _ this, g_set_same _ _ _ (by omega)]
      · have := h3 i (by simpa using hi)
        rw [Nat.zero_add] at this
        rw [World.cell?_setCell_other _ _ _ _ (fun h => e (congrArg Addr.off h)), this, g_set_other _ _ _ _ e]
theorem take_none {T : Nat → Nat} {z : List Int} {a : Int} (h : spot z a = none) : take T z a = ([], 0, 2) := by unfold take; rw [h]
theorem skip_none {z : List Int} {a : Int} (h : spot z a = none) : skip z a = (0, 2) := by unfold skip; rw [h]
theorem x8_ne {x d : Int} (hx : 0 ≤ x ∧ x ≤ 255) (hd : 0 ≤ d ∧ d ≤ 255) (h0 : d ≠ 0) : x8 x d ≠ x := fun h => by
  have h1 : x8 x 0 = x := by unfold x8; rw [Int.toNat_zero, Nat.xor_zero]; omega
  exact h0 (x8_right (a := d) (b := 0) (c := x) hd (by omega) hx (by rw [h, h1]))

set_option maxRecDepth 100000 in
set_option maxHeartbeats 4000000 in
theorem turned_walk (a0 : Option Addr) (len0 cap0 : Nat) (z0 : List Int) (a1 : Int) (a2 : Int) (w : World) (w0 : RowB w a0 len0 cap0 z0) (w1 : (Lit.int .i64 a1).wf = true) (w2 : (Lit.int .u8 a2).wf = true) :
    Calls Try.prog 6 #[.slice a0 len0 cap0, .int .i64 a1, .int .u8 a2] w fun e w' => e = .returned (.bool true) ∧ Below w.heap.size w w' := by
  obtain ⟨hz, hi'⟩ := zero_of_info infoTable
  obtain ⟨x1, x2, x3, x4, x5⟩ := w0.bs (min len0 128) (by omega)
  obtain ⟨hc1, hc2⟩ := wf_u8 w2
  obtain ⟨ha1, ha2⟩ := wf_i64_bd w1
  generalize z0.take (min len0 128) = zs at *
  have HX := hide x1
  have HXB := hide x4
  have HXN := hide x5
  clear w0 w1 w2 x1 x5 x4
  go_enter Try.func6, Try.ntmps6
  go_wp2_with fail
  refine (shown_any w).mono ?_
  rintro r ws ⟨rfl, hbs0⟩
  have HB0 := hide hbs0
  clear hbs0
  go_wp2_with fail
  refine (few_any a0 len0 cap0 128 ws x2 (by omega)).mono ?_
  rintro r wz ⟨rfl, rfl⟩
  generalize hm : min len0 128 = m at *
  have hm1 : m ≤ 128 := by omega
  have hm2 : m ≤ cap0 := by omega
  clear hm x2
  go_wp2_with fail
  refine (New_any wz).mono ?_
  rintro r w1 ⟨rfl, hbel⟩
  obtain ⟨C, hC⟩ : ∃ C, C = tab ent := ⟨_, rfl⟩
  rw [← hC]
  have HC : Hid (C = tab ent) := hC
  clear hC
  go_wp2_with (refine wpList_store_table rfl _ _ rfl ent C HC.out rfl rfl _ (by simp) ?_; intro w2 ht2 hT2 hlt2 hb2')
  have HB2 : Hid (Below w.heap.size w w2) := by
    have e1 := HB0.out.trans (hbel.mono HB0.out.size)
    exact e1.trans (hb2'.mono e1.size)
  have HT2 : Hid (Tb w2 w1.heap.size ent) := hT2
  clear ht2 hT2 hb2' hbel HC
  refine (Put_any w1.heap.size m cap0 ent a0 zs w2 HT2.out hlt2 small_ent (HX.out.below HB2.out) hm2 HXN.out (by omega)).mono ?_
  rintro r w3 (⟨h, _⟩ | ⟨h128, ao3, c3, rfl, hN3⟩)
  · rw [HX.out.1] at h; omega
  have hpl := put_length (T := ent) h128
  have HCut := hide (fun k hk => cut_none (T := ent) h128 k hk)
  have HTu := hide (fun k y hk hy hne => turned_none h128 HXB.out k y hk hy hne)
  have HPB := hide (put_bytes (T := ent) HXB.out)
  obtain ⟨n3, hn3⟩ : ∃ n, (put ent zs).length = n := ⟨_, rfl⟩
  rw [hn3] at hpl hN3 HCut HTu
  rw [hn3]
  generalize put ent zs = pz at *
  obtain ⟨hp3, _, hp135⟩ := hpl
  obtain ⟨b3, rfl⟩ : ∃ b3, ao3 = some ⟨b3, 0, none⟩ := by
    rcases hN3.bs.2.2 with h0 | ⟨b, off, e, _⟩
    · omega
    · obtain ⟨_, e2, _⟩ := hN3.own _ e
      rw [e2] at e
      exact ⟨_, e⟩
  obtain ⟨hb3, _, cur3, t3, hh3⟩ := hN3.own _ rfl
  have hb3' : w2.heap.size ≤ b3 := hb3
  have HH3 : Hid (w3.heap[b3]? = some (.cells cur3 t3 (0, 0))) := hh3
  have HP3 := hide hN3.bs
  have hc3 := hN3.cap
  have hx3 := hN3.max
  have hlt3 : w1.heap.size < w3.heap.size := Nat.lt_of_lt_of_le hlt2 hN3.bel.size
  have HT3 : Hid (Tb w3 w1.heap.size ent) := HT2.out.below hN3.bel hlt2
  have HB3 : Hid (Below w.heap.size w w3) := HB2.out.trans (hN3.bel.mono HB2.out.size)
  clear hN3 h128 hh3 hb3
  obtain ⟨K, hK, hcase⟩ : ∃ K : Nat, K < n3 ∧ (a1.tmod n3 = (K : Int) ∨ (0 < K ∧ a1.tmod n3 = -(K : Int))) := by
    have t1 := Int.tmod_lt_of_pos a1 (show (0 : Int) < n3 by omega)
    have t2 := Int.neg_tmod a1 n3
    have t3 := Int.tmod_lt_of_pos (-a1) (show (0 : Int) < n3 by omega)
    refine ⟨(a1.tmod n3).natAbs, by omega, ?_⟩
    omega
  have hK0 : decide ((K : Int) < 0) = false := by simp
  have hKc : K ≤ c3 := by omega
  have hl3 : decide ((n3 : Int) < 3) = false := by simp; omega
  have hn0 : ((n3 : Int) == 0) = false := by simp; omega
  have hspt := HCut.out K hK
  have HTk := hide (take_none (T := ent) hspt)
  have HSk := hide (skip_none hspt)
  clear hspt hn3
  rcases hcase with hk | ⟨hpos, hk⟩
  all_goals
    go_wp2_with fail
    refine (Take_any w1.heap.size K c3 0 ent (some ⟨b3, 0, none⟩) (pz.take K) w3 HT3.out hlt3 small_ent (HP3.out.take K (by omega)) hKc (fun h => by simp at h) (by omega) hx3 (by omega)).mono ?_
    rintro r w4 ⟨ao4, c4, rfl, hF4⟩
    rw [HTk.out]
    have HB4 := hide hF4.bel
    clear hF4
    simp only [List.length_nil]
    go_wp2_with fail
    refine (Skip_any K c3 0 (some ⟨b3, 0, none⟩) (pz.take K) w4 ((HP3.out.take K (by omega)).below HB4.out) hKc (fun h => by simp at h) (by omega) hx3 (by omega)).mono ?_
    rintro r w5 ⟨rfl, hb5⟩
    rw [HSk.out]
    have hb35 : Below w3.heap.size w3 w5 := HB4.out.trans (hb5.mono HB4.out.size)
    have HB35 := hide hb35
    obtain ⟨x, hx⟩ : ∃ x, x = g pz K := ⟨_, rfl⟩
    have hbx : 0 ≤ x ∧ x ≤ 255 := by rw [hx]; exact HPB.out.g K
    have hb3lt : b3 < w3.heap.size := heap_lt HH3.out
    have HP5 := hide (HP3.out.below hb35)
    have hh5 : w5.heap[b3]? = some (.cells cur3 t3 (0, 0)) := (hb35.block b3 hb3lt).trans HH3.out
    have hcell : w5.cell? ⟨b3, K, none⟩ = some (.int .u8 x) := by
      rcases HP5.out.2.2 with h0 | ⟨b', off, e, _, h3⟩
      · omega
      · cases e
        have := h3 K (by rw [HP3.out.1]; exact hK)
        rw [Nat.zero_add, ← hx] at this; exact this
    have hfz : w5.frozen? ⟨b3, K, none⟩ = false := by simp [World.frozen?, hh5]
    have HXX : Hid (x = g pz K) := hx
    have HT5 := hide (HT3.out.below hb35 hlt3)
    have hlt5 : w1.heap.size < w5.heap.size := Nat.lt_of_lt_of_le hlt3 hb35.size
    clear hx hb5 hb35 hh5 hk
    by_cases h0 : a2 = 0
    · subst h0
      have hq0 : ((0 : Int) == 0) = true := rfl
      have hxo := xor8 hbx (show (0 : Int) ≤ 1 ∧ (1 : Int) ≤ 255 by omega)
      have hne := x8_ne hbx (show (0 : Int) ≤ 1 ∧ (1 : Int) ≤ 255 by omega) (by omega)
      have hyb := x8_bd hbx (show (0 : Int) ≤ 1 ∧ (1 : Int) ≤ 255 by omega)
      generalize x8 x 1 = y at *
      have HTn := hide (HTu.out K y hK hyb (by rw [← HXX.out]; exact hne))
      have HF := hide ((Fr.refl (One b3) w5).set (p := ⟨b3, K, none⟩) (.int .u8 y) (fun _ => rfl))
      have HT6 : Hid (Tb (w5.setCell ⟨b3, K, none⟩ (.int .u8 y)) w1.heap.size ent) := fun i hi => (HF.out.cell (q := ⟨w1.heap.size, i, none⟩) hlt5 (fun (h : w1.heap.size = b3) => by omega)).trans (HT5.out i hi)
      have HP6 := hide (bs_set (k := K) HP5.out hK hyb)
      go_wp2_with fail
      refine (Take_any w1.heap.size n3 c3 0 ent (some ⟨b3, 0, none⟩) (pz.set K y) _ HT6.out (by simpa [World.setCell] using hlt5) small_ent HP6.out hc3 (fun h => by simp at h) (by omega) hx3 (by omega)).mono ?_
      rintro r w7 ⟨ao7, c7, rfl, hF7⟩
      have HB : Hid (Below w.heap.size w w7) := by
        have e1 := HB3.out.trans (HB35.out.mono HB3.out.size)
        have e2 : Below w.heap.size w (w5.setCell ⟨b3, K, none⟩ (.int .u8 y)) := e1.setCell (by exact Nat.le_trans HB2.out.size hb3') _
        exact e2.trans (hF7.bel.mono e2.size)
      clear hF7
      have hE := HTn.out
      generalize take ent (pz.set K y) 0 = tk at *
      obtain ⟨t1, t2, t3⟩ := tk
      have hE2 : t3 = 2 := hE
      subst hE2
      clear hE HTn
      simp only []
      generalize t1.length = l1 at *
      go_wp2
      go_ret
      exact ⟨rfl, HB.out⟩
    · have hq0 : (a2 == 0) = false := by simp; exact h0
      have hxo := xor8 hbx ⟨hc1, hc2⟩
      have hne := x8_ne hbx ⟨hc1, hc2⟩ h0
      have hyb := x8_bd hbx ⟨hc1, hc2⟩
      generalize x8 x a2 = y at *
      have HTn := hide (HTu.out K y hK hyb (by rw [← HXX.out]; exact hne))
      have HF := hide ((Fr.refl (One b3) w5).set (p := ⟨b3, K, none⟩) (.int .u8 y) (fun _ => rfl))
      have HT6 : Hid (Tb (w5.setCell ⟨b3, K, none⟩ (.int .u8 y)) w1.heap.size ent) := fun i hi => (HF.out.cell (q := ⟨w1.heap.size, i, none⟩) hlt5 (fun (h : w1.heap.size = b3) => by omega)).trans (HT5.out i hi)
      have HP6 := hide (bs_set (k := K) HP5.out hK hyb)
      go_wp2_with fail
      refine (Take_any w1.heap.size n3 c3 0 ent (some ⟨b3, 0, none⟩) (pz.set K y) _ HT6.out (by simpa [World.setCell] using hlt5) small_ent HP6.out hc3 (fun h => by simp at h) (by omega) hx3 (by omega)).mono ?_
      rintro r w7 ⟨ao7, c7, rfl, hF7⟩
      have HB : Hid (Below w.heap.size w w7) := by
        have e1 := HB3.out.trans (HB35.out.mono HB3.out.size)
        have e2 : Below w.heap.size w (w5.setCell ⟨b3, K, none⟩ (.int .u8 y)) := e1.setCell (by exact Nat.le_trans HB2.out.size hb3') _
        exact e2.trans (hF7.bel.mono e2.size)
      clear hF7
      have hE := HTn.out
      generalize take ent (pz.set K y) 0 = tk at *
      obtain ⟨t1, t2, t3⟩ := tk
      have hE2 : t3 = 2 := hE
      subst hE2
      clear hE HTn
      simp only []
      generalize t1.length = l1 at *
      go_wp2
      go_ret
      exact ⟨rfl, HB.out⟩
end Go.Proofs.Ytklfhamldigjbaa

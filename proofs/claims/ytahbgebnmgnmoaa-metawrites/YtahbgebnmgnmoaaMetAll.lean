/- The walk of MetaAll: all that was added is read as one row from the first ref on, in parts of any size; and not a byte more is there. -/
import Derived.Test.YtahbgebnmgnmoaaMetNext
namespace Go.Proofs.Ytahbgebnmgnmoaa
set_option linter.unusedVariables false
open Go.RowKit Go.Maps
open Lz (g)
open Crc (ent)
open Frm Mtr

/-- The own row of rows, as it lies in a later world. -/
theorem row_cell' {S : Nat → Prop} {w w' : World} {B k c : Nat} {ao : Option Addr} {R : RT} (h : w.ownsRow B 33 1 (.slice ao k c) k (cut R k)) (hf : Fr S w w') (hS : ∀ p, S p → w.heap.size ≤ p ∨ ∃ t cur fz, w.heap[p]? = some (.cells cur t fz) ∧ t ≠ 33) (i : Nat) (hi : i < k) :
    ∃ gb, ao = some ⟨gb, 0, none⟩ ∧ w'.cell? ⟨gb, i, none⟩ = some (vOf R i) := by
  obtain ⟨gb, c', hv, _, hlt⟩ := h.form (by omega)
  obtain ⟨rfl, _, rfl⟩ : ao = some ⟨gb, 0, none⟩ ∧ k = k ∧ c = c' := by simpa using hv
  refine ⟨gb, rfl, ?_⟩
  have hne : ¬ S gb := fun e => by
    rcases hS gb e with hp | ⟨t, cur, fz, hp, ht⟩
    · omega
    · have := owns_ne h hp (fun cur' fz' he => by injection he with _ h2 _; exact ht h2)
      exact this rfl
  rw [hf.cell (q := ⟨gb, i, none⟩) hlt hne, h.cellAt i (by omega)]
  simp [cut, hi]
/-- A row of bytes of the call's own beside a writer: one has grown. -/
theorem wr_beside {w w1 : World} {p tb n c m c' B : Nat} {vo ao' : Option Addr} {O S : Nat → Prop} {F R Z Y : List Int} {w0 : World} (h : WrM w p O tb F R) (hv : Rw w B vo n c Z) (hn : ∀ j, (Value.slice vo n c).ownBlock = some j → ¬ O j)
    (hA : Rw w1 B ao' m c' Y) (hg : w.grownBy w1 (Value.slice vo n c).ownBlock) (hl : Lie w (.slice vo n c) (.slice ao' m c')) (hF : Fr S w0 w) (hS : ∀ j, (Value.slice vo n c).ownBlock = some j → S j ∨ w0.heap.size ≤ j) :
    WrM w1 p O tb F R ∧ (∀ j, (Value.slice ao' m c').ownBlock = some j → ¬ O j) ∧ Fr S w0 w1 ∧ ∀ j, (Value.slice ao' m c').ownBlock = some j → S j ∨ w0.heap.size ≤ j := by
  have f : Fr (fun j => (Value.slice vo n c).ownBlock = some j) w w1 := Fr.of_grown hg (fun k hk => hk)
  refine ⟨h.fr f (fun k hk hx => hn k hx hk), fun j hj hx => ?_, hF.trans f (fun i hi hx => (hS i hx).elim id (fun h => by omega)), fun j hj => ?_⟩
  · rcases hl j hj with h1 | h1
    · exact hn j h1 hx
    · have := h.olt j hx; omega
  · rcases hl j hj with h1 | h1
    · exact hS j h1
    · exact .inr (Nat.le_trans hF.size h1)
theorem rd_beside {w w1 : World} {p tb N n c m c' B : Nat} {vo ao' : Option Addr} {O S : Nat → Prop} {T : Nat → Nat} {X Z Y : List Int} {w0 : World} (h : RdM w p O tb T X N) (hv : Rw w B vo n c Z) (hn : ∀ j, (Value.slice vo n c).ownBlock = some j → ¬ O j)
    (hA : Rw w1 B ao' m c' Y) (hg : w.grownBy w1 (Value.slice vo n c).ownBlock) (hl : Lie w (.slice vo n c) (.slice ao' m c')) (hF : Fr S w0 w) (hS : ∀ j, (Value.slice vo n c).ownBlock = some j → S j ∨ w0.heap.size ≤ j) :
    RdM w1 p O tb T X N ∧ (∀ j, (Value.slice ao' m c').ownBlock = some j → ¬ O j) ∧ Fr S w0 w1 ∧ ∀ j, (Value.slice ao' m c').ownBlock = some j → S j ∨ w0.heap.size ≤ j := by
  have f : Fr (fun j => (Value.slice vo n c).ownBlock = some j) w w1 := Fr.of_grown hg (fun k hk => hk)
  refine ⟨h.fr f (fun k hk hx => hn k hx hk), fun j hj hx => ?_, hF.trans f (fun i hi hx => (hS i hx).elim id (fun h => by omega)), fun j hj => ?_⟩
  · rcases hl j hj with h1 | h1
    · exact hn j h1 hx
    · have := h.olt j hx; omega
  · rcases hl j hj with h1 | h1
    · exact hS j h1
    · exact .inr (Nat.le_trans hF.size h1)
theorem rd_rf {z : List Int} {n k : Nat} (h : n + k ≤ z.length) : rd ent (done ent z) (rf ent z n) k = some ((z.drop n).take k, rf ent z (n + k)) := rd_row small_ent z k n k (Nat.le_refl _) h
theorem rd_rf_end (z : List Int) : rd ent (done ent z) (rf ent z z.length) 1 = none := by
  show rdF ent _ (0 + 1) _ 1 = none
  exact rdF_none (by omega) (rd_end small_ent z)

set_option maxRecDepth 100000 in
set_option maxHeartbeats 4000000 in
theorem all_walk (a0 : Option Addr) (len0 cap0 : Nat) (R : RT) (a1 : Int) (w : World) (w0 : MatB w a0 len0 cap0 R) (w1 : (Lit.int .i64 a1).wf = true) :
    Calls Try.prog 6 #[.slice a0 len0 cap0, .int .i64 a1] w fun e w' => e = .returned (.bool true) ∧ Below w.heap.size w w' := by
  have HRK : Hid (∀ r, r < min len0 20 → RowK w R r) := fun r hr => w0.rowK (by omega)
  obtain ⟨hz, hi'⟩ := zero_of_info infoTable
  have ha1 := wf_i64_bd w1
  obtain ⟨J, hJ, hcase⟩ : ∃ J : Nat, J ≤ 299 ∧ (a1.tmod 300 = (J : Int) ∨ (0 < J ∧ a1.tmod 300 = -(J : Int))) := by
    have t1 := Int.tmod_lt_of_pos a1 (show (0 : Int) < 300 by omega)
    have t2 := Int.neg_tmod a1 300
    have t3 := Int.tmod_lt_of_pos (-a1) (show (0 : Int) < 300 by omega)
    refine ⟨(a1.tmod 300).natAbs, by omega, ?_⟩
    omega
  have HCase := hide hcase
  clear hcase w1
  go_enter Try.func6, Try.ntmps6
  go_wp2_with fail
  refine (mShown_any w).mono ?_
  rintro r ws ⟨rfl, hbs⟩
  go_wp2_with fail
  refine (rows_any a0 len0 cap0 R w ws w0 hbs).mono ?_
  rintro r wl ⟨ro, rc, rfl, hrow, hbl⟩
  have HBl := hide (hbs.trans (hbl.mono hbs.size))
  have HRow := hide hrow
  clear hbs hbl hrow w0
  obtain ⟨k, hk⟩ : ∃ k, min len0 20 = k := ⟨_, rfl⟩
  have hk20 : k ≤ 20 := by omega
  rw [hk] at HRK HRow
  rw [hk]
  clear hk
  go_wp2_with fail
  refine (New_any wl).mono ?_
  rintro r w2 ⟨rfl, hbn⟩
  obtain ⟨C, hC⟩ : ∃ C, C = tab ent := ⟨_, rfl⟩
  rw [← hC]
  have HC : Hid (C = tab ent) := hC
  clear hC
  go_wp2_with (refine wpList_store_table rfl _ _ rfl ent C HC.out rfl rfl _ (by simp) ?_; intro w3 ht3 hT3 hlt3 hb3)
  have hb23 : Below wl.heap.size wl w3 := hbn.trans (hb3.mono hbn.size)
  refine (metaNew_any w2.heap.size w3).mono ?_
  rintro r w4 ⟨rfl, hW4, hb4, hs4⟩
  obtain ⟨wS, hwS⟩ : ∃ wS, wS = w4.alloc (.cells #[] 5) := ⟨_, rfl⟩
  have hbA : Below w4.heap.size w4 wS := by rw [hwS]; exact (Below.refl _ _).alloc (Nat.le_refl _) _
  have hb4l : Below wl.heap.size wl w4 := hb23.trans (hb4.mono hb23.size)
  have hbS : Below wl.heap.size wl wS := hb4l.trans (hbA.mono hb4l.size)
  have HBS := hide (HBl.out.trans (hbS.mono HBl.out.size))
  have HRowS := hide (owns_below HRow.out hbS)
  have HTS := hide (Tb.below (Tb.below hT3 hb4 hlt3) hbA (by omega))
  have hsS : wS.heap.size = w4.heap.size + 1 := by rw [hwS]; simp
  have hpS : w3.heap.size < w4.heap.size := by omega
  have HWS : Hid (WrM wS w3.heap.size (One w3.heap.size) w2.heap.size (fr ent (zAll R 0) ((zAll R 0).length / 128)) (rest (zAll R 0))) := by
    show WrM _ _ _ _ _ _
    rw [show zAll R 0 = [] from rfl]; exact WrM.below hW4 hbA
  have hemp : Rw wS w.heap.size (some ⟨w4.heap.size, 0, none⟩) 0 0 (zAll R 0) := by
    rw [hwS]; exact Rw.of_owns (emptyB (w := w4) (Nat.le_trans HBl.out.size hb4l.size)) Bytes.nil
  have HEmp := hide hemp
  have HPS : Hid (∀ p, (p = w3.heap.size ∨ p = w4.heap.size) → wS.heap.size ≤ p ∨ ∃ t cur fz, wS.heap[p]? = some (.cells cur t fz) ∧ t ≠ 33) := by
    intro p hp
    rcases hp with rfl | rfl
    · obtain ⟨_, _, _, _, _, _, h, _⟩ := HWS.out
      exact .inr ⟨_, _, _, h, by decide⟩
    · exact .inr ⟨_, _, _, by rw [hwS]; exact heap_alloc_new w4 _, by decide⟩
  have hwp : w.heap.size ≤ w3.heap.size := Nat.le_trans HBl.out.size hb23.size
  have HWw := hide hwS
  clear hbn hb3 hT3 ht3 hb23 hW4 hb4 hs4 hbS HBl HRow HC hz hi' hwS hbA hb4l hemp
  go_wp2_with fail
  rw [← HWw.out]
  go_loopw [8, 9] (fun s8 s9 wr => ∃ (vo : Option Addr) (vn vc i : Nat) (O : Nat → Prop), s8 = .slice vo vn vc ∧ s9 = .int .i64 i ∧ i ≤ k ∧ WrM wr w3.heap.size O w2.heap.size (fr ent (zAll R i) ((zAll R i).length / 128)) (rest (zAll R i)) ∧ Rw wr w.heap.size vo vn vc (zAll R i) ∧
    (∀ j, (Value.slice vo vn vc).ownBlock = some j → ¬ O j) ∧ Fr (fun p => p = w3.heap.size ∨ p = w4.heap.size) wS wr ∧ Gr (One w3.heap.size) O w4 ∧ (∀ j, (Value.slice vo vn vc).ownBlock = some j → (j = w3.heap.size ∨ j = w4.heap.size) ∨ wS.heap.size ≤ j)) (fun _ s9 _ => k - (intOf s9).toNat)
  case atStart => exact ⟨_, 0, 0, 0, _, rfl, rfl, by omega, HWS.out, HEmp.out, fun j hj (e : j = _) => by simp [Value.ownBlock] at hj; omega, Fr.refl _ _, Gr.refl _ _, fun j hj => by simp [Value.ownBlock] at hj; exact .inl (.inr hj.symm)⟩
  case round =>
    clear HWS HEmp
    obtain ⟨vo, vn, vc, i, O, rfl, rfl, hik, hW, hV, hVO, hF, hG, hVS⟩ := hrel
    have hzl := zAll_length R i
    have hvn := hV.1
    have hFs := hF.size
    by_cases hgo : i < k
    · obtain ⟨gb, rfl, hcell⟩ := row_cell' HRowS.out hF HPS.out i hgo
      have hBwr : Below w.heap.size w wr := HBS.out.trans (hF.below w.heap.size HBS.out.size (fun j hj => by rcases hj with hj | hj <;> omega))
      have hrk := (HRK.out i hgo)
      have hbs := hrk.bs.below hBwr
      have hOt : ¬ O w2.heap.size := fun hx => by
        rcases hG _ hx with (h : _ = _) | h <;> omega
      have HV : Hid (vOf R i = .slice (R i).1 (min (R i).2.1 400) (R i).2.2.1) := rfl
      have hm4 : min (R i).2.1 400 ≤ 400 := by omega
      have HK := hide (Add_any w3.heap.size w2.heap.size _ _ O _ ent (zAll R i) (zOf R i) wr hW (HTS.out.fr hF (by omega) (by omega)) (by omega) hOt small_ent hbs hrk.nil (by omega) (by omega))
      have hOS : ∀ j, O j → (j = w3.heap.size ∨ j = w4.heap.size) ∨ wS.heap.size ≤ j := fun j hj => by
        rcases hG j hj with (h : _ = _) | h <;> omega
      have HNext := hide (fun (w5 : World) (hF5 : Fr O wr w5) => hF.trans hF5 (fun j hj hx => by rcases hOS j hx with h | h; exact h; omega))
      have HBs5 := hide (fun (w5 : World) (hB : Below w.heap.size w w5) => hrk.bs.below hB)
      have HNil := hide hrk.nil
      have HG := hide hG
      have HVr := hide hV
      have HVO := hide hVO
      have HVS := hide hVS
      rw [HV.out] at hcell
      have HZ := hide (zAll_succ R i)
      generalize (R i).1 = A at *
      generalize (R i).2.2.1 = Cp at *
      generalize min (R i).2.1 400 = m at *
      have j1 : (i : Int) < (k : Int) := by omega
      have j0 : (0 : Int) ≤ (i : Int) := by omega
      clear hW hV hVO hF hG hVS hbs hrk hBwr hOt hOS hvn
      go_wp2_with fail
      refine HK.out.mono ?_
      rintro r w5 ⟨rfl, O5, hW5, hF5, hG5⟩
      have hN5 := HNext.out w5 hF5
      have hB5 : Below w.heap.size w w5 := HBS.out.trans (hN5.below w.heap.size HBS.out.size (fun j hj => by rcases hj with hj | hj <;> omega))
      have hV5 : Rw w5 w.heap.size vo vn vc (zAll R i) := HVr.out.fr hF5 HVO.out
      have hVO5 : ∀ j, (Value.slice vo vn vc).ownBlock = some j → ¬ O5 j := fun j hj hx => by
        rcases hG5 j hx with h | h
        · exact HVO.out j hj h
        · have := (HVr.out.own hj).2.1; omega
      have hc5 : w5.cell? ⟨gb, i, none⟩ = some (.slice A m Cp) := by
        obtain ⟨gb', e, h⟩ := row_cell' HRowS.out hN5 HPS.out i hgo
        obtain rfl : gb = gb' := by simpa using e
        rw [h, HV.out]
      have HV5 := hide hV5
      have HVO5 := hide hVO5
      have HW5 := hide hW5
      have HN5 := hide hN5
      have HBz5 := hide (HBs5.out w5 hB5)
      have HG5 := hide (HG.out.trans hG5 (by omega))
      have hB5s : w.heap.size ≤ w5.heap.size := hB5.size
      have hvn : vn ≤ 8000 := by have := hV5.1; omega
      clear hW5 hF5 hG5 hN5 hB5 hV5 hVO5 HK HNext HBs5 HVr HVO hcell HV
      go_wp2_with (first
        | (at_builtin; refine wpList_append_rw _ rfl (.tmp 46) (.tmp 50) rfl w.heap.size vo vn vc (zAll R i) rfl HV5.out A m Cp (zOf R i) rfl HBz5.out HNil.out (by omega) hB5s ?_
           intro ao' c' w6 hA hg hl
           have HX := hide (wr_beside HW5.out HV5.out HVO5.out hA hg hl HN5.out HVS.out)
           have HA := hide hA
           clear hA hg hl))
      go_roundw
      case rel =>
        obtain ⟨x1, x2, x3, x4⟩ := HX.out
        refine ⟨ao', vn + m, c', i + 1, O5, rfl, by go_num, by omega, ?_, ?_, x2, x3, HG5.out, x4⟩
        · rw [HZ.out]; exact x1
        · rw [HZ.out]; exact HA.out
      case measure => simp [intOf]; omega
    · obtain rfl : i = k := by omega
      have hbz : Bytes (zAll R i) := zAll_bytes R i (fun r hr => (HRK.out r hr).bytes)
      have hdl := done_length ent (zAll R i)
      have HXb := hide (done_bytes ent hbz)
      have hTw := HTS.out.fr hF (by omega) (show ¬ (w2.heap.size = w3.heap.size ∨ w2.heap.size = w4.heap.size) by omega)
      have htw : w2.heap.size < wr.heap.size := by omega
      have HK := hide (metaDone_any w3.heap.size w2.heap.size O ent (zAll R i) wr hW hTw htw small_ent (by omega))
      have hBwr : Below w.heap.size w wr := HBS.out.trans (hF.below w.heap.size HBS.out.size (fun j hj => by rcases hj with hj | hj <;> omega))
      have HBwr := hide hBwr
      have HTw := hide hTw
      have HV := hide hV
      have HRr := hide (fun n k (h : n + k ≤ (zAll R i).length) => rd_rf h)
      have HRe := hide (rd_rf_end (zAll R i))
      have HRb := hide (rf_bd ent (zAll R i))
      have HR0 := hide (rf_zero ent (zAll R i))
      generalize zAll R i = Z at *
      rw [hvn] at hzl hdl HRr HRe
      have hwrs : ∀ j, (Value.slice vo vn vc).ownBlock = some j → j < wr.heap.size := fun j hj => (hV.own hj).2.1
      generalize done ent Z = X at *
      obtain ⟨m, hm⟩ : ∃ m, X.length = m := ⟨_, rfl⟩
      rw [hm] at hdl HK
      have HM := hide hm
      have HWrs := hide hwrs
      have hvb : vn ≤ 8000 := by omega
      have HZl := hide hvn
      clear hW hF hG hTw hBwr hbz HRK HRowS HPS HTS HBS hm hV hVO hVS hwrs hvn
      go_wp2_with fail
      refine HK.out.mono ?_
      rintro r wD ⟨ao, c, rfl, hFD⟩
      have hcD := hFD.cap
      have hmD := hFD.max
      have HFD := hide hFD
      have HTD := hide (HTw.out.below hFD.bel htw)
      have htD : w2.heap.size < wD.heap.size := Nat.lt_of_lt_of_le htw hFD.bel.size
      have hrD : wr.heap.size ≤ wD.heap.size := hFD.bel.size
      have HVD : Hid (Rw wD w.heap.size vo vn vc Z) := HV.out.fr (Fr.of_below (S := fun _ => False) hFD.bel) (fun _ _ => id)
      have HBD := hide (HBwr.out.trans (hFD.bel.mono HBwr.out.size))
      have hmm : (m : Int) ≤ 9223372036854775807 := by omega
      have HX1 : Hid ((X.take ((m : Int).toNat)).drop ((0 : Int).toNat) = X) := by
        show _ = _
        simp [← HM.out]
      clear hFD HK HTw HBwr HV
      go_wp2_with fail
      refine (Open_any w2.heap.size m c ao X ent wD 0 m HFD.out.bs hcD hmD HFD.out.nil (by omega) (by omega) (by omega) (by omega)).mono ?_
      rintro r wO ⟨q, rfl, hRO, hbO⟩
      rw [HX1.out] at hRO
      obtain ⟨wB, hwB⟩ : ∃ wB, wB = wO.alloc (.cells #[] 5) := ⟨_, rfl⟩
      have hbB : Below wO.heap.size wO wB := by rw [hwB]; exact (Below.refl _ _).alloc (Nat.le_refl _) _
      have HRB := hide (RdM.below hRO hbB)
      have hsO := hbO.size
      have hsB := hbB.size
      have hbDB : Below wD.heap.size wD wB := hbO.trans (hbB.mono hbO.size)
      have HTB := hide (HTD.out.below hbDB htD)
      have HVB : Hid (Rw wB w.heap.size vo vn vc Z) := HVD.out.fr (Fr.of_below (S := fun _ => False) hbDB) (fun _ _ => id)
      have hwD := HBD.out.size
      have HBB := hide (HBD.out.trans (hbDB.mono HBD.out.size))
      have HEm : Hid (Rw wB w.heap.size (some ⟨wO.heap.size, 0, none⟩) 0 0 (Z.take 0)) := by
        show Rw _ _ _ _ _ _
        rw [hwB]; exact Rw.of_owns (emptyB (w := wO) (by omega)) Bytes.nil
      have HWB := hide hwB
      clear hRO hbO HX1 HTD HBD HFD hwB hbB hbDB HVD
      have hJ0 : decide ((J : Int) < 0) = false := by simp
      obtain ⟨F, hF⟩ : ∃ F, J + 1 = F := ⟨_, rfl⟩
      have hF1 : 1 ≤ F := by omega
      have hF3 : F ≤ 300 := by omega
      have eF : (J : Int) + 1 = (F : Int) := by omega
      rcases HCase.out with hk | ⟨hpos, hk⟩
      all_goals (
        go_wp2_with fail
        rw [← HWB.out]
        go_loopw [13, 14] (fun s13 s14 wr => ∃ (uo : Option Addr) (n uc : Nat) (O' : Nat → Prop), s14 = .slice uo n uc ∧ s13 = .int .i64 (rf ent Z n) ∧ n ≤ vn ∧ Rw wr w.heap.size uo n uc (Z.take n) ∧ RdM wr q O' w2.heap.size ent X n ∧ (∀ j, (Value.slice uo n uc).ownBlock = some j → ¬ O' j) ∧
          Fr (fun k => wD.heap.size ≤ k) wB wr ∧ (∀ j, O' j → wD.heap.size ≤ j) ∧ (∀ j, (Value.slice uo n uc).ownBlock = some j → wD.heap.size ≤ j)) (fun _ s14 _ => vn - (match s14 with | .slice _ n _ => n | _ => 0))
        case atStart => exact ⟨_, 0, 0, _, rfl, by rw [HR0.out], by omega, HEm.out, HRB.out, fun j hj hx => by simp [Value.ownBlock] at hj; have := hx.2; omega, Fr.refl _ _, fun j hj => hj.1, fun j hj => by simp [Value.ownBlock] at hj; omega⟩
        case round =>
          clear HEm HRB
          obtain ⟨uo, n, uc, O', rfl, rfl, hnv, hU, hR, hUO, hFq, hOD, hUD⟩ := hrel
          have hsq := hFq.size
          have hTq := HTB.out.fr hFq (by omega) (show ¬ wD.heap.size ≤ w2.heap.size by omega)
          have hOt : ¬ O' w2.heap.size := fun hx => by have := hOD _ hx; omega
          have hrb := HRb.out n
          have hVq : Rw wr w.heap.size vo vn vc Z := HVB.out.fr hFq (fun j hj (hx : wD.heap.size ≤ j) => by have := HWrs.out j hj; omega)
          have hBq : Below w.heap.size w wr := HBB.out.trans (hFq.below w.heap.size HBB.out.size (fun j hj => Nat.le_trans hwD hj))
          by_cases hgo : n < vn
          · obtain ⟨kk, hkk⟩ : ∃ kk, min F (vn - n) = kk := ⟨_, rfl⟩
            have hk1 : 1 ≤ kk := by omega
            have hk2 : kk ≤ vn - n := by omega
            have hrr := HRr.out n kk (by omega)
            have HK := hide (mRead_any q w2.heap.size n O' ent X (rf ent Z n) kk wr hR hTq (by omega) hOt small_ent HXb.out (by omega) (by rw [HM.out]; omega) (by omega) (by omega))
            have HRR := hide hrr
            have HU := hide hU
            have HUO := hide hUO
            have HFq := hide hFq
            have HOD := hide hOD
            have HUD := hide hUD
            have hBqs : w.heap.size ≤ wr.heap.size := hBq.size
            have i1 : (n : Int) < (vn : Int) := by omega
            have e5 : (vn : Int) - (n : Int) = ((vn - n : Nat) : Int) := by omega
            have hcase2 : ((F : Int) ≤ (vn : Int) - (n : Int) ∧ F = kk) ∨ ((vn : Int) - (n : Int) < (F : Int) ∧ decide ((F : Int) ≤ (vn : Int) - (n : Int)) = false ∧ (vn : Int) - (n : Int) = (kk : Int)) := by
              by_cases h : F ≤ vn - n
              · exact .inl ⟨by omega, by omega⟩
              · exact .inr ⟨by omega, by simp; omega, by omega⟩
            generalize rf ent Z n = rn at *
            clear hU hR hUO hFq hOD hUD hTq hOt hVq hBq hrr hkk e5
            have HStep := hide (fun (w5 : World) (O2 : Nat → Prop) (ao5 : Option Addr) (c5 : Nat) (hR5 : RdM w5 q O2 w2.heap.size ent X (n + kk)) (hF5 : Fr O' wr w5) (hG5 : Gr O' O2 wr) =>
              show Rw w5 w.heap.size uo n uc (Z.take n) ∧ (∀ j, (Value.slice uo n uc).ownBlock = some j → ¬ O2 j) ∧ Fr (fun k => wD.heap.size ≤ k) wB w5 ∧ (∀ j, O2 j → wD.heap.size ≤ j) from
              ⟨HU.out.fr hF5 HUO.out, fun j hj hx => by
                rcases hG5 j hx with h | h
                · exact HUO.out j hj h
                · have := (HU.out.own hj).2.1; omega, HFq.out.trans hF5 (fun i _ hx => HOD.out i hx), fun j hx => by
                rcases hG5 j hx with h | h
                · exact HOD.out j h
                · omega⟩)
            rcases hcase2 with ⟨i2, rfl⟩ | ⟨i2, i3, i4⟩
            all_goals (
              go_wp2_with fail
              refine HK.out.mono ?_
              rintro r w5 ⟨O2, hR5, hF5, hG5, ⟨hp, _⟩ | ⟨z, nx, ao5, c5, hp, rfl, hB5, hc5, hm5, hn5, ho5⟩⟩
              · rw [HRR.out] at hp; simp at hp
              obtain ⟨hz5, hnx5⟩ : z = (Z.drop n).take _ ∧ nx = rf ent Z (n + _) := by rw [HRR.out] at hp; simpa [eq_comm] using hp
              have HZ5 := hide hz5
              have HNX := hide hnx5
              have hst := HStep.out w5 O2 ao5 c5 hR5 hF5 hG5
              have HU5 := hide hst.1
              have HUO5 := hide hst.2.1
              have HF5 := hide hst.2.2.1
              have HOD5 := hide hst.2.2.2
              have HR5 := hide hR5
              have HB5 := hide hB5
              have HN5 := hide hn5
              have hs5 : w.heap.size ≤ w5.heap.size := Nat.le_trans hBqs hF5.size
              clear hp hst hR5 hF5 hG5 hB5 ho5 hn5 HStep HK HU HUO HFq HOD HRR hz5 hnx5
              go_wp2_with (first
                | (at_builtin; refine wpList_append_rw _ rfl (.tmp 97) (.tmp 98) rfl w.heap.size uo n uc (Z.take n) rfl HU5.out ao5 _ c5 z rfl HB5.out HN5.out (by omega) hs5 ?_
                   intro ao6 c6 w6 hA hg hl
                   have HX := hide (rd_beside HR5.out HU5.out HUO5.out hA hg hl HF5.out (fun j hj => .inl (HUD.out j hj)))
                   have HA := hide hA
                   clear hA hg hl))
              go_roundw
              case rel =>
                obtain ⟨x1, x2, x3, x4⟩ := HX.out
                refine ⟨ao6, _, c6, O2, rfl, by rw [HNX.out], by omega, ?_, x1, x2, x3, HOD5.out, fun j hj => ?_⟩
                · rw [List.take_add, ← HZ5.out]; exact HA.out
                · rcases x4 j hj with h | h
                  · exact h
                  · omega
              case measure => simp only []; omega)
          · obtain rfl : n = vn := by omega
            have HK := hide (mRead_any q w2.heap.size n O' ent X (rf ent Z n) 1 wr hR hTq (by omega) hOt small_ent HXb.out (by omega) (by rw [HM.out]; omega) (by omega) (by omega))
            have i1 : decide ((n : Int) < (n : Int)) = false := by simp
            have hZt : Z.take n = Z := List.take_of_length_le (by rw [HZl.out]; exact Nat.le_refl _)
            rw [hZt] at hU
            have HU := hide hU
            have HUO := hide hUO
            have HVq := hide hVq
            have HOD := hide hOD
            have HBq := hide hBq
            generalize rf ent Z n = rn at *
            clear hU hR hUO hFq hOD hUD hTq hOt hVq hBq hZt
            go_wp2_with fail
            refine HK.out.mono ?_
            rintro r w5 ⟨O2, hR5, hF5, hG5, ⟨_, rfl⟩ | ⟨z, nx, ao5, c5, hp, _⟩⟩
            · have s1 := str_any (HU.out.fr hF5 HUO.out).bs uc
              have s2 := str_any (HVq.out.fr hF5 (fun j hj hx => by have := HOD.out j hx; have := HWrs.out j hj; omega)).bs vc
              have HB5 : Hid (Below w.heap.size w w5) := HBq.out.trans (hF5.below w.heap.size HBq.out.size (fun j hj => Nat.le_trans hwD (HOD.out j hj)))
              clear hR5 hF5 hG5 HK
              go_wp2
              go_ret
              exact ⟨rfl, HB5.out⟩
            · rw [HRe.out] at hp; simp at hp)
end Go.Proofs.Ytahbgebnmgnmoaa

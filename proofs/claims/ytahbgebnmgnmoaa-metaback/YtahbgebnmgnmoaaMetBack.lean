/- The walk of MetaBack: each row that was added is read by its ref as it was, whatever stands ahead of the frames and behind them; and what comes next is the next row. -/
import Derived.Test.YtahbgebnmgnmoaaMetAll
namespace Go.Proofs.Ytahbgebnmgnmoaa
set_option linter.unusedVariables false
open Go.RowKit Go.Maps
open Lz (g)
open Crc (ent)
open Frm Mtr

/-- Where the row i begins. -/
def pOf (R : RT) (i : Nat) : Nat := (zAll R i).length
/-- The refs of the first i rows. -/
def rfs (R : RT) (i : Nat) : List Int := (List.range i).map fun j => rf ent (zAll R j) (pOf R j)
theorem rfs_succ (R : RT) (i : Nat) : rfs R (i + 1) = rfs R i ++ [rf ent (zAll R i) (pOf R i)] := by simp [rfs, List.range_succ]
theorem rfs_length (R : RT) (i : Nat) : (rfs R i).length = i := by simp [rfs]
theorem rf_in (R : RT) (j i : Nat) (h : j ≤ i) : rf ent (zAll R j) (pOf R j) = rf ent (zAll R i) (pOf R j) := by
  obtain ⟨Z, hZ⟩ := zAll_split R j i h
  rw [hZ]; exact (rf_append ent (zAll R j) Z (pOf R j) (Nat.le_refl _)).symm
theorem pOf_succ (R : RT) (i : Nat) : pOf R (i + 1) = pOf R i + (zOf R i).length := by unfold pOf; rw [zAll_succ, List.length_append]
theorem pOf_le (R : RT) (j i : Nat) (h : j ≤ i) : pOf R j ≤ pOf R i := by
  obtain ⟨Z, hZ⟩ := zAll_split R j i h
  unfold pOf; rw [hZ, List.length_append]; omega
theorem z_in (R : RT) (j i : Nat) (h : j < i) : ((zAll R i).drop (pOf R j)).take (zOf R j).length = zOf R j := by
  obtain ⟨Z, hZ⟩ := zAll_split R (j + 1) i (by omega)
  rw [hZ, zAll_succ, List.append_assoc]
  unfold pOf
  rw [List.drop_left, List.take_left]
theorem rd_in (R : RT) (j i : Nat) (h : j < i) : rd ent (done ent (zAll R i)) (rf ent (zAll R j) (pOf R j)) (zOf R j).length = some (zOf R j, rf ent (zAll R (j + 1)) (pOf R (j + 1))) := by
  have h1 := pOf_succ R j
  have h2 := pOf_le R (j + 1) i (by omega)
  rw [rf_in R j i (by omega), rf_in R (j + 1) i (by omega), rd_rf (by unfold pOf at h1 h2 ⊢; omega), z_in R j i h, h1]
theorem wr_beside' {w w1 : World} {p tb : Nat} {v v' : Value} {O S : Nat → Prop} {F R : List Int} {w0 : World} (h : WrM w p O tb F R) (hn : ∀ j, v.ownBlock = some j → ¬ O j)
    (hg : w.grownBy w1 v.ownBlock) (hl : Lie w v v') (hF : Fr S w0 w) (hS : ∀ j, v.ownBlock = some j → S j ∨ w0.heap.size ≤ j) :
    WrM w1 p O tb F R ∧ (∀ j, v'.ownBlock = some j → ¬ O j) ∧ Fr S w0 w1 ∧ ∀ j, v'.ownBlock = some j → S j ∨ w0.heap.size ≤ j := by
  have f : Fr (fun j => v.ownBlock = some j) w w1 := Fr.of_grown hg (fun k hk => hk)
  refine ⟨h.fr f (fun k hk hx => hn k hx hk), fun j hj hx => ?_, hF.trans f (fun i hi hx => (hS i hx).elim id (fun h => by omega)), fun j hj => ?_⟩
  · rcases hl j hj with h1 | h1
    · exact hn j h1 hx
    · have := h.olt j hx; omega
  · rcases hl j hj with h1 | h1
    · exact hS j h1
    · exact .inr (Nat.le_trans hF.size h1)
theorem emptyI {w : World} {B : Nat} (hB : B ≤ w.heap.size) : (w.alloc (.cells #[] 3)).ownsRow B 3 1 (.slice (some ⟨w.heap.size, 0, none⟩) 0 0) 0 [] :=
  ⟨rfl, .inr ⟨w.heap.size, 0, #[], rfl, hB, heap_alloc_new w _, Nat.le_refl _, by unfold maxLen; omega, rfl, rfl⟩⟩
theorem ref_cell {S : Nat → Prop} {w w' : World} {B k c : Nat} {ao : Option Addr} {R : RT} (h : w.ownsRow B 3 1 (.slice ao k c) k ((rfs R k).map (Value.int .i64))) (hf : Fr S w w') (hn : ∀ j, (Value.slice ao k c).ownBlock = some j → ¬ S j) (i : Nat) (hi : i < k) :
    ∃ gb, ao = some ⟨gb, 0, none⟩ ∧ w'.cell? ⟨gb, i, none⟩ = some (.int .i64 (rf ent (zAll R i) (pOf R i))) := by
  obtain ⟨gb, c', hv, _, hlt⟩ := h.form (by omega)
  obtain ⟨rfl, _, rfl⟩ : ao = some ⟨gb, 0, none⟩ ∧ k = k ∧ c = c' := by simpa using hv
  refine ⟨gb, rfl, ?_⟩
  rw [hf.cell (q := ⟨gb, i, none⟩) hlt (hn gb rfl), h.cellAt i (by omega)]
  simp [rfs, hi]

set_option maxRecDepth 100000 in
set_option maxHeartbeats 4000000 in
theorem back_walk (a0 : Option Addr) (len0 cap0 : Nat) (R : RT) (a1 : Option Addr) (len1 cap1 : Nat) (z1 : List Int) (w : World) (w0 : MatB w a0 len0 cap0 R) (w1 : RowB w a1 len1 cap1 z1) :
    Calls Try.prog 5 #[.slice a0 len0 cap0, .slice a1 len1 cap1] w fun e w' => e = .returned (.bool true) ∧ Below w.heap.size w w' := by
  have HRK : Hid (∀ r, r < min len0 20 → RowK w R r) := fun r hr => w0.rowK (by omega)
  obtain ⟨hz, hi'⟩ := zero_of_info infoTable
  obtain ⟨i2, hi2, hy0, hy1, hy2⟩ := info_parts infoInt
  obtain ⟨hbs1, hlc1, hcm1, hby1, hnil1⟩ := w1.bs (min len1 200) (by omega)
  obtain ⟨la, hla⟩ : ∃ la, min len1 200 = la := ⟨_, rfl⟩
  rw [hla] at hbs1
  have HAh := hide hbs1
  have HAn := hide hnil1
  generalize z1.take la = ah at *
  have hcaseA : (len1 ≤ 200 ∧ (len1 : Int) ≤ 200 ∧ decide ((200 : Int) < (len1 : Int)) = false ∧ la = len1) ∨ ((200 : Int) < (len1 : Int) ∧ (200 : Int) ≤ (cap1 : Int) ∧ la = 200) := by
    by_cases h : len1 ≤ 200
    · exact .inl ⟨h, by omega, by simp; omega, by omega⟩
    · exact .inr ⟨by omega, by omega, by omega⟩
  have hla2 : la ≤ 200 := by omega
  have HCA := hide hcaseA
  clear w1 hbs1 hnil1 hcaseA hla hby1
  go_enter Try.func5, Try.ntmps5
  go_wp2_with fail
  refine (mShown_any w).mono ?_
  rintro r ws ⟨rfl, hbs⟩
  go_wp2_with fail
  refine (rows_any a0 len0 cap0 R w ws w0 hbs).mono ?_
  rintro r wl ⟨ro, rc, rfl, hrow, hbl⟩
  have HBl := hide (hbs.trans (hbl.mono hbs.size))
  have HRow := hide hrow
  clear hbs hbl hrow w0
  obtain ⟨k, hk⟩ : ∃ k, min len0 20 = k := ⟨_, rfl⟩
  have hk20 : k ≤ 20 := by omega
  rw [hk] at HRK HRow
  rw [hk]
  clear hk
  rcases HCA.out with ⟨q1, q2, q3, q4⟩ | ⟨q1, q2, q4⟩
  all_goals (
    subst q4
    clear HCA
    go_wp2_with fail
    refine (New_any wl).mono ?_
    rintro r w2 ⟨rfl, hbn⟩
    obtain ⟨C, hC⟩ : ∃ C, C = tab ent := ⟨_, rfl⟩
    rw [← hC]
    have HC : Hid (C = tab ent) := hC
    clear hC
    go_wp2_with (refine wpList_store_table rfl _ _ rfl ent C HC.out rfl rfl _ (by simp) ?_; intro w3 ht3 hT3 hlt3 hb3)
    have hb23 : Below wl.heap.size wl w3 := hbn.trans (hb3.mono hbn.size)
    refine (metaNew_any w2.heap.size w3).mono ?_
    rintro r w4 ⟨rfl, hW4, hb4, hs4⟩
    obtain ⟨wS, hwS⟩ : ∃ wS, wS = w4.alloc (.cells #[] 3) := ⟨_, rfl⟩
    have hbA : Below w4.heap.size w4 wS := by rw [hwS]; exact (Below.refl _ _).alloc (Nat.le_refl _) _
    have hb4l : Below wl.heap.size wl w4 := hb23.trans (hb4.mono hb23.size)
    have hbS : Below wl.heap.size wl wS := hb4l.trans (hbA.mono hb4l.size)
    have HBS := hide (HBl.out.trans (hbS.mono HBl.out.size))
    have HRowS := hide (owns_below HRow.out hbS)
    have HTS := hide (Tb.below (Tb.below hT3 hb4 hlt3) hbA (by omega))
    have hsS : wS.heap.size = w4.heap.size + 1 := by rw [hwS]; simp
    have hpS : w3.heap.size < w4.heap.size := by omega
    have HWS : Hid (WrM wS w3.heap.size (One w3.heap.size) w2.heap.size (fr ent (zAll R 0) ((zAll R 0).length / 128)) (rest (zAll R 0))) := by
      show WrM _ _ _ _ _ _
      rw [show zAll R 0 = [] from rfl]; exact WrM.below hW4 hbA
    have HEmp : Hid (wS.ownsRow w.heap.size 3 1 (.slice (some ⟨w4.heap.size, 0, none⟩) 0 0) 0 ((rfs R 0).map (Value.int .i64))) := by
      show wS.ownsRow _ _ _ _ _ _
      rw [hwS]; exact emptyI (w := w4) (Nat.le_trans HBl.out.size hb4l.size)
    have HPS : Hid (∀ p, (p = w3.heap.size ∨ p = w4.heap.size) → wS.heap.size ≤ p ∨ ∃ t cur fz, wS.heap[p]? = some (.cells cur t fz) ∧ t ≠ 33) := by
      intro p hp
      rcases hp with rfl | rfl
      · obtain ⟨_, _, _, _, _, _, h, _⟩ := HWS.out
        exact .inr ⟨_, _, _, h, by decide⟩
      · exact .inr ⟨_, _, _, by rw [hwS]; exact heap_alloc_new w4 _, by decide⟩
    have hwp : w.heap.size ≤ w3.heap.size := Nat.le_trans HBl.out.size hb23.size
    have HWw := hide hwS
    clear hbn hb3 hT3 ht3 hb23 hW4 hb4 hs4 hbS HBl HRow HC hz hi' hwS hbA hb4l
    go_wp2_with fail
    rw [← HWw.out]
    go_loopw [8, 9] (fun s8 s9 wr => ∃ (vo : Option Addr) (vc i : Nat) (O : Nat → Prop), s8 = .slice vo i vc ∧ s9 = .int .i64 i ∧ i ≤ k ∧ WrM wr w3.heap.size O w2.heap.size (fr ent (zAll R i) ((zAll R i).length / 128)) (rest (zAll R i)) ∧ wr.ownsRow w.heap.size 3 1 (.slice vo i vc) i ((rfs R i).map (Value.int .i64)) ∧
      (∀ j, (Value.slice vo i vc).ownBlock = some j → ¬ O j) ∧ Fr (fun p => p = w3.heap.size ∨ p = w4.heap.size) wS wr ∧ Gr (One w3.heap.size) O w4 ∧ (∀ j, (Value.slice vo i vc).ownBlock = some j → (j = w3.heap.size ∨ j = w4.heap.size) ∨ wS.heap.size ≤ j)) (fun _ s9 _ => k - (intOf s9).toNat)
    case atStart => exact ⟨_, 0, 0, _, rfl, rfl, by omega, HWS.out, HEmp.out, fun j hj (e : j = _) => by simp [Value.ownBlock] at hj; omega, Fr.refl _ _, Gr.refl _ _, fun j hj => by simp [Value.ownBlock] at hj; exact .inl (.inr hj.symm)⟩
    case round =>
      clear HWS HEmp
      obtain ⟨vo, vc, i, O, rfl, rfl, hik, hW, hV, hVO, hF, hG, hVS⟩ := hrel
      have hzl := zAll_length R i
      have hFs := hF.size
      by_cases hgo : i < k
      · obtain ⟨gb, rfl, hcell⟩ := row_cell' HRowS.out hF HPS.out i hgo
        have hBwr : Below w.heap.size w wr := HBS.out.trans (hF.below w.heap.size HBS.out.size (fun j hj => by rcases hj with hj | hj <;> omega))
        have hrk := (HRK.out i hgo)
        have hbs := hrk.bs.below hBwr
        have hOt : ¬ O w2.heap.size := fun hx => by
          rcases hG _ hx with (h : _ = _) | h <;> omega
        have HV : Hid (vOf R i = .slice (R i).1 (min (R i).2.1 400) (R i).2.2.1) := rfl
        have hm4 : min (R i).2.1 400 ≤ 400 := by omega
        have HK := hide (Add_any w3.heap.size w2.heap.size _ _ O _ ent (zAll R i) (zOf R i) wr hW (HTS.out.fr hF (by omega) (by omega)) (by omega) hOt small_ent hbs hrk.nil (by omega) (by omega))
        have hOS : ∀ j, O j → (j = w3.heap.size ∨ j = w4.heap.size) ∨ wS.heap.size ≤ j := fun j hj => by
          rcases hG j hj with (h : _ = _) | h <;> omega
        have HNext := hide (fun (w5 : World) (hF5 : Fr O wr w5) => hF.trans hF5 (fun j hj hx => by rcases hOS j hx with h | h; exact h; omega))
        have HG := hide hG
        have HVr := hide hV
        have HVO := hide hVO
        have HVS := hide hVS
        rw [HV.out] at hcell
        have HZ := hide (zAll_succ R i)
        have HRf : Hid (rf ent (zAll R i) (zAll R i).length = rf ent (zAll R i) (pOf R i)) := rfl
        have HRs := hide (rfs_succ R i)
        generalize (R i).1 = A at *
        generalize (R i).2.2.1 = Cp at *
        generalize min (R i).2.1 400 = m at *
        have j1 : (i : Int) < (k : Int) := by omega
        have j0 : (0 : Int) ≤ (i : Int) := by omega
        clear hW hV hVO hF hG hVS hbs hrk hBwr hOt hOS HV
        go_wp2_with fail
        refine HK.out.mono ?_
        rintro r w5 ⟨rfl, O5, hW5, hF5, hG5⟩
        rw [HRf.out]
        have hN5 := HNext.out w5 hF5
        have hV5 := owns_fr HVr.out hF5 HVO.out
        have hVO5 : ∀ j, (Value.slice vo i vc).ownBlock = some j → ¬ O5 j := fun j hj hx => by
          rcases hG5 j hx with h | h
          · exact HVO.out j hj h
          · have := (HVr.out.lt j hj).2; omega
        have HVO5 := hide hVO5
        have HW5 := hide hW5
        have HN5 := hide hN5
        have HG5 := hide (HG.out.trans hG5 (by omega))
        have hB5s : w.heap.size ≤ w5.heap.size := Nat.le_trans HBS.out.size hN5.size
        generalize rf ent (zAll R i) (pOf R i) = rn at *
        clear hW5 hF5 hG5 hN5 hVO5 HK HNext HVr HVO hcell
        go_wp2_with (first
          | (at_builtin; refine wpList_append_lies _ rfl _ _ 54 rfl w.heap.size 3 i2 (.int .i64 0) 1 8 Try.underlying54 hi2 hy0 hy1 hy2 rfl (by decide) _ _ _ rfl (hV5.alloc _) ⟨w5.heap.size, 0, none⟩ 1 1 [.int .i64 rn] rfl rfl (cell_one_new w5 _ _) (fun u hu => by simp at hu; subst hu; rfl) (by decide) (by unfold maxLen; omega) (by omega) (by simp; omega) (w5.heap.size + 1) (by simp) ?_; intro g6 c6 w6 hA hg hl _
             have hba : Below w5.heap.size w5 (w5.alloc (.cells #[.int .i64 rn] 3)) := (Below.refl _ _).alloc (Nat.le_refl _) _
             have HX := hide (wr_beside' (v' := .slice (some ⟨g6, 0, none⟩) (i + 1) c6) (HW5.out.below hba) HVO5.out hg (fun j hj => by simp [Value.ownBlock] at hj; subst hj; rcases hl with h | h; exact .inl h; exact .inr (by simp; omega)) (HN5.out.then (Fr.of_below hba)) HVS.out)
             have HA := hide hA
             clear hA hg hl hba))
        go_wp2
        go_roundw
        case rel =>
          obtain ⟨x1, x2, x3, x4⟩ := HX.out
          refine ⟨_, c6, i + 1, O5, rfl, by go_num, by omega, ?_, ?_, x2, x3, HG5.out, x4⟩
          · rw [HZ.out]; exact x1
          · rw [HRs.out, List.map_append]; exact HA.out
        case measure => simp [intOf]; omega
      · obtain rfl : i = k := by omega
        have hbz : Bytes (zAll R i) := zAll_bytes R i (fun r hr => (HRK.out r hr).bytes)
        have hdl := done_length ent (zAll R i)
        have hXb := done_bytes ent hbz
        have HXb := hide hXb
        have hTw := HTS.out.fr hF (by omega) (show ¬ (w2.heap.size = w3.heap.size ∨ w2.heap.size = w4.heap.size) by omega)
        have htw : w2.heap.size < wr.heap.size := by omega
        have HK := hide (metaDone_any w3.heap.size w2.heap.size O ent (zAll R i) wr hW hTw htw small_ent (by omega))
        have hBwr : Below w.heap.size w wr := HBS.out.trans (hF.below w.heap.size HBS.out.size (fun j hj => by rcases hj with hj | hj <;> omega))
        have HBwr := hide hBwr
        have HTw := hide hTw
        have HV := hide hV
        have HRow2 := hide (fun j (hj : j < i) => row_cell' HRowS.out hF HPS.out j hj)
        have HRowLt : Hid (∀ gb, ro = some ⟨gb, 0, none⟩ → 0 < i → gb < wr.heap.size) := fun gb hg h0 => by
          obtain ⟨gb', c', hv, _, hlt⟩ := HRowS.out.form h0
          obtain ⟨h1, _, _⟩ : ro = some ⟨gb', 0, none⟩ ∧ i = i ∧ rc = c' := by simpa using hv
          rw [hg] at h1
          obtain rfl : gb = gb' := by simpa using h1
          omega
        have HRd := hide (fun j (hj : j < i) => rd_in R j i hj)
        have HRb := hide (fun j => rf_bd ent (zAll R j) (pOf R j))
        have HPl : Hid (∀ j, j ≤ i → pOf R j ≤ 8000) := fun j hj => by have h1 := pOf_le R j i hj; unfold pOf at h1 ⊢; omega
        generalize done ent (zAll R i) = X at *
        obtain ⟨m, hm⟩ : ∃ m, X.length = m := ⟨_, rfl⟩
        rw [hm] at hdl HK
        have hmb : m ≤ 9000 := by omega
        have HM := hide hm
        clear hW hF hG hTw hBwr hbz HRowS HPS HTS HBS hm hV hVO hVS hdl hzl hXb
        go_wp2_with fail
        refine HK.out.mono ?_
        rintro r wD ⟨ao, c, rfl, hFD⟩
        have HFD := hide hFD
        have HTD := hide (HTw.out.below hFD.bel htw)
        have htD : w2.heap.size < wD.heap.size := Nat.lt_of_lt_of_le htw hFD.bel.size
        have hrD : wr.heap.size ≤ wD.heap.size := hFD.bel.size
        have HBD := hide (HBwr.out.trans (hFD.bel.mono HBwr.out.size))
        have HBrD := hide hFD.bel
        have hwD := HBD.out.size
        clear hFD HK HTw HBwr
        have ho0 := emptyB (w := wD) (B := wD.heap.size) (Nat.le_refl _)
        have hAh := (HAh.out.below HBD.out).alloc (.cells #[] 5)
        go_wp2_with (first
          | (at_builtin; refine wpList_append_bs _ rfl (.tmp 51) (.tmp 52) rfl wD.heap.size _ _ _ _ rfl ho0 _ _ _ ah rfl hAh HAn.out (by omega) (by simp) ?_; intro x1 y1 wa oa ga; rw [Nat.zero_add, List.nil_append] at oa; have ba : Below wD.heap.size wD wa := (((Below.refl _ wD).alloc (Nat.le_refl _) _).grown ga (by simp) (fun k e => (ho0.lt k e).1)); have sa := ba.size; have hxa := HFD.out.bs.below ba)
          | (at_builtin; refine wpList_append_bs _ rfl (.tmp 53) (.tmp 54) rfl wD.heap.size _ _ _ _ rfl oa _ _ _ X rfl hxa HFD.out.nil (by omega) sa ?_; intro x2 y2 wb ob gb'; have bb : Below wD.heap.size wD wb := ba.trans (grown_below sa oa gb'); have sb := bb.size)
          | (at_builtin; refine wpList_append_bs _ rfl (.tmp 55) (.tmp 56) rfl wD.heap.size _ _ _ _ rfl (ob.alloc _) _ _ _ [1, 2, 3] rfl (bs_new wb (0, 0) [1, 2, 3] (fun x hx => by simp at hx; omega)) (fun h => by simp at h) (by omega) (by simp; omega) ?_; intro x3 y3 wI oI gI; have bI : Below wD.heap.size wD wI := bb.trans (grown_below sb ob (grown_alloc gI)); have sI := bI.size))
        have hbi : Bytes ((ah ++ X) ++ [1, 2, 3]) := ((HAh.out.bytes).append HXb.out).append (fun x hx => by simp at hx; omega)
        have hNI := New.of_owns (w := wD) oI hbi (Nat.le_refl _) bI
        have HNI := hide hNI
        have hnm := hNI.max
        have hnc := hNI.cap
        have HIm : Hid (∀ (a b : Int), a = (ah.length : Int) → b = (ah.length : Int) + X.length → ((((ah ++ X) ++ [1, 2, 3]).take b.toNat).drop a.toNat) = X) := fun a b ha hb => by
          subst ha hb
          rw [show ((ah.length : Int) + X.length).toNat = (ah ++ X).length by rw [List.length_append]; omega, List.take_left, Int.toNat_natCast, List.drop_left]
        have HTI := hide (HTD.out.below bI htD)
        have HBI := hide bI
        have HAl := hide HAh.out.1
        clear hbi hNI oI gI bI ob gb' bb oa ga ba hxa hAh ho0 HFD sb sa HTD
        refine (Open_any w2.heap.size _ y3 x3 _ ent wI _ _ HNI.out.bs hnc hnm HNI.out.nil (by omega) (by omega) (by omega) (by omega)).mono ?_
        rintro r wO ⟨q, rfl, hRO, hbO⟩
        rw [HIm.out _ _ (by have := HAl.out; omega) (by have := HAl.out; have := HM.out; omega)] at hRO
        have HRO := hide hRO
        have HTO := hide (HTI.out.below hbO (by omega))
        have hsO := hbO.size
        have hbDO : Below wD.heap.size wD wO := HBI.out.trans (hbO.mono HBI.out.size)
        have HBO := hide (HBD.out.trans (hbDO.mono HBD.out.size))
        have hbrO : Below wr.heap.size wr wO := HBrD.out.trans (hbDO.mono HBrD.out.size)
        have HCells : Hid (∀ wq, Fr (fun k => wD.heap.size ≤ k) wO wq → ∀ j, j < i → (∃ gb, ro = some ⟨gb, 0, none⟩ ∧ wq.cell? ⟨gb, j, none⟩ = some (vOf R j)) ∧ ∃ gc, vo = some ⟨gc, 0, none⟩ ∧ wq.cell? ⟨gc, j, none⟩ = some (.int .i64 (rf ent (zAll R j) (pOf R j)))) := fun wq hfq j hj => by
          obtain ⟨gb, e1, e2⟩ := HRow2.out j hj
          have hlt := HRowLt.out gb e1 (by omega)
          refine ⟨⟨gb, e1, ?_⟩, ref_cell (owns_below HV.out hbrO) hfq (fun t ht (hx : wD.heap.size ≤ t) => by have := (HV.out.lt t ht).2; omega) j hj⟩
          rw [hfq.cell (q := ⟨gb, j, none⟩) (show gb < wO.heap.size by omega) (show ¬ wD.heap.size ≤ gb by omega), hbrO.cell (p := ⟨gb, j, none⟩) hlt]
          exact e2
        clear hRO hbO HIm HTI HBI HNI hbDO hbrO HRow2 HRowLt HV HBD HBrD HAh HAn hnm hnc
        go_wp2_with fail
        go_loopw [13] (fun s13 wr => ∃ (j : Nat) (O' : Nat → Prop), s13 = .int .i64 j ∧ j ≤ i ∧ RdM wr q O' w2.heap.size ent X (400 * j) ∧ Fr (fun k => wD.heap.size ≤ k) wO wr ∧ (∀ t, O' t → wD.heap.size ≤ t)) (fun s13 _ => i - (intOf s13).toNat)
        case atStart => exact ⟨0, _, rfl, by omega, HRO.out, Fr.refl _ _, fun t ht => by have := ht.1; omega⟩
        case round =>
          clear HRO
          obtain ⟨j, O', rfl, hji, hR, hFq, hOD⟩ := hrel
          have hsq := hFq.size
          have hBq : Below w.heap.size w wr := HBO.out.trans (hFq.below w.heap.size HBO.out.size (fun t ht => Nat.le_trans hwD ht))
          by_cases hgo : j < i
          · obtain ⟨⟨gb, rfl, cA⟩, gc, rfl, cB⟩ := HCells.out wr hFq j hgo
            have hrk := HRK.out j hgo
            have hzj := hrk.bs.1
            have hrd := HRd.out j hgo
            rw [hzj] at hrd
            have hrb := HRb.out j
            have hpl := HPl.out j hji
            have hm4 : min (R j).2.1 400 ≤ 400 := by omega
            have HNxt : Hid (∀ w5, Fr (fun k => wD.heap.size ≤ k) wO w5 → j + 1 < i → w5.cell? ⟨gc, j + 1, none⟩ = some (.int .i64 (rf ent (zAll R (j + 1)) (pOf R (j + 1))))) := fun w5 hf5 h => by
              obtain ⟨_, gc', e, h⟩ := HCells.out w5 hf5 (j + 1) h
              obtain rfl : gc = gc' := by simpa using e
              exact h
            have HCA5 : Hid (∀ w5, Fr (fun k => wD.heap.size ≤ k) wO w5 → w5.cell? ⟨gb, j, none⟩ = some (vOf R j) ∧ w5.cell? ⟨gc, j, none⟩ = some (.int .i64 (rf ent (zAll R j) (pOf R j)))) := fun w5 hf5 => by
              obtain ⟨⟨gb', e1, h1⟩, gc', e, h⟩ := HCells.out w5 hf5 j hgo
              obtain rfl : gc = gc' := by simpa using e
              obtain rfl : gb = gb' := by simpa using e1
              exact ⟨h1, h⟩
            have HVv : Hid (vOf R j = .slice (R j).1 (min (R j).2.1 400) (R j).2.2.1) := rfl
            rw [HVv.out] at cA HCA5
            have hTq := HTO.out.fr hFq (by omega) (show ¬ wD.heap.size ≤ w2.heap.size by omega)
            have hOt : ¬ O' w2.heap.size := fun hx => by have := hOD _ hx; omega
            have HK := hide ((mRead_any q w2.heap.size (400 * j) O' ent X (rf ent (zAll R j) (pOf R j)) (min (R j).2.1 400) wr.drew (hR.fr ((Fr.refl (fun _ => False) wr).drew) (fun _ _ => id)) hTq (show w2.heap.size < wr.heap.size by omega) hOt small_ent HXb.out (by omega) (by rw [HM.out]; omega) (by omega) (by omega)).mono
              (R' := fun r w5 => ∃ O2 ao5 c5, r = .returned (.tuple #[.slice ao5 (min (R j).2.1 400) c5, .int .i64 (rf ent (zAll R (j + 1)) (pOf R (j + 1))), .int .i64 0]) ∧ RdM w5 q O2 w2.heap.size ent X (400 * (j + 1)) ∧ Fr (fun k => wD.heap.size ≤ k) wO w5 ∧ (∀ t, O2 t → wD.heap.size ≤ t) ∧ Bs w5 ao5 (min (R j).2.1 400) (zOf R j))
              (fun r w5 h => by
                obtain ⟨O2, x1, x2, x3, ⟨hp, _⟩ | ⟨z, nx, ao5, c5, hp, hr, hB5, _⟩⟩ := h
                · rw [hrd] at hp; simp at hp
                · rw [hrd] at hp
                  obtain ⟨rfl, rfl⟩ : zOf R j = z ∧ rf ent (zAll R (j + 1)) (pOf R (j + 1)) = nx := by simpa using hp
                  exact ⟨O2, ao5, c5, hr, x1.mono (by omega), hFq.trans x2.undrew (fun t _ ht => hOD t ht), fun t ht => by
                    rcases x3 t ht with h | h
                    · exact hOD t h
                    · have h' : wr.heap.size ≤ t := h
                      omega, hB5⟩))
            have HBsj := hide (fun (w5 : World) (hB : Below w.heap.size w w5) => hrk.bs.below hB)
            have j1 : (j : Int) < (i : Int) := by omega
            have j0 : (0 : Int) ≤ (j : Int) := by omega
            have j2 : (0 : Int) ≤ (j : Int) + 1 := by omega
            have j3 : ((j : Int) + 1).toNat = j + 1 := by omega
            generalize rf ent (zAll R j) (pOf R j) = rn at *
            generalize rf ent (zAll R (j + 1)) (pOf R (j + 1)) = rn1 at *
            generalize (R j).1 = A at *
            generalize (R j).2.2.1 = Cp at *
            generalize min (R j).2.1 400 = mj at *
            generalize zOf R j = zj at *
            clear hR hFq hOD hBq hrk hzj hrd hTq hOt hrb hpl HVv
            go_wp2_with fail
            go_region_held3 (fun wX => wX.cell? ⟨gb, j, none⟩ = some (.slice A mj Cp) ∧ wX.cell? ⟨gc, j, none⟩ = some (.int .i64 rn)) (go_keep)
              ((first
                | (go_at_call 17; refine HK.out.mono ?_; rintro r w5 ⟨O2, ao5, c5, rfl, hR5, hF5, hO5, hB5⟩; have HR5 := hide hR5; have HF5 := hide hF5; have HO5 := hide hO5; have HB5 := hide hB5; have d1 := (HCA5.out w5 hF5).1; have d2 := (HCA5.out w5 hF5).2; clear hR5 hF5 hO5 hB5)))
            have hB5w : Below w.heap.size w w5 := HBO.out.trans (HF5.out.below w.heap.size HBO.out.size (fun t ht => Nat.le_trans hwD ht))
            have s1 : ∀ nq, (convert 33 9 (.slice ao5 mj c5)).run Try.prog (w5.drewN nq) = .ok (.string (strOfNums zj)) (w5.drewN nq) := fun nq => str_any (HB5.out.below (below_drewN (Below.refl _ _) nq)) c5
            have s2 : ∀ nq, (convert 33 9 (.slice A mj Cp)).run Try.prog (w5.drewN nq) = .ok (.string (strOfNums zj)) (w5.drewN nq) := fun nq => str_any ((HBsj.out w5 hB5w).below (below_drewN (Below.refl _ _) nq)) Cp
            have hn1 := HNxt.out w5 HF5.out
            clear hB5w HK HCA5 HNxt cA cB
            by_cases hl : j + 1 < i
            · have c1 := hn1 hl
              have k1 : (j : Int) + 1 < (i : Int) := by omega
              have k2 : decide ((j : Int) + 1 < (i : Int)) = true := by simp; omega
              clear hn1
              go_wp2_with fail
              go_quiet (fail)
              go_wp2
              refine ⟨⟨j + 1, O2, by go_num, by omega, HR5.out.fr ((Fr.refl (fun _ => False) w5).drewN _) (fun _ _ => id), HF5.out.drewN _, HO5.out⟩, by simp only [intOf]; omega⟩
            · have k1 : (i : Int) ≤ (j : Int) + 1 := by omega
              have k2 : decide ((j : Int) + 1 < (i : Int)) = false := by simp; omega
              clear hn1
              go_wp2_with fail
              go_quiet (fail)
              go_wp2
              refine ⟨⟨j + 1, O2, by go_num, by omega, HR5.out.fr ((Fr.refl (fun _ => False) w5).drewN _) (fun _ _ => id), HF5.out.drewN _, HO5.out⟩, by simp only [intOf]; omega⟩
          · obtain rfl : j = i := by omega
            have HBq := hide hBq
            have k1 : decide ((j : Int) < (j : Int)) = false := by simp
            clear hR hFq hOD hBq
            go_wp2
            go_ret
            exact ⟨rfl, HBq.out⟩)
end Go.Proofs.Ytahbgebnmgnmoaa

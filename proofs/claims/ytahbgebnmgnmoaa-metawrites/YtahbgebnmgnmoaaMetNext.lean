/- The walk of MetaNext: the frames of a row are passed one behind the other, from the first one to where they end, and not further. -/
import Derived.Test.YtahbgebnmgnmoaaMetRows
namespace Go.Proofs.Ytahbgebnmgnmoaa
set_option linter.unusedVariables false
open Go.RowKit Go.Maps
open Lz (g)
open Crc (ent)
open Frm Mtr

theorem nxt_row (z : List Int) (k : Nat) (hk : k < (z.length + 127) / 128) : nxt (done ent z) (256 * ((fr ent z k).length : Nat)) = ((256 * ((fr ent z (k + 1)).length : Nat) : Int), 0) := by
  unfold nxt
  rw [show (256 * ((fr ent z k).length : Int)) / 256 = ((fr ent z k).length : Nat) by omega, skip_row small_ent z k hk]
  simp
theorem nxt_end (z : List Int) : nxt (done ent z) (256 * ((fr ent z ((z.length + 127) / 128)).length : Nat)) = (0, 2) := by
  unfold nxt
  rw [show (256 * ((fr ent z ((z.length + 127) / 128)).length : Int)) / 256 = ((fr ent z ((z.length + 127) / 128)).length : Nat) by omega, skip_end]
  simp
/-- The own row of rows, as it lies in a later world. -/
theorem row_cell {w w' : World} {B k c : Nat} {ao : Option Addr} {R : RT} {p : Nat} (h : w.ownsRow B 33 1 (.slice ao k c) k (cut R k)) (hf : Fr (One p) w w') (hp : w.heap.size ≤ p ∨ ∃ t cur fz, w.heap[p]? = some (.cells cur t fz) ∧ t ≠ 33) (i : Nat) (hi : i < k) :
    ∃ gb, ao = some ⟨gb, 0, none⟩ ∧ w'.cell? ⟨gb, i, none⟩ = some (vOf R i) := by
  obtain ⟨gb, c', hv, _, hlt⟩ := h.form (by omega)
  obtain ⟨rfl, _, rfl⟩ : ao = some ⟨gb, 0, none⟩ ∧ k = k ∧ c = c' := by simpa using hv
  refine ⟨gb, rfl, ?_⟩
  have hne : gb ≠ p := fun e => by
    subst e
    rcases hp with hp | ⟨t, cur, fz, hp, ht⟩
    · omega
    · have := owns_ne h hp (fun cur' fz' he => by injection he with _ h2 _; exact ht h2)
      exact this rfl
  rw [hf.cell (q := ⟨gb, i, none⟩) hlt hne, h.cellAt i (by omega)]
  simp [cut, hi]

set_option maxRecDepth 100000 in
set_option maxHeartbeats 4000000 in
theorem next_walk (a0 : Option Addr) (len0 cap0 : Nat) (R : RT) (w : World) (w0 : MatB w a0 len0 cap0 R) :
    Calls Try.prog 7 #[.slice a0 len0 cap0] w fun e w' => e = .returned (.bool true) ∧ Below w.heap.size w w' := by
  have HRK : Hid (∀ r, r < min len0 20 → RowK w R r) := fun r hr => w0.rowK (by omega)
  obtain ⟨hz, hi'⟩ := zero_of_info infoTable
  go_enter Try.func7, Try.ntmps7
  go_wp2_with fail
  refine (mShown_any w).mono ?_
  rintro r ws ⟨rfl, hbs⟩
  go_wp2_with fail
  refine (rows_any a0 len0 cap0 R w ws w0 hbs).mono ?_
  rintro r wl ⟨ro, rc, rfl, hrow, hbl⟩
  have HBl := hide (hbs.trans (hbl.mono hbs.size))
  have HRow := hide hrow
  clear hbs hbl hrow w0
  obtain ⟨k, hk⟩ : ∃ k, min len0 20 = k := ⟨_, rfl⟩
  have hk20 : k ≤ 20 := by omega
  rw [hk] at HRK HRow
  rw [hk]
  clear hk
  go_wp2_with fail
  refine (New_any wl).mono ?_
  rintro r w2 ⟨rfl, hbn⟩
  obtain ⟨C, hC⟩ : ∃ C, C = tab ent := ⟨_, rfl⟩
  rw [← hC]
  have HC : Hid (C = tab ent) := hC
  clear hC
  go_wp2_with (refine wpList_store_table rfl _ _ rfl ent C HC.out rfl rfl _ (by simp) ?_; intro w3 ht3 hT3 hlt3 hb3)
  have hb23 : Below wl.heap.size wl w3 := hbn.trans (hb3.mono hbn.size)
  refine (metaNew_any w2.heap.size w3).mono ?_
  rintro r wS ⟨rfl, hWS, hb4, hs4⟩
  have hbS : Below wl.heap.size wl wS := hb23.trans (hb4.mono hb23.size)
  have HBS := hide (HBl.out.trans (hbS.mono HBl.out.size))
  have HRowS := hide (owns_below HRow.out hbS)
  have HTS := hide (Tb.below hT3 hb4 hlt3)
  have hpS : w3.heap.size < wS.heap.size := by omega
  have HWS : Hid (WrM wS w3.heap.size (One w3.heap.size) w2.heap.size (fr ent (zAll R 0) ((zAll R 0).length / 128)) (rest (zAll R 0))) := by
    show WrM _ _ _ _ _ _
    rw [show zAll R 0 = [] from rfl]; exact hWS
  have HPS : Hid (∃ t cur fz, wS.heap[w3.heap.size]? = some (.cells cur t fz) ∧ t ≠ 33) := by
    obtain ⟨_, _, _, _, _, _, h, _⟩ := hWS
    exact ⟨_, _, _, h, by decide⟩
  have hwp : w.heap.size ≤ w3.heap.size := Nat.le_trans HBl.out.size hb23.size
  clear hbn hb3 hT3 ht3 hb23 hWS hb4 hs4 hbS HBl HRow HC hz hi'
  go_wp2_with fail
  go_loopw [6, 7] (fun s6 s7 wr => ∃ (i : Nat) (O : Nat → Prop), s6 = .int .i64 ((zAll R i).length : Nat) ∧ s7 = .int .i64 i ∧ i ≤ k ∧ WrM wr w3.heap.size O w2.heap.size (fr ent (zAll R i) ((zAll R i).length / 128)) (rest (zAll R i)) ∧ Fr (One w3.heap.size) wS wr ∧ Gr (One w3.heap.size) O wS) (fun _ s7 _ => k - (intOf s7).toNat)
  case atStart => exact ⟨0, _, rfl, rfl, by omega, HWS.out, Fr.refl _ _, Gr.refl _ _⟩
  case round =>
    clear HWS
    obtain ⟨i, O, rfl, rfl, hik, hW, hF, hG⟩ := hrel
    have hzl := zAll_length R i
    have hFs := hF.size
    by_cases hgo : i < k
    · obtain ⟨gb, rfl, hcell⟩ := row_cell HRowS.out hF (.inr HPS.out) i hgo
      have hBwr : Below w.heap.size w wr := HBS.out.trans (hF.below w.heap.size HBS.out.size (fun j (hj : j = _) => by omega))
      have hrk := (HRK.out i hgo)
      have hbs := hrk.bs.below hBwr
      have hOt : ¬ O w2.heap.size := fun hx => by
        rcases hG _ hx with (h : _ = _) | h <;> omega
      have hm4 : min (R i).2.1 400 ≤ 400 := by omega
      have HV : Hid (vOf R i = .slice (R i).1 (min (R i).2.1 400) (R i).2.2.1) := rfl
      have HK := hide (Add_any w3.heap.size w2.heap.size _ _ O _ ent (zAll R i) (zOf R i) wr hW (HTS.out.fr hF (by omega) (by show ¬ _ = _; omega)) (by omega) hOt small_ent hbs hrk.nil (by omega) (by omega))
      have HNext := hide (fun (w5 : World) (O5 : Nat → Prop) (hF5 : Fr O wr w5) (hG5 : Gr O O5 wr) => And.intro (hF.gr hG hF5) (hG.trans hG5 hFs))
      have HC5 := hide (fun (w5 : World) (hF5 : Fr O wr w5) => (row_cell HRowS.out (hF.gr hG hF5) (.inr HPS.out) i hgo))
      have hzn : (zAll R (i + 1)).length = (zAll R i).length + min (R i).2.1 400 := by rw [zAll_succ, List.length_append, hbs.1]
      rw [HV.out] at hcell HC5
      have HZ := hide (zAll_succ R i)
      generalize (R i).1 = A at *
      generalize (R i).2.2.1 = Cp at *
      generalize min (R i).2.1 400 = m at *
      have HZn := hide hzn
      have j1 : (i : Int) < (k : Int) := by omega
      have j0 : (0 : Int) ≤ (i : Int) := by omega
      clear hW hF hG hbs hrk hBwr hOt hzn
      go_wp2_with fail
      refine HK.out.mono ?_
      rintro r w5 ⟨rfl, O5, hW5, hF5, hG5⟩
      have hc5 : w5.cell? ⟨gb, i, none⟩ = some (.slice A m Cp) := by
        obtain ⟨gb', e, h⟩ := HC5.out w5 hF5
        obtain rfl : gb = gb' := by simpa using e
        exact h
      have HX := hide (HNext.out w5 O5 hF5 hG5)
      have HW5 := hide hW5
      clear hW5 hF5 hG5 HC5 HNext HK
      generalize (zAll R i).length = zl at *
      go_wp2
      go_roundw
      case rel =>
        refine ⟨i + 1, O5, by rw [HZn.out]; go_num, by go_num, by omega, ?_, HX.out.1, HX.out.2⟩
        rw [HZ.out]; exact HW5.out
      case measure => simp [intOf]; omega
    · obtain rfl : i = k := by omega
      have hbz : Bytes (zAll R i) := zAll_bytes R i (fun r hr => (HRK.out r hr).bytes)
      have hdl := done_length ent (zAll R i)
      have HXb := hide (done_bytes ent hbz)
      have hTw := HTS.out.fr hF (by omega) (show ¬ w2.heap.size = w3.heap.size by omega)
      have htw : w2.heap.size < wr.heap.size := by omega
      have HK := hide (metaDone_any w3.heap.size w2.heap.size O ent (zAll R i) wr hW hTw htw small_ent (by omega))
      have hBwr : Below w.heap.size w wr := HBS.out.trans (hF.below w.heap.size HBS.out.size (fun j (hj : j = _) => by omega))
      have HBwr := hide hBwr
      have HTw := hide hTw
      have HNr := hide (nxt_row (zAll R i))
      have HNe := hide (nxt_end (zAll R i))
      have HDn : Hid (done ent (zAll R i) = fr ent (zAll R i) (((zAll R i).length + 127) / 128)) := rfl
      have HFl := hide (fr_lt ent (zAll R i))
      have HFz := hide (fr_length ent (zAll R i))
      generalize zAll R i = Z at *
      obtain ⟨L, hL⟩ : ∃ L, Z.length = L := ⟨_, rfl⟩
      rw [hL] at hzl hdl HNr HNe HDn
      rw [hL]
      obtain ⟨K, hK⟩ : ∃ K, (L + 127) / 128 = K := ⟨_, rfl⟩
      rw [hK] at hdl HNr HNe HDn
      have hKb : K ≤ 64 := by omega
      generalize done ent Z = X at *
      have hd1 : X.length = (fr ent Z K).length := by rw [HDn.out]
      obtain ⟨m, hm⟩ : ∃ m, X.length = m := ⟨_, rfl⟩
      rw [hm] at hd1 hdl HK
      have HM := hide hm
      have HD1 := hide hd1
      have j1 : (i : Int) ≤ (i : Int) := by omega
      have e1 : ((L : Int) + 128 - 1) / 128 = (K : Int) := by omega
      have e2 : ((L : Int) + 127) / 128 = (K : Int) := by omega
      clear hW hF hG hTw hBwr hbz HRK HRowS HPS HTS HBS hL hK hm hd1 HDn
      go_wp2_with fail
      refine HK.out.mono ?_
      rintro r wD ⟨ao, c, rfl, hFD⟩
      have hcD := hFD.cap
      have hmD := hFD.max
      have HFD := hide hFD
      have HTD := hide (HTw.out.below hFD.bel htw)
      have htD : w2.heap.size < wD.heap.size := Nat.lt_of_lt_of_le htw hFD.bel.size
      have HBD := hide (HBwr.out.trans (hFD.bel.mono HBwr.out.size))
      have hmm : (m : Int) ≤ 9223372036854775807 := by omega
      have HX1 : Hid ((X.take ((m : Int).toNat)).drop ((0 : Int).toNat) = X) := by
        show _ = _
        simp [← HM.out]
      clear hFD HK HTw HBwr
      go_wp2_with fail
      refine (Open_any w2.heap.size m c ao X ent wD 0 m HFD.out.bs hcD hmD HFD.out.nil (by omega) (by omega) (by omega) (by omega)).mono ?_
      rintro r wO ⟨q, rfl, hRO, hbO⟩
      rw [HX1.out] at hRO
      have HRO := hide hRO
      have HTO := hide (HTD.out.below hbO htD)
      have hsO := hbO.size
      have HBO := hide (HBD.out.trans (hbO.mono HBD.out.size))
      have hwD := HBD.out.size
      clear hRO hbO HX1 HTD HBD HFD
      go_wp2_with fail
      go_loopw [10, 11] (fun s10 s11 wq => ∃ (j : Nat) (O' : Nat → Prop), s10 = .int .i64 (256 * ((fr ent Z j).length : Nat)) ∧ s11 = .int .i64 j ∧ j ≤ K ∧ RdM wq q O' w2.heap.size ent X 0 ∧ Fr (fun k => wD.heap.size ≤ k ∧ k < wO.heap.size) wO wq ∧ Gr (fun k => wD.heap.size ≤ k ∧ k < wO.heap.size) O' wO) (fun _ s11 _ => K - (intOf s11).toNat)
      case atStart => exact ⟨0, _, rfl, rfl, by omega, HRO.out, Fr.refl _ _, Gr.refl _ _⟩
      case round =>
        clear HRO
        obtain ⟨j, O', rfl, rfl, hjK, hR, hFq, hGq⟩ := hrel
        have hfz := HFz.out j
        have hsq := hFq.size
        have hO't : ¬ O' w2.heap.size := fun hx => by
          rcases hGq _ hx with h | h
          · have := h.1; omega
          · omega
        have HKq := hide (mNext_any q w2.heap.size 0 O' ent X (256 * ((fr ent Z j).length : Nat)) wr hR (HTO.out.fr hFq (by omega) (fun h => by have := h.1; omega)) (by omega) hO't small_ent HXb.out (by omega) (by rw [HM.out]; omega) (by omega))
        have HFq := hide hFq
        have HGq := hide hGq
        clear hR hFq hGq
        by_cases hgo : j < K
        · have hn := HNr.out j hgo
          rw [hn] at HKq
          have hlt := HFl.out j
          have HPn : Hid (256 * ((fr ent Z (j + 1)).length : Int) = 256 * ((fr ent Z (j + 1)).length : Nat)) := rfl
          have hfz2 := HFz.out (j + 1)
          generalize (fr ent Z j).length = Pj at *
          obtain ⟨Pn, hPn⟩ : ∃ Pn, (fr ent Z (j + 1)).length = Pn := ⟨_, rfl⟩
          rw [hPn] at HKq hlt hfz2
          have HPN := hide hPn
          have k1 : (j : Int) < (K : Int) := by omega
          have k2 : decide (256 * (Pn : Int) ≤ 256 * (Pj : Int)) = false := by simp; omega
          clear hn hPn HPn
          go_wp2_with fail
          refine HKq.out.mono ?_
          rintro r w6 ⟨rfl, O6, hR6, hF6, hG6⟩
          have HR6 := hide hR6
          have HF6 := hide (HFq.out.gr HGq.out hF6)
          have HG6 := hide (HGq.out.trans hG6 hsq)
          clear hR6 hF6 hG6 HKq
          simp only
          go_wp2
          go_roundw
          case rel => exact ⟨j + 1, O6, by rw [HPN.out], by go_num, by omega, HR6.out, HF6.out, HG6.out⟩
          case measure => simp [intOf]; omega
        · obtain rfl : j = K := by omega
          rw [HNe.out] at HKq
          rw [← HD1.out] at HKq
          rw [← HD1.out]
          have k1 : decide ((j : Int) < (j : Int)) = false := by simp
          go_wp2_with fail
          refine HKq.out.mono ?_
          rintro r w6 ⟨rfl, O6, hR6, hF6, hG6⟩
          have HB6 : Hid (Below w.heap.size w w6) := HBO.out.trans ((HFq.out.gr HGq.out hF6).below w.heap.size HBO.out.size (fun k hk => Nat.le_trans hwD hk.1))
          clear hR6 hF6 hG6 HKq
          simp only
          go_wp2
          go_ret
          exact ⟨rfl, HB6.out⟩
end Go.Proofs.Ytahbgebnmgnmoaa

/- The walk of MetaWrites: any rows are written as the reference writes them, ref by ref and frame by frame. -/
import Derived.Test.YtahbgebnmgnmoaaMetAll
import Derived.Test.YtahbgebnmgnmoaaMetRefAdd
namespace Go.Proofs.Ytahbgebnmgnmoaa
set_option linter.unusedVariables false
open Go.RowKit Go.Maps
open Lz (g)
open Crc (ent)
open Frm Mtr

/-- Both writers, behind the bytes z. -/
structure Both (wS w : World) (p q tb : Nat) (O Y : Nat → Prop) (z : List Int) : Prop where
  bp : WrM w p O tb (fr ent z (z.length / 128)) (rest z)
  bq : WrY w q Y (fr ent z (z.length / 128)) (rest z)
  ap : ∀ k, O k → ¬ Y k
  bf : Fr (fun k => k = p ∨ k = q) wS w
  bo : Gr (One p) O wS
  bg : Gr (One q) Y wS
section
variable {wS w w' : World} {p q tb : Nat} {O Y O' Y' : Nat → Prop} {z : List Int}
theorem Both.below (h : Both wS w p q tb O Y z) (hb : Below w.heap.size w w') : Both wS w' p q tb O Y z := ⟨h.bp.below hb, h.bq.below hb, h.ap, h.bf.then (Fr.of_below hb), h.bo, h.bg⟩
theorem Both.other {S : Nat → Prop} (h : Both wS w p q tb O Y z) (hf : Fr S w w') (hn : ∀ k, S k → ¬ O k ∧ ¬ Y k) (hs : ∀ k, S k → wS.heap.size ≤ k) : Both wS w' p q tb O Y z :=
  ⟨h.bp.fr hf (fun k hk hx => (hn k hx).1 hk), h.bq.fr hf (fun k hk hx => (hn k hx).2 hk), h.ap, h.bf.trans hf (fun i hi hx => by have := hs i hx; omega), h.bo, h.bg⟩
/-- The program's has added bytes: the reference's is as it was. -/
theorem Both.one (h : Both wS w p q tb O Y z) (hf : Fr O w w') (hg : Gr O O' w) : WrY w' q Y (fr ent z (z.length / 128)) (rest z) ∧ (∀ k, O' k → ¬ Y k) ∧ Fr (fun k => k = p ∨ k = q) wS w' ∧ Gr (One p) O' wS := by
  refine ⟨h.bq.fr hf (fun k hk hx => h.ap k hx hk), fun k hk hy => ?_, h.bf.trans hf (fun i hi hx => ?_), h.bo.trans hg h.bf.size⟩
  · rcases hg k hk with h1 | h1
    · exact h.ap k h1 hy
    · have := h.bq.olt k hy; omega
  · rcases h.bo i hx with h1 | h1
    · exact .inl h1
    · omega
/-- The reference's has, too. -/
theorem Both.two {w1 : World} {z1 : List Int} (h : Both wS w p q tb O Y z) (hP : WrM w1 p O' tb (fr ent z1 (z1.length / 128)) (rest z1)) (hap : ∀ k, O' k → ¬ Y k) (hF : Fr (fun k => k = p ∨ k = q) wS w1) (hG : Gr (One p) O' wS)
    (hQ : WrY w' q Y' (fr ent z1 (z1.length / 128)) (rest z1)) (hf : Fr Y w1 w') (hg : Gr Y Y' w1) : Both wS w' p q tb O' Y' z1 := by
  refine ⟨hP.fr hf hap, hQ, fun k hk hy => ?_, hF.trans hf (fun i hi hx => ?_), hG, h.bg.trans hg hF.size⟩
  · rcases hg k hy with h1 | h1
    · exact hap k hk h1
    · have := hP.olt k hk; omega
  · rcases h.bg i hx with h1 | h1
    · exact .inr h1
    · omega
end

set_option maxRecDepth 100000 in
set_option maxHeartbeats 8000000 in
theorem writes_walk (a0 : Option Addr) (len0 cap0 : Nat) (R : RT) (w : World) (w0 : MatB w a0 len0 cap0 R) :
    Calls Try.prog 3 #[.slice a0 len0 cap0] w fun e w' => e = .returned (.bool true) ∧ Below w.heap.size w w' := by
  have HRK : Hid (∀ r, r < min len0 20 → RowK w R r) := fun r hr => w0.rowK (by omega)
  obtain ⟨hz, hi'⟩ := zero_of_info infoTable
  go_enter Try.func3, Try.ntmps3
  go_wp2_with fail
  refine (mShown_any w).mono ?_
  rintro r ws ⟨rfl, hbs⟩
  go_wp2_with fail
  refine (rows_any a0 len0 cap0 R w ws w0 hbs).mono ?_
  rintro r wl ⟨ro, rc, rfl, hrow, hbl⟩
  have HBl := hide (hbs.trans (hbl.mono hbs.size))
  have HRow := hide hrow
  clear hbs hbl hrow w0
  obtain ⟨k, hk⟩ : ∃ k, min len0 20 = k := ⟨_, rfl⟩
  have hk20 : k ≤ 20 := by omega
  rw [hk] at HRK HRow
  rw [hk]
  clear hk
  go_wp2_with fail
  refine (New_any wl).mono ?_
  rintro r w2 ⟨rfl, hbn⟩
  obtain ⟨C, hC⟩ : ∃ C, C = tab ent := ⟨_, rfl⟩
  rw [← hC]
  have HC : Hid (C = tab ent) := hC
  clear hC
  go_wp2_with (refine wpList_store_table rfl _ _ rfl ent C HC.out rfl rfl _ (by simp) ?_; intro w3 ht3 hT3 hlt3 hb3)
  have hb23 : Below wl.heap.size wl w3 := hbn.trans (hb3.mono hbn.size)
  refine (metaNew_any w2.heap.size w3).mono ?_
  rintro r w4 ⟨rfl, hW4, hb4, hs4⟩
  obtain ⟨wS, hwS⟩ : ∃ wS, wS = w4.alloc (.cells #[.slice none 0 0, .slice none 0 0] 35) := ⟨_, rfl⟩
  have hbA : Below w4.heap.size w4 wS := by rw [hwS]; exact (Below.refl _ _).alloc (Nat.le_refl _) _
  have hb4l : Below wl.heap.size wl w4 := hb23.trans (hb4.mono hb23.size)
  have hbS : Below wl.heap.size wl wS := hb4l.trans (hbA.mono hb4l.size)
  have HBS := hide (HBl.out.trans (hbS.mono HBl.out.size))
  have HRowS := hide (owns_below HRow.out hbS)
  have HTS := hide (Tb.below (Tb.below hT3 hb4 hlt3) hbA (by omega))
  have hsS : wS.heap.size = w4.heap.size + 1 := by rw [hwS]; simp
  have hpS : w3.heap.size < w4.heap.size := by omega
  have HWS : Hid (Both wS wS w3.heap.size w4.heap.size w2.heap.size (One w3.heap.size) (One w4.heap.size) (zAll R 0)) := by
    show Both _ _ _ _ _ _ _ _
    rw [show zAll R 0 = [] from rfl]
    exact ⟨WrM.below hW4 hbA, by rw [hwS]; exact WrY.new w4, fun k (h1 : k = _) (h2 : k = _) => by omega, Fr.refl _ _, Gr.refl _ _, Gr.refl _ _⟩
  have HPS : Hid (∀ p, (p = w3.heap.size ∨ p = w4.heap.size) → wS.heap.size ≤ p ∨ ∃ t cur fz, wS.heap[p]? = some (.cells cur t fz) ∧ t ≠ 33) := by
    intro p hp
    rcases hp with rfl | rfl
    · obtain ⟨_, _, _, _, _, _, h, _⟩ := HWS.out.bp
      exact .inr ⟨_, _, _, h, by decide⟩
    · exact .inr ⟨_, _, _, by rw [hwS]; exact heap_alloc_new w4 _, by decide⟩
  have hwp : w.heap.size ≤ w3.heap.size := Nat.le_trans HBl.out.size hb23.size
  have HWw := hide hwS
  clear hbn hb3 hT3 ht3 hb23 hW4 hb4 hs4 hbS HBl HRow HC hz hi' hwS hbA hb4l
  go_wp2_with fail
  rw [← HWw.out]
  go_loopw [7] (fun s7 wr => ∃ (i : Nat) (O Y : Nat → Prop), s7 = .int .i64 i ∧ i ≤ k ∧ Both wS wr w3.heap.size w4.heap.size w2.heap.size O Y (zAll R i)) (fun s7 _ => k - (intOf s7).toNat)
  case atStart => exact ⟨0, _, _, rfl, by omega, HWS.out⟩
  case round =>
    clear HWS
    obtain ⟨i, O, Y, rfl, hik, hB⟩ := hrel
    have hzl := zAll_length R i
    have hFs := hB.bf.size
    have hBwr : Below w.heap.size w wr := HBS.out.trans (hB.bf.below w.heap.size HBS.out.size (fun j hj => by rcases hj with hj | hj <;> omega))
    by_cases hgo : i < k
    · obtain ⟨gb, rfl, hcell⟩ := row_cell' HRowS.out hB.bf HPS.out i hgo
      have hrk := (HRK.out i hgo)
      have HV : Hid (vOf R i = .slice (R i).1 (min (R i).2.1 400) (R i).2.2.1) := rfl
      have hm4 : min (R i).2.1 400 ≤ 400 := by omega
      have hoe := emptyB (w := wr) (B := wr.heap.size) (Nat.le_refl _)
      have hsrc := (hrk.bs.below hBwr).alloc (.cells #[] 5)
      have hcella : (wr.alloc (.cells #[] 5)).cell? ⟨gb, i, none⟩ = some (vOf R i) := by
        obtain ⟨gb', e, h⟩ := row_cell' HRowS.out (hB.bf.then (Fr.of_below ((Below.refl _ wr).alloc (Nat.le_refl _) (.cells #[] 5)))) HPS.out i hgo
        obtain rfl : gb = gb' := by simpa using e
        exact h
      have HBo := hide hB
      have HRk := hide hrk
      have HZ := hide (zAll_succ R i)
      rw [HV.out] at hcell hcella
      have j1 : (i : Int) < (k : Int) := by omega
      have j0 : (0 : Int) ≤ (i : Int) := by omega
      have HCl : Hid (∀ w5, Fr (fun k => k = w3.heap.size ∨ k = w4.heap.size) wS w5 → w5.cell? ⟨gb, i, none⟩ = some (.slice (R i).1 (min (R i).2.1 400) (R i).2.2.1)) := fun w5 hf => by
        obtain ⟨gb', e, h⟩ := row_cell' HRowS.out hf HPS.out i hgo
        obtain rfl : gb = gb' := by simpa using e
        exact h
      have HNil := hide hrk.nil
      have HBwr := hide hBwr
      have HAo : Hid (∀ a, (R i).1 = some a → 0 < min (R i).2.1 400 → a.block < w.heap.size) := fun a ha h0 => by
        rcases hrk.bs.2.2 with h | ⟨b, off, h1, h2, _⟩
        · omega
        · rw [ha] at h1; obtain rfl := Option.some.inj h1; exact h2
      have HBs := hide hrk.bs
      clear hB hrk hBwr
      generalize (R i).1 = A at *
      generalize (R i).2.2.1 = Cp at *
      generalize min (R i).2.1 400 = m at *
      go_wp2_with (first
        | (at_builtin; refine wpList_append_bs _ rfl (.tmp 29) (.tmp 33) rfl wr.heap.size _ _ _ _ rfl hoe A m Cp (zOf R i) rfl hsrc HNil.out (by omega) (by simp) ?_
           intro ao1 k1 wA ho1 hg1
           rw [Nat.zero_add, List.nil_append] at ho1
           have hbA : Below wr.heap.size wr wA := ((Below.refl _ wr).alloc (Nat.le_refl _) _).grown hg1 (by simp) (fun k e => (hoe.lt k e).1)
           have HO1 := hide ho1
           have HBA := hide hbA
           clear ho1 hg1 hbA))
      have hbA := HBA.out
      have hB1 := HBo.out.below hbA
      have hBA : Below w.heap.size w wA := HBwr.out.trans (hbA.mono HBwr.out.size)
      have hsA := hbA.size
      have hwr : w.heap.size ≤ wr.heap.size := HBwr.out.size
      have hOt : ¬ O w2.heap.size := fun hx => by
        rcases hB1.bo _ hx with (h : _ = _) | h <;> omega
      have hOY : ∀ j, (Value.slice ao1 m k1).ownBlock = some j → wr.heap.size ≤ j ∧ j < wA.heap.size := fun j hj => HO1.out.lt j hj
      have hOlt := HBo.out.bp.olt
      have hYlt := HBo.out.bq.olt
      have hTA := HTS.out.fr hB1.bf (by omega) (show ¬ (w2.heap.size = w3.heap.size ∨ w2.heap.size = w4.heap.size) by omega)
      have hdr : Fr (fun _ => False) wA wA.drew := (Fr.refl (fun _ => False) wA).drew
      have HRKb := hide HRk.out.bytes
      have cA : wA.cell? ⟨gb, i, none⟩ = some (.slice A m Cp) := HCl.out wA hB1.bf
      -- what holds behind the program's Add, and behind both
      have HC1 := hide ((Add_any w3.heap.size w2.heap.size m k1 O ao1 ent (zAll R i) (zOf R i) wA.drew (hB1.bp.fr hdr (fun _ _ => id)) hTA (show w2.heap.size < wA.heap.size by omega) hOt small_ent (bs_of_owns (w := wA) HO1.out HRKb.out) (nil_cap HO1.out) (by omega) (by omega)).mono
        (R' := fun r w5 => r = .returned (.int .i64 (rf ent (zAll R i) (zAll R i).length)) ∧ ∃ O5, WrM w5 w3.heap.size O5 w2.heap.size (fr ent (zAll R (i + 1)) ((zAll R (i + 1)).length / 128)) (rest (zAll R (i + 1))) ∧ (WrY w5 w4.heap.size Y (fr ent (zAll R i) ((zAll R i).length / 128)) (rest (zAll R i)) ∧ (∀ k, O5 k → ¬ Y k) ∧ Fr (fun k => k = w3.heap.size ∨ k = w4.heap.size) wS w5 ∧ Gr (One w3.heap.size) O5 wS) ∧ w5.ownsRow wr.heap.size 5 1 (.slice ao1 m k1) m (bv (zOf R i)) ∧ (∀ j, (Value.slice ao1 m k1).ownBlock = some j → ¬ O5 j ∧ ¬ Y j ∧ wr.heap.size ≤ j))
        (fun r w5 ⟨hr, O5, x1, x2, x3⟩ => ⟨hr, O5, by rw [HZ.out]; exact x1, hB1.one x2.undrew x3, owns_fr HO1.out x2.undrew (fun j hj hx => by have := hOlt j hx; have := hOY j hj; omega), fun j hj => ⟨fun hx => by
          have h1 := hOY j hj
          rcases x3 j hx with h | h
          · have := hOlt j h; omega
          · have h' : wA.heap.size ≤ j := h
            omega, fun hx => by have := hYlt j hx; have := hOY j hj; omega, (hOY j hj).1⟩⟩))
      have HC2 : Hid (∀ w5 O5, WrM w5 w3.heap.size O5 w2.heap.size (fr ent (zAll R (i + 1)) ((zAll R (i + 1)).length / 128)) (rest (zAll R (i + 1))) → (WrY w5 w4.heap.size Y (fr ent (zAll R i) ((zAll R i).length / 128)) (rest (zAll R i)) ∧ (∀ k, O5 k → ¬ Y k) ∧ Fr (fun k => k = w3.heap.size ∨ k = w4.heap.size) wS w5 ∧ Gr (One w3.heap.size) O5 wS) → w5.ownsRow wr.heap.size 5 1 (.slice ao1 m k1) m (bv (zOf R i)) → (∀ j, (Value.slice ao1 m k1).ownBlock = some j → ¬ O5 j ∧ ¬ Y j ∧ wr.heap.size ≤ j) →
          Calls Try.prog 13 #[.pointer (some ⟨w4.heap.size, 0, none⟩), .slice A m Cp] w5 fun r w6 => r = .returned (.int .i64 (rf ent (zAll R i) (zAll R i).length)) ∧ ∃ Y6, Both wS w6 w3.heap.size w4.heap.size w2.heap.size O5 Y6 (zAll R (i + 1)) ∧ w6.ownsRow wr.heap.size 5 1 (.slice ao1 m k1) m (bv (zOf R i)) ∧ (∀ j, (Value.slice ao1 m k1).ownBlock = some j → ¬ O5 j ∧ ¬ Y6 j ∧ wr.heap.size ≤ j)) := fun w5 O5 x1 x2 x3 x4 => by
        have hB5 : Below w.heap.size w w5 := HBS.out.trans (x2.2.2.1.below w.heap.size HBS.out.size (fun j hj => by rcases hj with hj | hj <;> omega))
        refine (yAdd_any w4.heap.size m Cp Y A (zAll R i) (zOf R i) w5 x2.1 (HBs.out.below hB5) (fun a ha h0 hx => by
          have h1 := HAo.out a ha h0
          rcases HBo.out.bg _ hx with (h : _ = _) | h <;> omega) (by omega) (by omega)).mono ?_
        rintro r w6 ⟨hr, Y6, y1, y2, y3⟩
        refine ⟨hr, Y6, HBo.out.two x1 x2.2.1 x2.2.2.1 x2.2.2.2 (by rw [HZ.out]; exact y1) y2 y3, owns_fr x3 y2 (fun j hj => (x4 j hj).2.1), fun j hj => ⟨(x4 j hj).1, fun hx => ?_, (x4 j hj).2.2⟩⟩
        rcases y3 j hx with h | h
        · exact (x4 j hj).2.1 h
        · have := (x3.lt j hj).2; omega
      have hz1 := zAll_length R (i + 1)
      have HC3 : Hid (∀ w6 O5 Y6, Both wS w6 w3.heap.size w4.heap.size w2.heap.size O5 Y6 (zAll R (i + 1)) → Calls Try.prog 14 #[.pointer (some ⟨w3.heap.size, 0, none⟩)] w6 fun r w7 => ∃ ao c, r = .returned (.slice ao (done ent (zAll R (i + 1))).length c) ∧ Fresh w6 w7 ao (done ent (zAll R (i + 1))).length c (done ent (zAll R (i + 1)))) := fun w6 O5 Y6 x => by
        have h6 := x.bf.size
        exact metaDone_any w3.heap.size w2.heap.size O5 ent (zAll R (i + 1)) w6 x.bp (HTS.out.fr x.bf (by omega) (show ¬ (w2.heap.size = w3.heap.size ∨ w2.heap.size = w4.heap.size) by omega)) (by omega) small_ent (by omega)
      have HC4 : Hid (∀ w7 O5 Y6, Both wS w7 w3.heap.size w4.heap.size w2.heap.size O5 Y6 (zAll R (i + 1)) → Calls Try.prog 15 #[.pointer (some ⟨w4.heap.size, 0, none⟩)] w7 fun r w8 => ∃ ao c, r = .returned (.slice ao (done ent (zAll R (i + 1))).length c) ∧ Bs w8 ao (done ent (zAll R (i + 1))).length (done ent (zAll R (i + 1))) ∧ Below w7.heap.size w7 w8) := fun w7 O5 Y6 x =>
        yDone_any w4.heap.size Y6 (zAll R (i + 1)) w7 x.bq (by omega)
      generalize rf ent (zAll R i) (zAll R i).length = RN at *
      generalize done ent (zAll R (i + 1)) = X at *
      obtain ⟨dl, hdl⟩ : ∃ dl, X.length = dl := ⟨_, rfl⟩
      rw [hdl] at HC3 HC4
      clear hbA hB1 hBA hOt hOY hOlt hYlt hTA hdr hoe hsrc hcell hcella HBo HRk HBs HAo HRKb hdl
      go_wp2_with fail
      go_region_law ((first
        | (go_simp; go_at_call 12; refine HC1.out.mono ?_; rintro r w5 ⟨rfl, O5, x1, x2, x3, x4⟩; have HP5 := hide x1; have HY5 := hide x2; have HO5 := hide x3; have HN5 := hide x4; have c5 := HCl.out w5 x2.2.2.1; clear x1 x2 x3 x4; dsimp only)
        | (go_simp; go_at_call 13; refine (HC2.out w5 O5 HP5.out HY5.out HO5.out HN5.out).mono ?_; rintro r w6 ⟨rfl, Y6, y1, y2, y3⟩; have HB6 := hide y1; have HO6 := hide y2; have HN6 := hide y3; clear y1 y2 y3; dsimp only)
        | (go_simp; go_at_call 14; refine (HC3.out w6 O5 Y6 HB6.out).mono ?_; rintro r w7 ⟨ao7, c7, rfl, hf7⟩; have HF7 := hide hf7; have s17 := str_any hf7.bs c7; clear hf7; dsimp only)
        | (go_simp; go_at_call 15; refine (HC4.out w7 O5 Y6 (HB6.out.below HF7.out.bel)).mono ?_; rintro r w8 ⟨ao8, c8, rfl, hb8, hbb8⟩; have HB8 := hide hbb8; have s18 := str_any (HF7.out.bs.below hbb8) c7; have s28 := str_any hb8 c8; clear hb8 hbb8; dsimp only)))
      all_goals (
        have hB8 : Both wS w8 w3.heap.size w4.heap.size w2.heap.size O5 Y6 (zAll R (i + 1)) := (HB6.out.below HF7.out.bel).below HB8.out
        have hO8 := owns_below (owns_below HO6.out HF7.out.bel) HB8.out
        have HBo8 := hide hB8
        have HCur : Hid (∀ ob, ao1 = some ⟨ob, 0, none⟩ → 0 < m → ∃ cur, w8.heap[ob]? = some (.cells cur 5 (0, 0)) ∧ m ≤ cur.size) := fun ob ha h0 => by
          rcases hO8.2 with ⟨h, _⟩ | ⟨gg, cap, cur, h, _, h2, h3, _, h5, _⟩
          · simp at h; omega
          · simp at h
            rw [ha] at h
            obtain ⟨h, rfl⟩ := h
            obtain rfl : ob = gg := by simpa using h
            exact ⟨cur, h2, by omega⟩
        have HAo1 : Hid (0 < m → ∃ ob, ao1 = some ⟨ob, 0, none⟩) := fun h0 => by
          obtain ⟨ob, c', hv, _⟩ := hO8.form h0
          exact ⟨ob, by simp at hv; exact hv.1⟩
        have HN8 : Hid (∀ j, (Value.slice ao1 m k1).ownBlock = some j → ¬ O5 j ∧ ¬ Y6 j ∧ wS.heap.size ≤ j) := fun j hj => ⟨(HN6.out j hj).1, (HN6.out j hj).2.1, Nat.le_trans hFs (HN6.out j hj).2.2⟩
        clear hB8 hO8 HB6 HF7 HB8 HO6 HN6 HC1 HC2 HC3 HC4 HP5 HY5 HO5 HN5 HO1 HBA HBwr s17 s18 s28 HCl cA c5
        go_wp2_with fail
        go_loopw [9] (fun s9 wr => ∃ kk : Nat, s9 = .int .i64 kk ∧ kk ≤ m ∧ Both wS wr w3.heap.size w4.heap.size w2.heap.size O5 Y6 (zAll R (i + 1)) ∧ ∀ ob, ao1 = some ⟨ob, 0, none⟩ → 0 < m → ∃ cur, wr.heap[ob]? = some (.cells cur 5 (0, 0)) ∧ m ≤ cur.size) (fun s9 _ => m - (intOf s9).toNat)
        case atStart => exact ⟨0, rfl, by omega, HBo8.out, HCur.out⟩
        case round =>
          clear HBo8 HCur
          obtain ⟨kk, rfl, hkm, hB9, hC9⟩ := hrel
          by_cases hlt : kk < m
          · obtain ⟨ob, rfl⟩ := HAo1.out (by omega)
            obtain ⟨cur, hcur, hcs⟩ := hC9 ob rfl (by omega)
            have hn := HN8.out ob rfl
            have d1 : wr.cell? ⟨ob, kk, none⟩ = some (cur[kk]'(by omega)) := by
              rw [cell_of_row _ _ kk _ _ _ hcur, Array.getElem?_eq_getElem (by omega)]
            have d2 : wr.frozen? ⟨ob, kk, none⟩ = false := by simp [World.frozen?, hcur]
            have hB10 : Both wS (wr.setCell ⟨ob, kk, none⟩ (.int .u8 99)) w3.heap.size w4.heap.size w2.heap.size O5 Y6 (zAll R (i + 1)) := hB9.other (S := One ob) ((Fr.refl (One ob) _).set (p := ⟨ob, kk, none⟩) _ (fun _ => rfl)) (fun j (hj : j = ob) => by rw [hj]; exact ⟨hn.1, hn.2.1⟩) (fun j (hj : j = ob) => by rw [hj]; exact hn.2.2)
            have HB10 := hide hB10
            have HC10 : Hid (∃ cur, (wr.setCell ⟨ob, kk, none⟩ (.int .u8 99)).heap[ob]? = some (.cells cur 5 (0, 0)) ∧ m ≤ cur.size) := ⟨_, heap_setCell_self hcur _, by simpa using hcs⟩
            have i1 : (kk : Int) < (m : Int) := by omega
            have i2 : (0 : Int) ≤ (kk : Int) := by omega
            clear hB9 hC9 hB10 hcur hn
            generalize cur[kk]'(by omega) = cv at *
            go_wp2
            go_roundw
            case rel =>
              refine ⟨kk + 1, by go_num, by omega, HB10.out, ?_⟩
              first
                | exact HC10.out
                | exact fun _ => HC10.out
                | (intro ob' h' _; cases h'; exact HC10.out)
            case measure => simp [intOf]; omega
          · obtain rfl : kk = m := by omega
            have i1 : decide ((kk : Int) < (kk : Int)) = false := by simp
            have HB9 := hide hB9
            clear hB9 hC9
            go_wp2
            refine ⟨⟨i + 1, O5, Y6, by go_num, by omega, HB9.out⟩, by simp only [intOf]; omega⟩)
    · obtain rfl : i = k := by omega
      have i1 : decide ((i : Int) < (i : Int)) = false := by simp
      have hdr : Fr (fun _ => False) wr wr.drew := (Fr.refl (fun _ => False) wr).drew
      have hTA := HTS.out.fr hB.bf (by omega) (show ¬ (w2.heap.size = w3.heap.size ∨ w2.heap.size = w4.heap.size) by omega)
      have HC3 := hide (metaDone_any w3.heap.size w2.heap.size O ent (zAll R i) wr.drew (hB.bp.fr hdr (fun _ _ => id)) hTA (show w2.heap.size < wr.heap.size by omega) small_ent (by omega))
      have HC4 : Hid (∀ w7, Below wr.heap.size wr w7 → Calls Try.prog 15 #[.pointer (some ⟨w4.heap.size, 0, none⟩)] w7 fun r w8 => ∃ ao c, r = .returned (.slice ao (done ent (zAll R i)).length c) ∧ Bs w8 ao (done ent (zAll R i)).length (done ent (zAll R i)) ∧ Below w7.heap.size w7 w8) := fun w7 hb =>
        yDone_any w4.heap.size Y (zAll R i) w7 (hB.bq.below hb) (by omega)
      have HBwr := hide hBwr
      generalize done ent (zAll R i) = X at *
      obtain ⟨dl, hdl⟩ : ∃ dl, X.length = dl := ⟨_, rfl⟩
      rw [hdl] at HC3 HC4
      clear hB hBwr hTA hdr hdl
      go_wp2_with fail
      go_region_law ((first
        | (go_simp; go_at_call 14; refine HC3.out.mono ?_; rintro r w7 ⟨ao7, c7, rfl, hf7⟩; have HF7 := hide hf7; have HB7 : Hid (Below wr.heap.size wr w7) := ⟨hf7.bel.os, hf7.bel.tape, hf7.bel.output, hf7.bel.size, hf7.bel.block⟩; have s17 := str_any hf7.bs c7; clear hf7; dsimp only)
        | (go_simp; go_at_call 15; refine (HC4.out w7 HB7.out).mono ?_; rintro r w8 ⟨ao8, c8, rfl, hb8, hbb8⟩; have HB8 := hide hbb8; have s18 := str_any (HF7.out.bs.below hbb8) c7; have s28 := str_any hb8 c8; clear hb8 hbb8; dsimp only)))
      all_goals (
        have hbr8 := HB7.out.trans (HB8.out.mono HB7.out.size)
        have HFin := hide (HBwr.out.trans (hbr8.mono HBwr.out.size))
        clear hbr8 HC3 HC4 s17 s18 s28
        go_wp2
        go_ret
        exact ⟨rfl, HFin.out⟩)
end Go.Proofs.Ytahbgebnmgnmoaa

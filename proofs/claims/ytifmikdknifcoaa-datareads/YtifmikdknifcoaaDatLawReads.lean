/- Layer 12: DataReads: of any image any blocks are read, and passed, or refused, as the document says. -/
import Derived.Test.YtifmikdknifcoaaDatShown
import Derived.Test.YtifmikdknifcoaaDatAsk
import Derived.Deep.CutBlock
import Derived.Deep.CutRange
import Derived.Deep.RegionLaw
namespace Go.Proofs.Ytifmikdknifcoaa
set_option linter.unusedVariables false
set_option maxRecDepth 100000
open Go.RowKit Go.Maps
open Lz (g)
open Crc (ent more)
open Frm Mtr Dat

theorem upB_drewN {W w : World} (h : Below W.heap.size W w) (k : Nat) : Below W.heap.size W (w.drewN k) := below_drewN h k
theorem upB_drew {W w : World} (h : Below W.heap.size W w) : Below W.heap.size W w.drew := below_drewN h 1
theorem upB_alloc {W w : World} (h : Below W.heap.size W w) (o : Obj) : Below W.heap.size W (w.alloc o) := h.alloc h.size o
/-- Where many orders come to one place: what follows is shown once. -/
theorem joinR {F G : World → Option Addr → Nat → Nat → Int → Option Addr → Nat → Prop} {T : Prop} (h : (∀ w a m c e b k, F w a m c e b k → G w a m c e b k) → T) (h2 : ∀ w a m c e b k, F w a m c e b k → G w a m c e b k) : T := h h2
set_option maxHeartbeats 4000000 in
theorem reads_walk (a0 : Option Addr) (len0 cap0 : Nat) (z0 : List Int) (a1 : Option Addr) (len1 cap1 : Nat) (K : Nat → Ask5) (w : World) (f0 : RowB w a0 len0 cap0 z0) (f1 : Asks5 w a1 len1 cap1 K) :
    Calls Try.prog 4 #[.slice a0 len0 cap0, .slice a1 len1 cap1] w fun e w' => e = .returned (.bool true) ∧ Below w.heap.size w w' := by
  obtain ⟨hz, hi'⟩ := zero_of_info infoTable
  obtain ⟨hbs, hlc, hcm, hby, hnil⟩ := f0.bs (min len0 3000) (by omega)
  have HBS := hide hbs
  have HN := hide hnil
  have HAs := hide f1
  clear f0 hbs hby hnil f1
  generalize z0.take (min len0 3000) = Im at HBS
  go_enter Try.func4, Try.ntmps4
  go_wp2_with fail
  refine (shown_any w).mono ?_
  rintro r ws ⟨rfl, bs0⟩
  have HB0 := hide bs0
  clear bs0
  go_upto_if 20 with fail
  go_cut [0] from 21 to 22 (fun s0 wx => s0 = .slice a0 (min len0 3000) cap0 ∧ wx = ws)
  case first =>
    by_cases h3 : 3000 < len0
    · have e3 : min len0 3000 = 3000 := by omega
      go_wp2_with fail
      go_meet
      case rel => exact ⟨by rw [e3], rfl⟩
    · have e3 : min len0 3000 = len0 := by omega
      go_wp2_with fail
      go_meet
      case rel => exact ⟨by rw [e3], rfl⟩
  case rest =>
  obtain ⟨rfl, hwc⟩ := hcut
  obtain rfl := hwc.symm
  have hm2 : min len0 3000 ≤ cap0 := by omega
  have hm1 : min len0 3000 ≤ 3000 := by omega
  generalize min len0 3000 = m at *
  go_wp2_with fail
  refine (New_any ws).mono ?_
  rintro r w2 ⟨rfl, b2⟩
  obtain ⟨C, hC⟩ : ∃ C, C = tab ent := ⟨_, rfl⟩
  rw [← hC]
  have HC := hide hC
  clear hC
  go_wp2_with (refine wpList_store_table rfl _ _ rfl ent C HC.out rfl rfl _ (by simp) ?_; intro w3 ht3 hT3 hlt3 hb3)
  have b3 : Below w.heap.size w w3 := (HB0.out.trans (b2.mono HB0.out.size)).trans (hb3.mono (Nat.le_trans HB0.out.size b2.size))
  have HB3 := hide b3
  have HT3 := hide hT3
  have HS3 := hide (HBS.out.below b3)
  clear ht3 hT3 hb3 b2 HB0 b3 hz hi' HC hwc
  generalize w2.heap.size = tb at *
  go_loopw [7] (fun s7 wr => ∃ (i : Nat), s7 = .int .i64 i ∧ i ≤ 15 ∧ Below w3.heap.size w3 wr) (fun s7 _ => 15 - (intOf s7).toNat)
  case atStart => exact ⟨0, rfl, by omega, Below.refl _ _⟩
  case round =>
    obtain ⟨i, rfl, hi15, hbr⟩ := hrel
    have HBr := hide hbr
    have hbw : Below w.heap.size w wr := HB3.out.trans (hbr.mono HB3.out.size)
    have HBw := hide hbw
    by_cases hgo : i < len1 ∧ i < 15
    · obtain ⟨b, off, rfl, hbl, hat, hin⟩ : ∃ b off, a1 = some ⟨b, off, none⟩ ∧ b < w.heap.size ∧ Ask5At w b (off + i * 5) (K i) ∧ Ask5In (K i) := by
        rcases HAs.out.2 with h | ⟨b, off, h1, h2, h3⟩
        · omega
        · exact ⟨b, off, h1, h2, h3 i hgo.1⟩
      have hat2 := hat.below hbw hbl
      have d0 := hat2.c0
      have d1 := hat2.c1
      have d2 := hat2.c2
      have d3 := hat2.c3
      have d4 := hat2.c4
      have HIn := hide hin
      generalize K i = o at *
      obtain ⟨st, sz, of, n, fi⟩ := o
      simp only [] at d0 d1 d2 d3 d4
      have i1 : (i : Int) < (len1 : Int) := by omega
      have i2 : (i : Int) < 15 := by omega
      have i3 : (0 : Int) ≤ (i : Int) := by omega
      clear hat hat2 hin hbr hbw
      go_wp2_with fail
      obtain ⟨W5, hW5⟩ : ∃ W5, W5 = wr.alloc (.cells #[.int .i64 st, .int .i64 sz, .int .i64 of, .int .i64 n, .int .i64 fi] 45) := ⟨_, rfl⟩
      rw [← hW5]
      have b5 : Below wr.heap.size wr W5 := by rw [hW5]; exact below_one _ _
      have hx5 : W5.heap[wr.heap.size]? = some (.cells #[.int .i64 st, .int .i64 sz, .int .i64 of, .int .i64 n, .int .i64 fi] 45 (0, 0)) := by rw [hW5]; exact heap_new rfl
      have HB5 := hide (HBr.out.trans (b5.mono HBr.out.size))
      have HX : Hid (∀ wX, Below W5.heap.size W5 wX → wX.cell? ⟨wr.heap.size, 0, none⟩ = some (.int .i64 st) ∧ wX.cell? ⟨wr.heap.size, 1, none⟩ = some (.int .i64 sz) ∧ wX.cell? ⟨wr.heap.size, 2, none⟩ = some (.int .i64 of) ∧ wX.cell? ⟨wr.heap.size, 3, none⟩ = some (.int .i64 n) ∧ wX.cell? ⟨wr.heap.size, 4, none⟩ = some (.int .i64 fi)) := fun wX hX => by
        have := (hX.block _ (heap_lt hx5)).trans hx5
        simp [World.cell?, this]
      have HX4 : Hid (∀ wX, Below W5.heap.size W5 wX → wX.cell? ⟨wr.heap.size, 0, none⟩ = some (.int .i64 st) ∧ wX.cell? ⟨wr.heap.size, 1, none⟩ = some (.int .i64 sz) ∧ wX.cell? ⟨wr.heap.size, 2, none⟩ = some (.int .i64 of) ∧ wX.cell? ⟨wr.heap.size, 3, none⟩ = some (.int .i64 n)) := fun wX hX => by
        obtain ⟨q0, q1, q2, q3, q4⟩ := HX.out wX hX
        exact ⟨q0, q1, q2, q3⟩
      have HS5 := hide (HS3.out.below HB5.out)
      have HT5 := hide (HT3.out.below HB5.out hlt3)
      have hl5 : tb < W5.heap.size := Nat.lt_of_lt_of_le hlt3 HB5.out.size
      have HRe := hide (Rw.of_owns (zs := []) (emptyB (w := W5) (B := W5.heap.size) (Nat.le_refl _)).drew Bytes.nil)
      have HSe := hide ((HS5.out.alloc (.cells #[] 5)).below (below_drewN (Below.refl _ _) 1))
      clear hW5 b5 hx5 d0 d1 d2 d3 d4 hgo
      go_region_held3 (fun wX => wX.cell? ⟨wr.heap.size, 0, none⟩ = some (.int .i64 st) ∧ wX.cell? ⟨wr.heap.size, 1, none⟩ = some (.int .i64 sz) ∧ wX.cell? ⟨wr.heap.size, 2, none⟩ = some (.int .i64 of) ∧ wX.cell? ⟨wr.heap.size, 3, none⟩ = some (.int .i64 n)) (exact HX4.out _ (by repeat (first | exact HBO.out | exact HB4.out | exact Below.refl _ _ | apply upB_drew | apply upB_drewN | apply upB_alloc)))
        ((first
          | (refine step_append_rw (W5.alloc (.cells #[] 5)).drew (by rfl) (.tmp 39) (.tmp 40) (by rfl) W5.heap.size (some ⟨W5.heap.size, 0, none⟩) 0 0 [] (by rfl) HRe.out a0 m cap0 Im (by rfl) HSe.out HN.out (by omega) (by simp) ?_; intro ao4 k4 w4 hA hg hl; rw [Nat.zero_add] at hA ⊢; rw [List.nil_append] at hA; have HRw := hide hA; have HB4 : Hid (Below W5.heap.size W5 w4) := (((Below.refl _ W5).alloc (Nat.le_refl _) _).drew).grown hg (by simp) (fun k e => (HRe.out.own e).1); clear hA hg hl)
          | (go_at_call 17; refine (dRead_any tb m k4 st sz of n ent ao4 Im w4 (HT5.out.below HB4.out hl5) (Nat.lt_of_lt_of_le hl5 HB4.out.size) small_ent HRw.out.bs HRw.out.2.2.1 HRw.out.nil (by omega) (by have := HRw.out.2.2.2.1; unfold maxLen at this; omega) HIn.out.i0 HIn.out.i1 HIn.out.i2 HIn.out.i3).mono ?_; rintro r wO ⟨aoR, cR, rfl, hR⟩; have HR := hide hR; have HBO := hide (HB4.out.trans (hR.bel.mono HB4.out.size)); clear hR)))
      obtain ⟨q0, q1, q2, q3, q4⟩ := HX.out wO HBO.out
      have HRR := hide (refDRead_any m cap0 st sz of n a0 Im wO (HS5.out.below HBO.out) hm2 HN.out (by omega) hcm HIn.out.i0 HIn.out.i1 HIn.out.i2 HIn.out.i3)
      unfold DReads at HRR
      have HRb : Hid (Bs wO aoR (rd ent Im st sz of n).1.length (rd ent Im st sz of n).1) := HR.out.bs
      obtain ⟨R, hR⟩ : ∃ R, R = rd ent Im st sz of n := ⟨_, rfl⟩
      rw [← hR] at HRR HRb ⊢
      obtain ⟨Y, er⟩ := R
      simp only [] at HRR HRb ⊢
      obtain ⟨yl, hyl⟩ : ∃ yl, Y.length = yl := ⟨_, rfl⟩
      rw [hyl] at HRR HRb ⊢
      clear hR hyl HR HRe HSe HRw HB4 HX4
      go_wp2_with fail
      refine HRR.out.mono ?_
      rintro r w6 ⟨ao6, c6, rfl, hF6⟩
      have HB6 := hide (HBO.out.trans (hF6.bel.mono HBO.out.size))
      have HY6 := hide hF6.bs
      have HY5 := hide (HRb.out.below hF6.bel)
      clear hF6 HRR HRb q0 q1 q2 q3 q4 HBO
      go_wp2_with fail
      have HX6 : Hid (∀ wX, Below w6.heap.size w6 wX → wX.cell? ⟨wr.heap.size, 0, none⟩ = some (.int .i64 st) ∧ wX.cell? ⟨wr.heap.size, 1, none⟩ = some (.int .i64 sz) ∧ wX.cell? ⟨wr.heap.size, 4, none⟩ = some (.int .i64 fi)) := fun wX hX => by
        obtain ⟨q0, q1, q2, q3, q4⟩ := HX.out wX (HB6.out.trans (hX.mono HB6.out.size))
        exact ⟨q0, q1, q4⟩
      have HS6 := hide (HS5.out.below HB6.out)
      have HRe := hide (Rw.of_owns (zs := []) (emptyB (w := w6) (B := w6.heap.size) (Nat.le_refl _)).drew Bytes.nil)
      have HSe := hide ((HS6.out.alloc (.cells #[] 5)).below (below_drewN (Below.refl _ _) 1))
      go_region_held3 (fun wX => wX.cell? ⟨wr.heap.size, 0, none⟩ = some (.int .i64 st) ∧ wX.cell? ⟨wr.heap.size, 1, none⟩ = some (.int .i64 sz) ∧ wX.cell? ⟨wr.heap.size, 4, none⟩ = some (.int .i64 fi)) (exact HX6.out _ (by repeat (first | exact HBO.out | exact HB4.out | exact Below.refl _ _ | apply upB_drew | apply upB_drewN | apply upB_alloc)))
        ((first
          | (refine step_append_rw (w6.alloc (.cells #[] 5)).drew (by rfl) (.tmp 67) (.tmp 68) (by rfl) w6.heap.size (some ⟨w6.heap.size, 0, none⟩) 0 0 [] (by rfl) HRe.out a0 m cap0 Im (by rfl) HSe.out HN.out (by omega) (by simp) ?_; intro ao4 k4 w4 hA hg hl; rw [Nat.zero_add] at hA ⊢; rw [List.nil_append] at hA; have HRw := hide hA; have HB4 : Hid (Below w6.heap.size w6 w4) := (((Below.refl _ w6).alloc (Nat.le_refl _) _).drew).grown hg (by simp) (fun k e => (HRe.out.own e).1); clear hA hg hl)
          | (go_at_call 19; refine (dWalk_any m k4 st sz fi ao4 Im w4 HRw.out.bs HRw.out.2.2.1 HRw.out.nil (by omega) (by have := HRw.out.2.2.2.1; unfold maxLen at this; omega) HIn.out.i0 HIn.out.i1 HIn.out.i4).mono ?_; rintro r wO ⟨hR, hbO⟩; unfold DWalks at hR; subst hR; have HBO := hide (HB4.out.trans (hbO.mono HB4.out.size)); clear hbO)))
      obtain ⟨q0, q1, q4⟩ := HX6.out wO HBO.out
      have HRR := hide (refDWalk_any m cap0 st sz fi a0 Im wO (HS6.out.below HBO.out) hm2 HN.out (by omega) hcm HIn.out.i0 HIn.out.i1 HIn.out.i4)
      unfold DWalks at HRR
      generalize wk Im st sz fi = V at *
      obtain ⟨va, ve⟩ := V
      simp only [] at HRR ⊢
      clear HRe HSe HRw HB4
      go_wp2_with fail
      refine HRR.out.mono ?_
      rintro r w8 ⟨rfl, hb8⟩
      have HB8 := hide (HBO.out.trans (hb8.mono HBO.out.size))
      have s5 := str_any (HY5.out.below HB8.out) cR
      have s6 := str_any (HY6.out.below HB8.out) c6
      have HBf := hide (HB5.out.trans ((HB6.out.trans (HB8.out.mono HB6.out.size)).mono HB5.out.size))
      clear hb8 HRR q0 q1 q4 HX6 HX
      have e1 : ((strOfNums Y).toList == (strOfNums Y).toList) = true := by simp
      have e2 : (er != er) = false := by simp
      have e3 : (va != va) = false := by simp
      have e4 : (ve != ve) = false := by simp
      go_wp2
      go_roundw
      case rel => exact ⟨i + 1, by go_num, by omega, HBf.out⟩
      case measure => simp [intOf]; omega
    · have hexit : (decide ((i : Int) < (len1 : Int)) = false ∧ ¬ i < len1) ∨ ((i : Int) < (len1 : Int) ∧ (15 : Int) ≤ (i : Int)) := by
        by_cases h1 : i < len1
        · exact .inr ⟨by omega, by omega⟩
        · exact .inl ⟨by simp; omega, h1⟩
      clear hgo
      rcases hexit with ⟨e1, e2⟩ | ⟨e1, e2⟩
      all_goals (
        go_wp2
        go_ret
        exact ⟨rfl, HBw.out⟩)
end Go.Proofs.Ytifmikdknifcoaa

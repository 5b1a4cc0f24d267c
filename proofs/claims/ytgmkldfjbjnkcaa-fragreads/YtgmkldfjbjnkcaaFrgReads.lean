/- Layer 13: FragReads: of any image any tails are read, or refused, as the document says. -/
import Derived.Test.YtgmkldfjbjnkcaaFrgShown
import Derived.Test.YtgmkldfjbjnkcaaFrgAsk
import Derived.Test.YtgmkldfjbjnkcaaIntsC
import Derived.Test.YtgmkldfjbjnkcaaFrgRefRead
import Derived.Deep.CutBlock
import Derived.Deep.CutRange
import Derived.Deep.RegionLaw
namespace Go.Proofs.Ytgmkldfjbjnkcaa
set_option linter.unusedVariables false
set_option maxRecDepth 100000
open Go.RowKit Go.Maps
open Lz (g)
open Crc (ent more)
open Frm Mtr Frg

theorem upB_drewN {W w : World} (h : Below W.heap.size W w) (k : Nat) : Below W.heap.size W (w.drewN k) := below_drewN h k
theorem upB_drew {W w : World} (h : Below W.heap.size W w) : Below W.heap.size W w.drew := below_drewN h 1
theorem upB_alloc {W w : World} (h : Below W.heap.size W w) (o : Obj) : Below W.heap.size W (w.alloc o) := h.alloc h.size o
set_option maxHeartbeats 4000000 in
theorem reads_walk (a0 : Option Addr) (len0 cap0 : Nat) (z0 : List Int) (a1 : Option Addr) (len1 cap1 : Nat) (Z1 : Nat → Int) (a2 : Option Addr) (len2 cap2 : Nat) (K : Nat → Int × Int × Int) (w : World)
    (f0 : RowB w a0 len0 cap0 z0) (f1 : IntsB w a1 len1 cap1 Z1) (fc1 : len1 ≤ cap1) (fm1 : cap1 ≤ 9223372036854775807) (f2 : AsksF w a2 len2 cap2 K) :
    Calls Try.prog 4 #[.slice a0 len0 cap0, .slice a1 len1 cap1, .slice a2 len2 cap2] w fun e w' => e = .returned (.bool true) ∧ Below w.heap.size w w' := by
  obtain ⟨hz, hi'⟩ := zero_of_info infoTable
  obtain ⟨hbs, hlc, hcm, hby, hnil⟩ := f0.bs (min len0 2000) (by omega)
  obtain ⟨hzs, hzi⟩ := f1.zs (min len1 20) (by omega)
  have HBS := hide hbs
  have HN := hide hnil
  have HAs := hide f2
  have HZs := hide hzs
  have HZi := hide hzi
  clear f0 hbs hby hnil f1 f2 hzs hzi
  generalize z0.take (min len0 2000) = Im at HBS
  generalize (List.range (min len1 20)).map Z1 = P at HZs HZi
  go_enter Try.func4, Try.ntmps4
  go_wp2_with fail
  refine (shown_any w).mono ?_
  rintro r ws ⟨rfl, bs0⟩
  have HB0 := hide bs0
  clear bs0
  go_upto_if 17 with fail
  go_cut [0] from 18 to 19 (fun s0 wx => s0 = .slice a0 (min len0 2000) cap0 ∧ wx = ws)
  case first =>
    by_cases h3 : 2000 < len0
    · have e3 : min len0 2000 = 2000 := by omega
      go_wp2_with fail
      go_meet
      case rel => exact ⟨by rw [e3], rfl⟩
    · have e3 : min len0 2000 = len0 := by omega
      go_wp2_with fail
      go_meet
      case rel => exact ⟨by rw [e3], rfl⟩
  case rest =>
  obtain ⟨rfl, hwc⟩ := hcut
  obtain rfl := hwc.symm
  clear hwc
  go_upto_if 22 with fail
  go_cut [1] from 23 to 24 (fun s1 wx => s1 = .slice a1 (min len1 20) cap1 ∧ wx = ws)
  case first =>
    by_cases h3 : 20 < len1
    · have e3 : min len1 20 = 20 := by omega
      go_wp2_with fail
      go_meet
      case rel => exact ⟨by rw [e3], rfl⟩
    · have e3 : min len1 20 = len1 := by omega
      go_wp2_with fail
      go_meet
      case rel => exact ⟨by rw [e3], rfl⟩
  case rest =>
  obtain ⟨rfl, hwc⟩ := hcut
  obtain rfl := hwc.symm
  have hm2 : min len0 2000 ≤ cap0 := by omega
  have hm1 : min len0 2000 ≤ 2000 := by omega
  generalize min len0 2000 = m at *
  have hp1 : min len1 20 ≤ 20 := by omega
  generalize min len1 20 = pn at *
  go_wp2_with fail
  refine (New_any ws).mono ?_
  rintro r w2 ⟨rfl, b2⟩
  obtain ⟨C, hC⟩ : ∃ C, C = tab ent := ⟨_, rfl⟩
  rw [← hC]
  have HC := hide hC
  clear hC
  go_wp2_with (refine wpList_store_table rfl _ _ rfl ent C HC.out rfl rfl _ (by simp) ?_; intro w3 ht3 hT3 hlt3 hb3)
  have b3 : Below w.heap.size w w3 := (HB0.out.trans (b2.mono HB0.out.size)).trans (hb3.mono (Nat.le_trans HB0.out.size b2.size))
  have HB3 := hide b3
  have HT3 := hide hT3
  have HS3 := hide (HBS.out.below b3)
  have HZ3 := hide (HZs.out.below b3)
  clear ht3 hT3 hb3 b2 HB0 b3 hz hi' HC hwc
  generalize w2.heap.size = tb at *
  go_loopw [9] (fun s9 wr => ∃ (i : Nat), s9 = .int .i64 i ∧ i ≤ 20 ∧ Below w3.heap.size w3 wr) (fun s9 _ => 20 - (intOf s9).toNat)
  case atStart => exact ⟨0, rfl, by omega, Below.refl _ _⟩
  case round =>
    obtain ⟨i, rfl, hi20, hbr⟩ := hrel
    have HBr := hide hbr
    have hbw : Below w.heap.size w wr := HB3.out.trans (hbr.mono HB3.out.size)
    have HBw := hide hbw
    by_cases hgo : i < len2 ∧ i < 20
    · obtain ⟨b, off, rfl, hbl, e0, e1, e2, n0, n1, n2⟩ : ∃ b off, a2 = some ⟨b, off, none⟩ ∧ b < w.heap.size ∧ w.cell? ⟨b, off + i * 3, none⟩ = some (.int .i64 (K i).1) ∧ w.cell? ⟨b, off + i * 3 + 1, none⟩ = some (.int .i64 (K i).2.1) ∧ w.cell? ⟨b, off + i * 3 + 2, none⟩ = some (.int .i64 (K i).2.2) ∧ In64 (K i).1 ∧ In64 (K i).2.1 ∧ In64 (K i).2.2 := by
        rcases HAs.out.2 with h | ⟨b, off, h1, h2, h3⟩
        · omega
        · exact ⟨b, off, h1, h2, h3 i hgo.1⟩
      generalize (K i).1 = nu at *
      generalize (K i).2.1 = of at *
      generalize (K i).2.2 = n at *
      have HX : Hid (∀ wX, Below wr.heap.size wr wX → wX.cell? ⟨b, off + i * 3, none⟩ = some (.int .i64 nu) ∧ wX.cell? ⟨b, off + i * 3 + 1, none⟩ = some (.int .i64 of) ∧ wX.cell? ⟨b, off + i * 3 + 2, none⟩ = some (.int .i64 n)) := fun wX hX => by
        have hB := HBw.out.trans (hX.mono HBw.out.size)
        exact ⟨(hB.cell (by exact hbl)).trans e0, (hB.cell (by exact hbl)).trans e1, (hB.cell (by exact hbl)).trans e2⟩
      have i1 : (i : Int) < (len2 : Int) := by omega
      have i2 : (i : Int) < 20 := by omega
      have i3 : (0 : Int) ≤ (i : Int) := by omega
      have HI := hide (And.intro n0 (And.intro n1 n2))
      have HS5 := hide (HS3.out.below HBr.out)
      have HZ5 := hide (HZ3.out.below HBr.out)
      have HT5 := hide (HT3.out.below HBr.out hlt3)
      have hl5 : tb < wr.heap.size := Nat.lt_of_lt_of_le hlt3 HBr.out.size
      have HRe := hide (Rw.of_owns (zs := []) (emptyB (w := wr) (B := wr.heap.size) (Nat.le_refl _)).drew Bytes.nil)
      have HSe := hide ((HS5.out.alloc (.cells #[] 5)).below (below_drewN (Below.refl _ _) 1))
      clear hbr hbw e0 e1 e2 n0 n1 n2 hgo
      go_wp2_with fail
      go_region_held3 (fun wX => wX.cell? ⟨b, off + i * 3, none⟩ = some (.int .i64 nu) ∧ wX.cell? ⟨b, off + i * 3 + 1, none⟩ = some (.int .i64 of) ∧ wX.cell? ⟨b, off + i * 3 + 2, none⟩ = some (.int .i64 n)) (exact HX.out _ (by repeat (first | exact HBO.out | exact HB4.out | exact Below.refl _ _ | apply upB_drew | apply upB_drewN | apply upB_alloc)))
        ((first
          | (refine step_append_rw (wr.alloc (.cells #[] 5)).drew (by rfl) (.tmp 37) (.tmp 38) (by rfl) wr.heap.size (some ⟨wr.heap.size, 0, none⟩) 0 0 [] (by rfl) HRe.out a0 m cap0 Im (by rfl) HSe.out HN.out (by omega) (by simp) ?_; intro ao4 k4 w4 hA hg hl; rw [Nat.zero_add] at hA ⊢; rw [List.nil_append] at hA; have HRw := hide hA; have HB4 : Hid (Below wr.heap.size wr w4) := (((Below.refl _ wr).alloc (Nat.le_refl _) _).drew).grown hg (by simp) (fun k e => (HRe.out.own e).1); clear hA hg hl)
          | (go_at_call 14; refine (fRead_any tb m k4 pn cap1 nu of n ent ao4 a1 Im P w4 (HT5.out.below HB4.out hl5) (Nat.lt_of_lt_of_le hl5 HB4.out.size) small_ent HRw.out.bs HRw.out.2.2.1 HRw.out.nil (by omega) (by have := HRw.out.2.2.2.1; unfold maxLen at this; omega) (HZ5.out.below HB4.out) HZi.out (by omega) HI.out.1 HI.out.2.1 HI.out.2.2).mono ?_; rintro r wO ⟨aoR, cR, rfl, hR⟩; have HR := hide hR; have HBO := hide (HB4.out.trans (hR.bel.mono HB4.out.size)); clear hR)))
      rename_i hHd
      clear hHd
      have HX2 : Hid (∀ wX, Below wO.heap.size wO wX → wX.cell? ⟨b, off + i * 3, none⟩ = some (.int .i64 nu) ∧ wX.cell? ⟨b, off + i * 3 + 1, none⟩ = some (.int .i64 of) ∧ wX.cell? ⟨b, off + i * 3 + 2, none⟩ = some (.int .i64 n)) := fun wX hX => HX.out wX (HBO.out.trans (hX.mono HBO.out.size))
      have HRR : Hid (∀ wX, Below wO.heap.size wO wX → Calls Try.prog 15 #[.slice a0 m cap0, .slice a1 pn cap1, .int .i64 nu, .int .i64 of, .int .i64 n] wX fun r w' => FReads ent Im P nu of n wX w' r) := fun wX hX => by
        have hb := HBO.out.trans (hX.mono HBO.out.size)
        exact refFRead_any m cap0 pn cap1 nu of n a0 a1 Im P wX (HS5.out.below hb) hm2 HN.out (by omega) hcm (HZ5.out.below hb) HZi.out (by omega) HI.out.1 HI.out.2.1 HI.out.2.2
      unfold FReads at HRR
      have HRb : Hid (Bs wO aoR (rd ent Im P nu of n).1.length (rd ent Im P nu of n).1) := HR.out.bs
      obtain ⟨R, hR⟩ : ∃ R, R = rd ent Im P nu of n := ⟨_, rfl⟩
      rw [← hR] at HRR HRb ⊢
      obtain ⟨Y, er⟩ := R
      simp only [] at HRR HRb ⊢
      obtain ⟨yl, hyl⟩ : ∃ yl, Y.length = yl := ⟨_, rfl⟩
      rw [hyl] at HRR HRb ⊢
      clear hR hyl HR HRe HSe HRw HB4 HX
      go_wp2_with fail
      go_region_held3 (fun wX => wX.cell? ⟨b, off + i * 3, none⟩ = some (.int .i64 nu) ∧ wX.cell? ⟨b, off + i * 3 + 1, none⟩ = some (.int .i64 of) ∧ wX.cell? ⟨b, off + i * 3 + 2, none⟩ = some (.int .i64 n)) (exact HX2.out _ (by repeat (first | exact HBP.out | exact Below.refl _ _ | apply upB_drew | apply upB_drewN | apply upB_alloc)))
        ((first
          | (go_at_call 15; refine (HRR.out _ (by repeat (first | exact HBP.out | exact Below.refl _ _ | apply upB_drew | apply upB_drewN | apply upB_alloc))).mono ?_; rintro r wP ⟨aoP, cP, rfl, hP⟩; have HP := hide hP; have HBP : Hid (Below wO.heap.size wO wP) := (by repeat (first | exact HBP.out | exact Below.refl _ _ | apply upB_drew | apply upB_drewN | apply upB_alloc) : Below wO.heap.size wO _).trans (hP.bel.mono (by simp)); clear hP)))
      rename_i hHd
      clear hHd HX2 HRR
      have s5 := str_any (HRb.out.below HBP.out) cR
      have s6 := str_any HP.out.bs cP
      have HBf := hide (HBr.out.trans ((HBO.out.trans (HBP.out.mono HBO.out.size)).mono HBr.out.size))
      have e1 : ((strOfNums Y).toList == (strOfNums Y).toList) = true := by simp
      have e2 : (er != er) = false := by simp
      clear HP HRb
      go_wp2
      go_roundw
      case rel => exact ⟨i + 1, by go_num, by omega, HBf.out⟩
      case measure => simp [intOf]; omega
    · have hexit : (decide ((i : Int) < (len2 : Int)) = false ∧ ¬ i < len2) ∨ ((i : Int) < (len2 : Int) ∧ (20 : Int) ≤ (i : Int)) := by
        by_cases h1 : i < len2
        · exact .inr ⟨by omega, by omega⟩
        · exact .inl ⟨by simp; omega, h1⟩
      clear hgo
      rcases hexit with ⟨e1, e2⟩ | ⟨e1, e2⟩
      all_goals (
        go_wp2
        go_ret
        exact ⟨rfl, HBw.out⟩)
end Go.Proofs.Ytgmkldfjbjnkcaa

/- Layer 12: DataOnce: files that have the same blocks have them once: a file that is added again, with any tail, lays nothing down. -/
import Derived.Test.YtifmikdknifcoaaDatRows
import Derived.Deep.CutBlock
import Derived.Deep.CutRange
import Derived.Deep.RegionLaw
namespace Go.Proofs.Ytifmikdknifcoaa
set_option linter.unusedVariables false
set_option maxRecDepth 100000
open Go.RowKit Go.Maps
open Lz (g)
open Crc (ent more)
open Frm Mtr Dat

theorem upC_drewN {W w : World} (h : Below W.heap.size W w) (k : Nat) : Below W.heap.size W (w.drewN k) := below_drewN h k
theorem upC_drew {W w : World} (h : Below W.heap.size W w) : Below W.heap.size W w.drew := below_drewN h 1
theorem upC_alloc {W w : World} (h : Below W.heap.size W w) (o : Obj) : Below W.heap.size W (w.alloc o) := h.alloc h.size o
set_option maxHeartbeats 4000000 in
theorem once_walk (a0 : Option Addr) (len0 cap0 : Nat) (R : DRT) (a1 : Option Addr) (len1 cap1 : Nat) (z1 : List Int) (w : World) (f0 : MatB w a0 len0 cap0 R) (f1 : RowB w a1 len1 cap1 z1) :
    Calls Try.prog 6 #[.slice a0 len0 cap0, .slice a1 len1 cap1] w fun e w' => e = .returned (.bool true) ∧ Below w.heap.size w w' := by
  obtain ⟨hz, hi'⟩ := zero_of_info infoTable
  have HRK : Hid (∀ r, r < min len0 12 → DRowK w R r) := fun r hr => f0.dRowK (by omega)
  obtain ⟨hbs, hlc, hcm, hby, hnil⟩ := f1.bs (min len1 127) (by omega)
  have HBS := hide hbs
  have HN := hide hnil
  have HRows := hide (fun w' hw' => dRows_any a0 len0 cap0 R w w' f0 hw')
  clear f0 f1 hbs hby hnil
  generalize z1.take (min len1 127) = tz at HBS
  go_enter Try.func6, Try.ntmps6
  go_wp2_with fail
  refine (shown_any w).mono ?_
  rintro r ws ⟨rfl, bs0⟩
  have HB0 := hide bs0
  go_wp2_with fail
  refine (HRows.out ws bs0).mono ?_
  rintro r wl ⟨lo, lc, rfl, hrow, bl⟩
  have HBl := hide (bs0.trans (bl.mono bs0.size))
  have HRow := hide hrow
  clear bs0 bl hrow HRows HB0
  go_upto_if 22 with fail
  go_cut [1] from 23 to 24 (fun s1 wx => s1 = .slice a1 (min len1 127) cap1 ∧ wx = wl)
  case first =>
    by_cases h3 : 127 < len1
    · have e3 : min len1 127 = 127 := by omega
      go_wp2_with fail
      go_meet
      case rel => exact ⟨by rw [e3], rfl⟩
    · have e3 : min len1 127 = len1 := by omega
      go_wp2_with fail
      go_meet
      case rel => exact ⟨by rw [e3], rfl⟩
  case rest =>
  obtain ⟨rfl, hwc⟩ := hcut
  obtain rfl := hwc.symm
  have ht2 : min len1 127 ≤ cap1 := by omega
  have ht1 : min len1 127 ≤ 127 := by omega
  generalize min len1 127 = tn at *
  have hm12 : min len0 12 ≤ 12 := by omega
  generalize min len0 12 = m at *
  go_wp2_with fail
  refine (New_any wl).mono ?_
  rintro r w2 ⟨rfl, b2⟩
  obtain ⟨C, hC⟩ : ∃ C, C = tab ent := ⟨_, rfl⟩
  rw [← hC]
  have HC := hide hC
  clear hC
  go_wp2_with (first | (refine wpList_store_table rfl _ _ rfl ent C HC.out rfl rfl _ (by simp) ?_; intro w3 ht3 hT3 hlt3 hb3) | fail)
  have hl3 : Below wl.heap.size wl w3 := b2.trans (hb3.mono b2.size)
  have HB3 := hide (HBl.out.trans (hl3.mono HBl.out.size))
  have HR3 := hide (owns_below HRow.out hl3)
  have HT3 := hide hT3
  clear ht3 hT3 hb3 b2 hl3 hz hi' HC hwc HRow HBl
  refine (dNew_any w2.heap.size 64 w3).mono ?_
  rintro r w4 ⟨rfl, hw4, hb4⟩
  have HD4 := hide (DS.new (Below.refl _ w3) HT3.out hlt3 hw4 hb4)
  clear hw4 hb4 HT3
  generalize w2.heap.size = tb at *
  generalize w3.heap.size + 1 = p at *
  have HZL := hide (fun j => dz_length R j)
  have HK : Hid (∀ W, Below w3.heap.size w3 W → ∀ j, j < m → DRowK W R j) := fun W hW j hj => (HRK.out j hj).below (HB3.out.trans (hW.mono HB3.out.size))
  have HTl : Hid (∀ W, Below w3.heap.size w3 W → Bs W a1 tn tz) := fun W hW => HBS.out.below (HB3.out.trans (hW.mono HB3.out.size))
  have HLc : Hid (∀ W, Below w3.heap.size w3 W → ∀ j, j < m → ∃ gb, lo = some ⟨gb, 0, none⟩ ∧ W.cell? ⟨gb, j, none⟩ = some (dvOf R j)) := fun W hW j hj => by
    obtain ⟨gb, c', hv, _, hlt⟩ := HR3.out.form (by omega)
    obtain ⟨rfl, rfl⟩ : lo = some ⟨gb, 0, none⟩ ∧ lc = c' := by simpa using hv
    refine ⟨gb, rfl, ?_⟩
    rw [hW.cell (p := ⟨gb, j, none⟩) hlt, HR3.out.cellAt j (by omega)]
    simp [dcut, hj]
  have HE : Hid (DN w3 p tb (fun k => w3.heap.size ≤ k ∧ k < w3.heap.size + 2) ([], []) (some ⟨w4.heap.size, 0, none⟩) 0 0 [] (w4.alloc (.cells #[] 3))) :=
    ⟨HD4.out.below (below_one _ _), emptyR HD4.out.bel.size, fun k hk hx => by
      simp [Value.ownBlock] at hk
      have := HD4.out.wr.olt k hx
      omega, hlt3⟩
  clear HRK HR3 HD4
  go_wp2
  go_loopw [8, 9] (fun s8 s9 wr => ∃ (i sc : Nat) (O : Nat → Prop) (so : Option Addr), s8 = .slice so i sc ∧ s9 = .int .i64 i ∧ i ≤ m ∧ DN w3 p tb O (stt (dzOf R) i) so i sc (plsL (dzOf R) i) wr) (fun _ s9 _ => m - (intOf s9).toNat)
  case atStart => exact ⟨0, 0, _, _, rfl, rfl, Nat.zero_le _, HE.out⟩
  case round =>
    clear HE
    obtain ⟨i, sc, O, so, rfl, rfl, hi, hD⟩ := hrel
    have HD := hide hD
    have hlen := stt_len (dzOf R) HZL.out i
    by_cases hgo : i < m
    · have hg1 : (i : Int) < (m : Int) := by omega
      obtain ⟨gb, rfl, hcell⟩ := HLc.out wr hD.ds.bel i hgo
      have hk := HK.out wr hD.ds.bel i hgo
      unfold dvOf at hcell
      have hcap := hk.cap
      have hmax := hk.max
      have HAd := hide (hD.ds.adds (min (R i).2.1 1500) (R i).2.2.1 (R i).1 (dzOf R i) hk.bs hk.cap hk.max hk.nil (by omega) (by omega) (by omega) (by omega))
      have HP := hide (show addA 64 (stt (dzOf R) i) (run ent (dzOf R i)) = pls (dzOf R) i from rfl)
      have HS := hide (show addS 64 (stt (dzOf R) i) (run ent (dzOf R i)) = stt (dzOf R) (i + 1) from rfl)
      rw [HP.out, HS.out] at HAd
      generalize (R i).1 = A at *
      generalize min (R i).2.1 1500 = L at *
      generalize (R i).2.2.1 = Cp at *
      have HPl := hide (plsL_succ (dzOf R) i)
      generalize pls (dzOf R) i = at' at *
      clear hk hD HP HS
      go_wp2_with fail
      refine HAd.out.mono ?_
      rintro e w5 ⟨ao5, c5, O5, rfl, _, _, hD5, hF5, hG5, _⟩
      have HD5 := hide (HD.out.step hD5 hF5 hG5)
      have hs5 := HD5.out.ds.bel.size
      have HO5 := hide (HD5.out.row.alloc (.cells #[.int .i64 at'] 3))
      clear hD5 hF5 hG5 HAd HD
      generalize (tl (dzOf R i)).length = tl5 at *
      go_wp2_with (first
        | (at_builtin
           refine wpList_append_num_at _ rfl (.tmp 49) (.tmp 51) rfl w3.heap.size so i sc _ rfl HO5.out w5.heap.size at' rfl (by simp) (by omega) (by simp; omega) ?_
           intro b' c' w6 ho6 hg6 hl6
           have HD6 := hide (HD5.out.put ho6 hg6 (fun k hk => by
             simp [Value.ownBlock] at hk
             rcases hl6 with h6 | h6
             · exact .inl (by rw [h6, hk])
             · exact .inr (by simp at h6; omega)))
           clear ho6 hg6 hl6))
      go_roundw
      case rel => exact ⟨i + 1, c', O5, _, rfl, by go_num, by omega, by rw [HPl.out]; exact HD6.out⟩
      case measure => simp [intOf]; omega
    · obtain rfl : m = i := by omega
      have hg1 : ¬ (m : Int) < (m : Int) := by omega
      have HDn := hide (dDone_any p tb 64 O (stt (dzOf R) m) wr hD.ds.wr (by omega))
      obtain ⟨T, hT⟩ : ∃ T, (stt (dzOf R) m).1.length = T := ⟨_, rfl⟩
      rw [hT] at HDn hlen
      have HT := hide hT
      clear hT hD
      go_wp2_with fail
      refine HDn.out.mono ?_
      rintro e w5 ⟨ao5, c5, rfl, hN5⟩
      have HD5 := hide (HD.out.below hN5.bel)
      clear hN5 HDn HD hg1 hi hgo
      go_wp2
      go_loopw [13] (fun s13 wr => ∃ (i : Nat) (O : Nat → Prop), s13 = .int .i64 i ∧ i ≤ m ∧ DN w3 p tb O (stt (dzOf R) m) so m sc (plsL (dzOf R) m) wr) (fun s13 _ => m - (intOf s13).toNat)
      case atStart => exact ⟨0, O, rfl, Nat.zero_le _, HD5.out⟩
      case round =>
        clear HD5
        obtain ⟨i, O, rfl, hi, hD⟩ := hrel
        have HD := hide hD
        by_cases hgo : i < m
        · have hg1 : (i : Int) < (m : Int) := by omega
          obtain ⟨gb, rfl, _⟩ := HLc.out wr hD.ds.bel i hgo
          have HLk : Hid (∀ wX, Below wr.heap.size wr wX → wX.cell? ⟨gb, i, none⟩ = some (dvOf R i)) := fun wX hX => by
            obtain ⟨gb', e1, e2⟩ := HLc.out wX (hD.ds.bel.trans (hX.mono hD.ds.bel.size)) i hgo
            obtain rfl : gb = gb' := by simpa using e1
            exact e2
          have hk := HK.out wr hD.ds.bel i hgo
          unfold dvOf at HLk
          have hzl := HZL.out i
          have hzn : (dzOf R i).length = min (R i).2.1 1500 := hk.bs.1
          have HHas := hide (stt_has (dzOf R) i m hgo)
          obtain ⟨KK, hKK⟩ : ∃ KK, 128 * (min (R i).2.1 1500 / 128) = KK := ⟨_, rfl⟩
          obtain ⟨q, hq⟩ : ∃ q, min (R i).2.1 1500 / 128 = q := ⟨_, rfl⟩
          have HWh : Hid ((dzOf R i).take KK = wh (dzOf R i)) := by show _ = _; unfold wh; rw [hzn, hKK]
          have hKL : KK ≤ min (R i).2.1 1500 := by omega
          have HSrc := hide (hk.bs.take KK hKL)
          rw [HWh.out] at HSrc
          have HNil := hide hk.nil
          have hcap := hk.cap
          have hmax := hk.max
          have hqi : ((min (R i).2.1 1500 : Nat) : Int) / 128 = (q : Int) := by omega
          have hKi : (q : Int) * 128 = (KK : Int) := by omega
          have HPa := hide (plsL_at (dzOf R) m i hgo)
          generalize hA : (R i).1 = A at *
          generalize min (R i).2.1 1500 = L at *
          generalize (R i).2.2.1 = Cp at *
          have hKK2 : (KK : Int) ≤ (Cp : Int) := by omega
          have hKK0 : KK ≤ 1500 := by omega
          have hKK1 : (0 : Int) ≤ (KK : Int) := by omega
          have hw1 : IntKind.i64.wrap (q : Int) = (q : Int) := by rw [IntKind.wrap_i64]; omega
          have hw2 : IntKind.i64.wrap ((q : Int) * 128) = (KK : Int) := by rw [IntKind.wrap_i64]; omega
          have hw3 : IntKind.i64.wrap (KK : Int) = (KK : Int) := by rw [IntKind.wrap_i64]; omega
          have HTz := hide (HTl.out wr hD.ds.bel)
          have HRe := hide (Rw.of_owns (zs := []) (emptyB (w := wr) (B := wr.heap.size) (Nat.le_refl _)).drew Bytes.nil)
          have HSe := hide ((HSrc.out.alloc (.cells #[] 5)).below (below_drewN (Below.refl _ _) 1))
          clear hk hD hKK hq hzn hA
          go_wp2_with fail
          go_region_held3 (fun wX => wX.cell? ⟨gb, i, none⟩ = some (.slice A L Cp)) (exact HLk.out _ (by repeat (first | exact HB4.out | exact HBA.out | exact Below.refl _ _ | apply upC_drew | apply upC_drewN | apply upC_alloc)))
            ((first
              | (refine step_append_rw (wr.alloc (.cells #[] 5)).drew (by rfl) (.tmp 62) (.tmp 74) (by rfl) wr.heap.size (some ⟨wr.heap.size, 0, none⟩) 0 0 [] (by rfl) HRe.out A KK Cp (wh (dzOf R i)) (by rfl) HSe.out HNil.out (by omega) (by simp) ?_; intro aoA kA wA hA hg hl; rw [Nat.zero_add] at hA ⊢; rw [List.nil_append] at hA; have HRA := hide hA; have HBA : Hid (Below wr.heap.size wr wA) := (((Below.refl _ wr).alloc (Nat.le_refl _) _).drew).grown hg (by simp) (fun k e => (HRe.out.own e).1); clear hA hg hl)
              | (refine step_append_rw wA (by rfl) (.tmp 75) (.tmp 76) (by rfl) wr.heap.size aoA KK kA (wh (dzOf R i)) (by rfl) HRA.out a1 tn cap1 tz (by rfl) (HTz.out.below HBA.out) HN.out (by omega) HBA.out.size ?_; intro ao4 k4 w4 hA hg hl; have HR4 := hide hA; have HB4 : Hid (Below wr.heap.size wr w4) := HBA.out.grown hg HBA.out.size (fun k e => (HRA.out.own e).1); clear hA hg hl)))
          have HD4' := hide (HD.out.below HB4.out)
          have htl : tz.length = tn := HTz.out.1
          have HAd := hide (HD4'.out.ds.adds (KK + tn) k4 ao4 (wh (dzOf R i) ++ tz) HR4.out.bs HR4.out.2.2.1 (by have := HR4.out.2.2.2.1; unfold maxLen at this; omega) HR4.out.nil (by omega) (by have := HT.out; omega) (by omega) (by omega))
          rw [run_wh ent (dzOf R i) tz (by omega), tl_wh (dzOf R i) tz (by omega), (HHas.out.add (first := 64)).1, (HHas.out.add (first := 64)).2, htl] at HAd
          obtain ⟨at', hat⟩ : ∃ at' : Nat, pls (dzOf R) i = at' := ⟨_, rfl⟩
          rw [hat] at HAd HPa
          clear HRe HSe HRA HBA HD HSrc HHas htl hat
          go_wp2_with fail
          refine HAd.out.mono ?_
          rintro e w6 ⟨ao6, c6, O6, rfl, hB6, hn6, hD6, hF6, hG6, _⟩
          have HD6 := hide (HD4'.out.step hD6 hF6 hG6)
          obtain ⟨sb, so', rfl, hsl, hsc⟩ := (Zs.of HD6.out.row).at (by omega)
          have hsi := hsc i hgo
          rw [HPa.out] at hsi
          have HDn := hide (dDone_any p tb 64 O6 (stt (dzOf R) m) w6 hD6.wr (by have := HT.out; omega))
          rw [HT.out] at HDn
          have s6 := str_any hB6 c6
          have s7 := str_any (HTl.out w6 hD6.bel) cap1
          have g1 : ((at' : Int) != (at' : Int)) = false := by simp
          have g2 : ((strOfNums tz).toList == (strOfNums tz).toList) = true := by simp
          have g3 : ((T : Int) != (T : Int)) = false := by simp
          clear hD6 hF6 hG6 hB6 hn6 HAd HD4' hsc
          go_wp2_with (first | (go_at_call 16; refine HDn.out.mono ?_; rintro e w7 ⟨ao7, c7, rfl, hN7⟩; have HD7 := hide (HD6.out.below hN7.bel); clear hN7))
          go_roundw
          case rel => exact ⟨i + 1, O6, by go_num, by omega, HD7.out⟩
          case measure => simp [intOf]; omega
        · obtain rfl : m = i := by omega
          have hg1 : ¬ (m : Int) < (m : Int) := by omega
          have HBf := hide (HB3.out.trans (hD.ds.bel.mono HB3.out.size))
          clear hD hgo
          go_wp2
          go_ret
          exact ⟨rfl, HBf.out⟩
end Go.Proofs.Ytifmikdknifcoaa

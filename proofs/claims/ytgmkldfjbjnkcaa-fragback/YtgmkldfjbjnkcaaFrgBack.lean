/- Layer 13: FragBack: tails that were added are read as they were, out of frames that stand anywhere. -/
import Derived.Test.YtgmkldfjbjnkcaaFrgBackP
import Derived.Deep.CutBlock
import Derived.Deep.CutRange
import Derived.Deep.RegionLaw
import Derived.Deep.AppendLies
namespace Go.Proofs.Ytgmkldfjbjnkcaa
set_option linter.unusedVariables false
set_option maxRecDepth 100000
open Go.RowKit Go.Maps
open Lz (g)
open Crc (ent more)
open Frm Mtr Frg

theorem upD_drewN {W w : World} (h : Below W.heap.size W w) (k : Nat) : Below W.heap.size W (w.drewN k) := below_drewN h k
theorem upD_drew {W w : World} (h : Below W.heap.size W w) : Below W.heap.size W w.drew := below_drewN h 1
theorem upD_alloc {W w : World} (h : Below W.heap.size W w) (o : Obj) : Below W.heap.size W (w.alloc o) := h.alloc h.size o
set_option maxHeartbeats 4000000 in
theorem back_walk (a0 : Option Addr) (len0 cap0 : Nat) (R : FRT) (a1 : Option Addr) (len1 cap1 : Nat) (z1 : List Int) (w : World) (f0 : MatB w a0 len0 cap0 R) (f1 : RowB w a1 len1 cap1 z1) :
    Calls Try.prog 5 #[.slice a0 len0 cap0, .slice a1 len1 cap1] w fun e w' => e = .returned (.bool true) ∧ Below w.heap.size w w' := by
  obtain ⟨hz, hi'⟩ := zero_of_info infoTable
  obtain ⟨i1, hi1, hz0, hz1, hz2⟩ := info_parts infoBytes
  obtain ⟨ia, hia, hy0, hy1, hy2⟩ := info_parts infoAskF
  have HRK : Hid (∀ r, r < min len0 60 → FRowK w R r) := fun r hr => f0.fRowK (by omega)
  obtain ⟨hbs, hlc, hcm, hby, hnil⟩ := f1.bs (min len1 200) (by omega)
  have HBS := hide hbs
  have HN := hide hnil
  have HRows := hide (fun w' hw' => fRows_any a0 len0 cap0 R w w' f0 hw')
  clear f0 f1 hbs hby hnil
  generalize z1.take (min len1 200) = Ah at HBS
  go_enter Try.func5, Try.ntmps5
  go_wp2_with fail
  refine (shown_any w).mono ?_
  rintro r ws ⟨rfl, bs0⟩
  go_wp2_with fail
  refine (HRows.out ws bs0).mono ?_
  rintro r wl ⟨lo, lc, rfl, hrow, bl⟩
  have HBl := hide (bs0.trans (bl.mono bs0.size))
  have HRow := hide hrow
  clear bs0 bl hrow HRows
  go_upto_if 27 with fail
  go_cut [1] from 28 to 29 (fun s1 wx => s1 = .slice a1 (min len1 200) cap1 ∧ wx = wl)
  case first =>
    by_cases h3 : 200 < len1
    · have e3 : min len1 200 = 200 := by omega
      go_wp2_with fail
      go_meet
      case rel => exact ⟨by rw [e3], rfl⟩
    · have e3 : min len1 200 = len1 := by omega
      go_wp2_with fail
      go_meet
      case rel => exact ⟨by rw [e3], rfl⟩
  case rest =>
  obtain ⟨rfl, hwc⟩ := hcut
  obtain rfl := hwc.symm
  have ha2 : min len1 200 ≤ cap1 := by omega
  have ha1 : min len1 200 ≤ 200 := by omega
  generalize min len1 200 = an at *
  have hm60 : min len0 60 ≤ 60 := by omega
  generalize min len0 60 = m at *
  go_wp2_with fail
  refine (New_any wl).mono ?_
  rintro r w2 ⟨rfl, b2⟩
  obtain ⟨C, hC⟩ : ∃ C, C = tab ent := ⟨_, rfl⟩
  rw [← hC]
  have HC := hide hC
  clear hC
  go_wp2_with (first | (refine wpList_store_table rfl _ _ rfl ent C HC.out rfl rfl _ (by simp) ?_; intro w3 ht3 hT3 hlt3 hb3) | fail)
  have hl3 : Below wl.heap.size wl w3 := b2.trans (hb3.mono b2.size)
  have HB3 := hide (HBl.out.trans (hl3.mono HBl.out.size))
  have HR3 := hide (owns_below HRow.out hl3)
  have HT3 := hide hT3
  clear ht3 hT3 hb3 b2 hl3 hz hi' HC hwc HRow HBl
  refine (fNew_any w3).mono ?_
  rintro r w4 ⟨rfl, hp4, hb4, hs4⟩
  have HD4 := hide (Fps.new (Below.refl _ w3) hp4 hb4)
  clear hp4 hb4 hs4
  generalize w2.heap.size = tb at *
  have HZL := hide (fun j => fz_length R j)
  have HK : Hid (∀ W, Below w3.heap.size w3 W → ∀ j, j < m → FRowK W R j) := fun W hW j hj => (HRK.out j hj).below (HB3.out.trans (hW.mono HB3.out.size))
  have HLc : Hid (∀ W, Below w3.heap.size w3 W → ∀ j, j < m → ∃ gb, lo = some ⟨gb, 0, none⟩ ∧ W.cell? ⟨gb, j, none⟩ = some (fvOf R j)) := fun W hW j hj => by
    obtain ⟨gb, c', hv, _, hlt⟩ := HR3.out.form (by omega)
    obtain ⟨rfl, rfl⟩ : lo = some ⟨gb, 0, none⟩ ∧ lc = c' := by simpa using hv
    refine ⟨gb, rfl, ?_⟩
    rw [hW.cell (p := ⟨gb, j, none⟩) hlt, HR3.out.cellAt j (by omega)]
    simp [fcut, hj]
  have HNo : Hid (∀ (O : Nat → Prop), (∀ k, O k → w3.heap.size ≤ k) → ∀ j, j < m → ∀ a, (R j).1 = some a → 0 < min (R j).2.1 200 → ¬ O a.block) := fun O hO j hj a ha h0 hx => by
    have h1 := (HK.out w3 (Below.refl _ _) j hj).bs
    rcases h1.2.2 with h2 | ⟨b, off, h2, h3, _⟩
    · omega
    · rw [ha] at h2
      obtain rfl := Option.some.inj h2
      have := hO _ hx
      simp only at this
      omega
  have HE : Hid (FB w3 w3.heap.size (One w3.heap.size) [] (some ⟨w4.heap.size, 0, none⟩) 0 0 [] (some ⟨w4.heap.size + 1, 0, none⟩) 0 0 [] ((w4.alloc (.cells #[] 46)).alloc (.cells #[] 30))) := by
    have h1 := HD4.out.bel.size
    refine ⟨(HD4.out.below (below_one _ _)).below (below_one _ _), owns_below (emptyR h1) (below_one _ _), ?_, fun k hk hx => ?_, fun k hk hx => ?_⟩
    · have := emptyR (w := w4.alloc (.cells #[] 46)) (B := w3.heap.size) (t := 30) (size := 1) (by simp; omega)
      simpa using this
    · simp [Value.ownBlock] at hk
      have := HD4.out.pk.olt k hx
      omega
    · simp [Value.ownBlock] at hk
      have := HD4.out.pk.olt k hx
      omega
  clear HRK HR3 HD4
  generalize hp : w3.heap.size = p at HE ⊢
  clear hp
  go_wp2_with fail
  go_loopw [8, 9, 10] (fun s8 s9 s10 wr => ∃ (i kc ic : Nat) (O : Nat → Prop) (ko io : Option Addr), s8 = .slice ko (gi (fzOf R) i).length kc ∧ s9 = .slice io (gi (fzOf R) i).length ic ∧ s10 = .int .i64 i ∧ i ≤ m ∧
      FB w3 p O (stt (fzOf R) i) ko (gi (fzOf R) i).length kc (akv (fzOf R) (gi (fzOf R) i)) io (gi (fzOf R) i).length ic ((gi (fzOf R) i).map (fvOf R)) wr) (fun _ _ s10 _ => m - (intOf s10).toNat)
  case atStart => exact ⟨0, 0, 0, _, _, _, rfl, rfl, rfl, Nat.zero_le _, HE.out⟩
  case round =>
    clear HE
    obtain ⟨i, kc, ic, O, ko, io, rfl, rfl, rfl, hi, hD⟩ := hrel
    have HD := hide hD
    have hlen := stt_len (fzOf R) i
    have hfl := stt_flat (fzOf R) 200 HZL.out i
    have hgl := gi_le (fzOf R) i
    by_cases hgo : i < m
    · have hg1 : (i : Int) < (m : Int) := by omega
      obtain ⟨gb, rfl, hcell⟩ := HLc.out wr hD.fs.bel i hgo
      have HLk : Hid (∀ W, Below w3.heap.size w3 W → W.cell? ⟨gb, i, none⟩ = some (fvOf R i)) := fun W hW => by
        obtain ⟨gb', e1, e2⟩ := HLc.out W hW i hgo
        obtain rfl : gb = gb' := by simpa using e1
        exact e2
      have HFv : Hid (fvOf R i = .slice (R i).1 (min (R i).2.1 200) (R i).2.2.1) := rfl
      unfold fvOf at HLk hcell
      have hk := HK.out wr hD.fs.bel i hgo
      have hno := HNo.out O hD.fs.ow i hgo
      have hcap := hk.cap
      have hmax := hk.max
      have HAd := hide (hD.fs.adds (min (R i).2.1 200) (R i).2.2.1 (R i).1 (fzOf R i) hk.bs hk.nil hno (by omega) (by omega) (by omega))
      have HSt := hide (show (add (stt (fzOf R) i) (fzOf R i)).1 = stt (fzOf R) (i + 1) from rfl)
      have HLn : Hid ((fzOf R i).length = min (R i).2.1 200) := hk.bs.1
      have hL200 : min (R i).2.1 200 ≤ 200 := by omega
      generalize (R i).1 = A at *
      generalize min (R i).2.1 200 = Ln at *
      generalize (R i).2.2.1 = Cp at *
      obtain ⟨kn, hkn⟩ : ∃ kn, (gi (fzOf R) i).length = kn := ⟨_, rfl⟩
      rw [hkn] at HD hgl ⊢
      have HKn := hide hkn
      clear hk hD hno hkn
      by_cases hbad : (fzOf R i).length < 1 ∨ 128 ≤ (fzOf R i).length
      · have hadd := add_bad (L := stt (fzOf R) i) hbad
        have HGi : Hid (gi (fzOf R) (i + 1) = gi (fzOf R) i) := gi_bad (by unfold good; simp only [decide_eq_false_iff_not, Decidable.not_not]; exact hbad)
        have HSS : Hid (stt (fzOf R) (i + 1) = stt (fzOf R) i) := by rw [← HSt.out, hadd]; rfl
        rw [hadd] at HAd
        have hcs : Ln = 0 ∨ (decide ((Ln : Int) < 1) = false ∧ ¬ (Ln : Int) < 1 ∧ (128 : Int) ≤ (Ln : Int)) := by
          have := HLn.out
          by_cases e : Ln = 0
          · exact .inl e
          · exact .inr ⟨by simp; omega, by omega, by omega⟩
        clear hbad hadd
        go_upto_region 15 with (first | (go_at_call 10; refine HAd.out.mono ?_; rintro e w5 ⟨rfl, O5, hD5, hF5, hG5⟩; have HD5 := hide (HD.out.step hD5 hF5 hG5); clear hD5 hF5 hG5 HAd) | fail)
        have hl5 := HLk.out w5 HD5.out.fs.bel
        have HX5 : Hid (FB w3 p O5 (stt (fzOf R) (i + 1)) ko (gi (fzOf R) (i + 1)).length kc (akv (fzOf R) (gi (fzOf R) (i + 1))) io (gi (fzOf R) (i + 1)).length ic ((gi (fzOf R) (i + 1)).map (fvOf R)) w5) := by
          rw [HSS.out, HGi.out, HKn.out]; exact HD5.out
        clear hcell HD HD5
        rcases hcs with rfl | ⟨c1, c2, c3⟩
        all_goals
          go_wp2
          go_roundw
          case rel => exact ⟨i + 1, kc, ic, O5, ko, io, by rw [HGi.out, HKn.out], by rw [HGi.out, HKn.out], by go_num, by omega, HX5.out⟩
          case measure => simp [intOf]; omega
      · have HGi : Hid (gi (fzOf R) (i + 1) = gi (fzOf R) i ++ [i]) := gi_good (good_true.2 hbad)
        obtain ⟨nu, hnu⟩ : ∃ nu, (add (stt (fzOf R) i) (fzOf R i)).2.1 = nu := ⟨_, rfl⟩
        obtain ⟨of, hof⟩ : ∃ of, (add (stt (fzOf R) i) (fzOf R i)).2.2 = of := ⟨_, rfl⟩
        rw [hnu, hof, HSt.out] at HAd
        have HAk : Hid (akc (fzOf R) i = [.int .i64 (nu : Nat), .int .i64 (of : Nat), .int .i64 (Ln : Nat)]) := by show _ = _; unfold akc; rw [hnu, hof, HLn.out]
        have hLn := HLn.out
        have c1 : decide ((Ln : Int) < 1) = false := by simp; omega
        have c1' : ¬ (Ln : Int) < 1 := by omega
        have c2 : decide ((128 : Int) ≤ (Ln : Int)) = false := by simp; omega
        have c2' : ¬ (128 : Int) ≤ (Ln : Int) := by omega
        clear hbad hnu hof hLn
        go_upto_region 15 with (first | (go_at_call 10; refine HAd.out.mono ?_; rintro e w5 ⟨rfl, O5, hD5, hF5, hG5⟩; have HD5 := hide (HD.out.step hD5 hF5 hG5); clear hD5 hF5 hG5 HAd) | fail)
        have hl5 := HLk.out w5 HD5.out.fs.bel
        have hs5 := HD5.out.fs.bel.size
        clear hcell HD
        go_upto_region 19 with (first
          | (at_builtin
             refine wpList_append_lies _ rfl (.tmp 75) (.tmp 84) 36 rfl w3.heap.size 46 ia (.agg #[.int .i64 0, .int .i64 0, .int .i64 0]) 3 24 Try.underlying36 hia hy0 hy1 hy2 rfl (by decide) _ _ _ rfl (HD5.out.ask.alloc _) ⟨w5.heap.size, 0, none⟩ 1 1 [.int .i64 (nu : Nat), .int .i64 (of : Nat), .int .i64 (Ln : Nat)] rfl rfl (World.news_of_block (heap_alloc_new w5 (.cells #[.int .i64 (nu : Nat), .int .i64 (of : Nat), .int .i64 (Ln : Nat)] 46))) (fun u hu => by simp at hu; rcases hu with rfl | rfl | rfl <;> rfl) (by decide) (by unfold maxLen; omega) (by omega) (by simp; omega) (w5.heap.size + 1) (by simp) ?_
             intro g6 c6 w6 o6 k6 l6 _
             have HD6 := hide (HD5.out.putA o6 k6 l6 (by omega))
             clear o6 k6 l6))
        have hl6 := HLk.out w6 HD6.out.fs.bel
        have hs6 := HD6.out.fs.bel.size
        clear HD5 hl5 hs5
        go_wp2_with (first
          | (at_builtin
             refine wpList_append_lies _ rfl (.tmp 86) (.tmp 91) 22 rfl w3.heap.size 30 i1 (.slice none 0 0) 1 24 Try.underlying22 hi1 hz0 hz1 hz2 rfl (by decide) _ _ _ rfl (HD6.out.ins.alloc _) ⟨w6.heap.size, 0, none⟩ 1 1 [.slice A Ln Cp] rfl rfl (cell_one_new w6 _ _) (fun u hu => by simp at hu; subst hu; rfl) (by decide) (by unfold maxLen; omega) (by omega) (by simp; omega) (w6.heap.size + 1) (by simp) ?_
             intro g7 c7 w7 o7 k7 l7 _
             have HD7 := hide (HD6.out.putI o7 k7 l7 (by omega))
             clear o7 k7 l7))
        have HX7 : Hid (FB w3 p O5 (stt (fzOf R) (i + 1)) (some ⟨g6, 0, none⟩) (gi (fzOf R) (i + 1)).length c6 (akv (fzOf R) (gi (fzOf R) (i + 1))) (some ⟨g7, 0, none⟩) (gi (fzOf R) (i + 1)).length c7 ((gi (fzOf R) (i + 1)).map (fvOf R)) w7) := by
          rw [HGi.out, akv_append, akv_one, HAk.out, List.map_append, List.map_cons, List.map_nil, HFv.out, List.length_append, HKn.out]
          exact HD7.out
        have HNl : Hid (kn + 1 = (gi (fzOf R) (i + 1)).length) := by show _ = _; rw [HGi.out, List.length_append, HKn.out]; rfl
        clear HD7 HD6 hl6 hs6
        go_roundw
        case rel => exact ⟨i + 1, c6, c7, O5, _, _, by rw [HNl.out], by rw [HNl.out], by go_num, by omega, HX7.out⟩
        case measure => simp [intOf]; omega
    · obtain rfl : i = m := by omega
      have hg1 : ¬ (i : Int) < (i : Int) := by omega
      have hok := stt_ok (fzOf R) i
      obtain ⟨L, hLe⟩ : ∃ L, stt (fzOf R) i = L := ⟨_, rfl⟩
      obtain ⟨kn, hkn⟩ : ∃ kn, (gi (fzOf R) i).length = kn := ⟨_, rfl⟩
      rw [hLe] at hok hlen hfl HD
      rw [hkn] at hgl HD ⊢
      have HLe := hide hLe
      have HKn := hide hkn
      have HOk := hide hok
      have HBA := hide (HBS.out.below (HB3.out.trans (hD.fs.bel.mono HB3.out.size)))
      have HSA := hide (HBA.out.alloc (.cells #[] 5))
      have HRe := hide (Rw.of_owns (zs := []) (emptyB (w := wr) (B := wr.heap.size) (Nat.le_refl _)) Bytes.nil)
      clear hD hok hLe hkn HLc
      go_upto_region 21 with (first
        | (at_builtin
           refine wpList_append_rw _ rfl (.tmp 93) (.tmp 94) rfl wr.heap.size (some ⟨wr.heap.size, 0, none⟩) 0 0 [] rfl HRe.out a1 an cap1 Ah rfl HSA.out HN.out (by omega) (by simp) ?_
           intro ao5 c5 w5 hA hg hl
           rw [Nat.zero_add] at hA ⊢
           rw [List.nil_append] at hA
           have HR5 := hide hA
           have Hb5 : Hid (Below wr.heap.size wr w5) := ((Below.refl _ wr).alloc (Nat.le_refl _) _).grown hg (by simp) (fun k e => (HRe.out.own e).1)
           clear hA hg hl))
      go_upto_region 22 with fail
      have Hb6 : Hid (Below wr.heap.size wr (w5.alloc (.cells #[] 3))) := Hb5.out.alloc Hb5.out.size _
      have HP6 := hide (emptyR (w := w5) (B := 0) (t := 3) (size := 1) (Nat.zero_le _))
      have HR6 : Hid (Rw (w5.alloc (.cells #[] 3)) wr.heap.size ao5 an c5 Ah ∧ ∀ k, (Value.slice ao5 an c5).ownBlock = some k → k < w5.heap.size) := ⟨HR5.out.fr (Fr.of_below (S := fun _ => False) (below_one w5 _)) (fun _ _ => id), fun k hk => (HR5.out.own hk).2.1⟩
      have hs6 : (w5.alloc (.cells #[] 3)).heap.size = w5.heap.size + 1 := by simp
      have hs5 := Hb5.out.size
      generalize w5.heap.size = p5 at *
      generalize w5.alloc (.cells #[] 3) = w6 at *
      have HBk := hide (fBlocks_any p O L w6 (HD.out.fs.pk.below Hb6.out) HOk.out (by omega) (by omega))
      obtain ⟨ln, hln⟩ : ∃ ln, L.length = ln := ⟨_, rfl⟩
      rw [hln] at HBk hlen
      have HLen := hide hln
      clear HRe HSA HBA HR5 Hb5 hln hg1 hi hgo hfl
      go_upto_region 23 with (first | (go_at_call 12; refine HBk.out.mono ?_; rintro e wC ⟨bo, rfl, hBC⟩; have HBC := hide hBC; clear hBC) | fail)
      obtain ⟨Y, hY⟩ : ∃ Y : Nat → Prop, Y = fun k => wr.heap.size ≤ k ∧ k < w6.heap.size := ⟨_, rfl⟩
      have hbC := HBC.out.bel
      have HF : Hid (FI wC Y ao5 an c5 (Ah ++ frs ent L 0) (some ⟨p5, 0, none⟩) 0 0 (plc ent Ah L 0) wC) := by
        rw [frs_zero, List.append_nil]
        refine ⟨Fr.refl _ _, (HR6.out.1.mono (Nat.zero_le _)).fr (Fr.of_below (S := fun _ => False) hbC) (fun _ _ => id), owns_below HP6.out hbC, fun k hk => .inl ?_, fun k hk => .inl ?_⟩
        · rw [hY]
          have h1 := (HR6.out.1.own hk).1
          have h2 := HR6.out.2 k hk
          exact ⟨h1, by omega⟩
        · rw [hY]
          simp [Value.ownBlock] at hk
          exact ⟨by omega, by omega⟩
      have HWr : Hid (∀ W, Fr Y wC W → Below wr.heap.size wr W) := fun W hW => by
        have h1 : Below wr.heap.size wr wC := Hb6.out.trans (hbC.mono Hb6.out.size)
        exact h1.trans (hW.below _ h1.size (fun k hk => by rw [hY] at hk; exact hk.1))
      have HBl : Hid (∀ W, Fr Y wC W → ∀ k (h : k < L.length), ∃ gb A, bo = some ⟨gb, 0, none⟩ ∧ W.cell? ⟨gb, k, none⟩ = some (.slice (some A) L[k].length L[k].length) ∧ Bs W (some A) L[k].length L[k]) := fun W hW k h => by
        obtain ⟨gb, A, h1, h2, h3, h4, h5, h6, h7⟩ := HBC.out.each k h
        refine ⟨gb, A, h1, ?_, h5.fr hW (fun a ha _ hx => ?_)⟩
        · rw [hW.cell (q := ⟨gb, k, none⟩) h3 (fun hx => by rw [hY] at hx; have := hx.2; simp only at this; omega)]
          exact h4
        · obtain rfl := Option.some.inj ha
          rw [hY] at hx
          have := hx.2
          omega
      have hlC : tb < wr.heap.size := Nat.lt_of_lt_of_le hlt3 HD.out.fs.bel.size
      have HTr := hide (HT3.out.below HD.out.fs.bel hlt3)
      have hAl : Ah.length = an := HBS.out.1
      have HAl := hide hAl
      have HFl := hide (fun k hk => frs_len ent L HOk.out k hk)
      clear hY hbC HBC HBk HR6 HP6 Hb6 hAl hs6 hs5
      obtain ⟨wL, rfl⟩ : ∃ wL, wL = wr := ⟨_, rfl⟩
      go_wp2_with fail
      go_loopw [13, 14, 16] (fun s13 s14 s16 wx => ∃ (k n ic' pc : Nat) (io' po : Option Addr), s13 = .slice io' n ic' ∧ s14 = .slice po k pc ∧ s16 = .int .i64 k ∧ k ≤ ln ∧ n = an + (frs ent L k).length ∧ FI wC Y io' n ic' (Ah ++ frs ent L k) po k pc (plc ent Ah L k) wx) (fun _ _ s16 _ => ln - (intOf s16).toNat)
      case atStart => exact ⟨0, an, c5, 0, ao5, _, rfl, rfl, rfl, Nat.zero_le _, by rw [frs_zero]; rfl, HF.out⟩
      case round =>
        clear HF
        obtain ⟨k, n, ic', pc, io', po, rfl, rfl, rfl, hk, hn, hF⟩ := hrel
        have hfl := HFl.out k (by rw [HLen.out]; exact hk)
        have hn2 : n ≤ 8300 := by omega
        have HFk := hide hF
        have HNk := hide hn
        clear hn hfl
        by_cases hgk : k < ln
        · have hg1 : (k : Int) < (ln : Int) := by omega
          have hkL : k < L.length := by rw [HLen.out]; exact hgk
          obtain ⟨gb, Ad, rfl, hcb, hbb⟩ := HBl.out wr hF.fr k hkL
          have hob := HOk.out _ (List.getElem_mem hkL)
          have HPt := hide (Put_any tb L[k].length L[k].length ent (some Ad) L[k] wr (HTr.out.below (HWr.out wr hF.fr) hlC) (Nat.lt_of_lt_of_le hlC (HWr.out wr hF.fr).size) small_ent hbb (Nat.le_refl _) (fun h => by simp at h) (by omega))
          have HFs := hide (frs_succ ent L k hkL)
          have HPl := hide (put_length (T := ent) (b := L[k]) hob.2)
          have HPc : Hid (plc ent Ah L (k + 1) = plc ent Ah L k ++ [(n : Int)]) := by show _ = _; rw [plc_succ, HAl.out, ← HNk.out]
          have HPb := hide (put_bytes (T := ent) hbb.bytes)
          obtain ⟨X, hX⟩ : ∃ X, put ent L[k] = X := ⟨_, rfl⟩
          unfold Puts at HPt
          rw [hX] at HPt HFs HPl HPb
          obtain ⟨xl, hxl⟩ : ∃ xl, X.length = xl := ⟨_, rfl⟩
          rw [hxl] at HPt HPl
          have hxl2 : xl ≤ 135 := HPl.out.2.2
          have HXl := hide hxl
          have hl128 := hob.2
          clear hX hxl hF hbb
          generalize L[k] = B at *
          generalize B.length = bl at *
          have HPt2 : Hid (Calls Try.prog 16 #[.pointer (some ⟨tb, 0, none⟩), .slice (some Ad) bl bl] wr fun r w' => ∃ ao' c', r = .returned (.tuple #[.slice ao' xl c', .int .i64 0]) ∧ New wr w' ao' xl c' X) := HPt.out.mono (by
            rintro r w' (⟨h, _⟩ | ⟨_, h⟩)
            · omega
            · exact h)
          clear HPt
          go_upto_region 29 with (first | (go_at_call 16; refine HPt2.out.mono ?_; rintro e w8 ⟨xo, xc, rfl, hN8⟩; have HN8 := hide hN8; clear hN8) | fail)
          have HF8 := hide (HFk.out.below HN8.out.bel)
          have HO8 := hide (HF8.out.pl.alloc (.cells #[.int .i64 (n : Int)] 3))
          clear HPt2 hcb
          go_upto_region 30 with (first
            | (at_builtin
               refine wpList_append_num_at _ rfl (.tmp 115) (.tmp 118) rfl 0 po k pc _ rfl HO8.out w8.heap.size (n : Int) rfl (by simp) (by omega) (Nat.zero_le _) ?_
               intro b' c' w9 ho9 hg9 hl9
               have HF9 := hide (HF8.out.putP ho9 hg9 hl9)
               have HX9 : Hid (Bs w9 xo xl X) := (HN8.out.bs.below (below_one _ _)).fr (Fr.of_grown (S := fun k' => (Value.slice po k pc).ownBlock = some k') hg9 (fun k hk => hk)) (fun a ha _ hx => by
                 have h1 := (HN8.out.own a ha).1
                 have h2 := (HFk.out.pl.lt _ hx).2
                 omega)
               clear ho9 hg9 hl9))
          go_wp2_with (first
            | (at_builtin
               refine wpList_append_rw _ rfl (.tmp 120) (.tmp 121) rfl 0 io' n ic' _ rfl HF9.out.im xo xl xc X rfl HX9.out HN8.out.nil (by omega) (Nat.zero_le _) ?_
               intro ao10 c10 w10 hA hg hl
               have HF10 := hide (HF9.out.putI hA hg hl)
               clear hA hg hl))
          have HX10 : Hid (FI wC Y ao10 (n + xl) c10 (Ah ++ frs ent L (k + 1)) (some ⟨b', 0, none⟩) (k + 1) c' (plc ent Ah L (k + 1)) w10) := by
            rw [HFs.out, HPc.out, ← List.append_assoc]; exact HF10.out
          clear HF10 HF9 HF8 HO8 HX9
          go_roundw
          case rel => exact ⟨k + 1, n + xl, c10, c', ao10, _, rfl, rfl, by go_num, by omega, by rw [HFs.out, List.length_append, HXl.out, HNk.out]; omega, HX10.out⟩
          case measure => simp [intOf]; omega
        · obtain rfl : k = ln := by omega
          have hg1 : ¬ (k : Int) < (k : Int) := by omega
          have HIm := hide hF.im
          have HZs := hide (Zs.of hF.pl)
          have HFr := hide hF.fr
          have hic := hF.im.2.2.1
          have hicm := hF.im.2.2.2.1
          unfold maxLen at hicm
          have HPi : Hid (∀ x ∈ plc ent Ah L k, In64 x) := fun x hx => by
            unfold plc at hx
            rw [List.mem_map] at hx
            obtain ⟨j, hj, rfl⟩ := hx
            rw [List.mem_range] at hj
            have := HFl.out j (by rw [HLen.out]; omega)
            have := HAl.out
            unfold In64
            omega
          have HWd : Hid (∀ W, Below wr.heap.size wr W → Below wL.heap.size wL W) := fun W hW => HWr.out W (HFr.out.then (Fr.of_below hW))
          have HRd : Hid (∀ j, j ∈ gi (fzOf R) i → rd ent (Ah ++ frs ent L k) (plc ent Ah L k) ((add (stt (fzOf R) j) (fzOf R j)).2.1 : Nat) ((add (stt (fzOf R) j) (fzOf R j)).2.2 : Nat) ((fzOf R j).length : Nat) = (fzOf R j, 0) ∧ In64 ((add (stt (fzOf R) j) (fzOf R j)).2.1 : Nat) ∧ In64 ((add (stt (fzOf R) j) (fzOf R j)).2.2 : Nat) ∧ In64 ((fzOf R j).length : Nat)) := fun j hj => by
            have h1 := gi_mem hj
            have h2 := stt_has (fzOf R) j (good_true.1 h1.2) i h1.1
            rw [HLe.out] at h2
            have h3 := rd_has (T := ent) (A := Ah) small_ent HOk.out h2
            rw [HLen.out] at h3
            obtain ⟨h4, b, h5, h6, _⟩ := h2
            have h7 := (List.getElem?_eq_some_iff.1 h5).1
            have h8 := HOk.out b (List.mem_of_getElem? h5)
            have h9 := HLen.out
            exact ⟨h3, by unfold In64; omega, by unfold In64; omega, by unfold In64; omega⟩
          have HAsk : Hid (∀ W, Below wr.heap.size wr W → ∀ a (h : a < (gi (fzOf R) i).length), ∃ kb, ko = some ⟨kb, 0, none⟩ ∧ W.cell? ⟨kb, a * 3, none⟩ = some (.int .i64 ((add (stt (fzOf R) (gi (fzOf R) i)[a]) (fzOf R (gi (fzOf R) i)[a])).2.1 : Nat)) ∧ W.cell? ⟨kb, a * 3 + 1, none⟩ = some (.int .i64 ((add (stt (fzOf R) (gi (fzOf R) i)[a]) (fzOf R (gi (fzOf R) i)[a])).2.2 : Nat)) ∧ W.cell? ⟨kb, a * 3 + 2, none⟩ = some (.int .i64 ((fzOf R (gi (fzOf R) i)[a]).length : Nat))) := fun W hW a h => by
            have ha : a < kn := by rw [← HKn.out]; exact h
            obtain ⟨kb, c', hv, _, hlt⟩ := HD.out.ask.form (by omega)
            obtain ⟨rfl, rfl⟩ : ko = some ⟨kb, 0, none⟩ ∧ kc = c' := by simpa using hv
            have hb := HWd.out W hW
            have hc : ∀ x, x < 3 → W.cell? ⟨kb, a * 3 + x, none⟩ = (akc (fzOf R) (gi (fzOf R) i)[a])[x]? := fun x hx => by
              rw [hb.cell (p := ⟨kb, a * 3 + x, none⟩) hlt, HD.out.ask.cellAt (a * 3 + x) (by omega), akv_get _ _ _ _ h hx]
            exact ⟨kb, rfl, hc 0 (by omega), hc 1 (by omega), hc 2 (by omega)⟩
          have HIn : Hid (∀ W, Below wr.heap.size wr W → ∀ a (h : a < (gi (fzOf R) i).length), ∃ ib, io = some ⟨ib, 0, none⟩ ∧ W.cell? ⟨ib, a, none⟩ = some (fvOf R (gi (fzOf R) i)[a])) := fun W hW a h => by
            have ha : a < kn := by rw [← HKn.out]; exact h
            obtain ⟨ib, c', hv, _, hlt⟩ := HD.out.ins.form (by omega)
            obtain ⟨rfl, rfl⟩ : io = some ⟨ib, 0, none⟩ ∧ ic = c' := by simpa using hv
            refine ⟨ib, rfl, ?_⟩
            rw [(HWd.out W hW).cell (p := ⟨ib, a, none⟩) hlt, HD.out.ins.cellAt a (by omega)]
            simp [h]
          have HTd : Hid (∀ W, Below wr.heap.size wr W → Tb W tb ent ∧ tb < W.heap.size) := fun W hW => ⟨HTr.out.below (HWd.out W hW) hlC, Nat.lt_of_lt_of_le hlC (HWd.out W hW).size⟩
          have HRo : Hid (∀ W, Below wr.heap.size wr W → ∀ j, j < i → FRowK W R j) := fun W hW j hj => HK.out W (HD.out.fs.bel.trans ((HWd.out W hW).mono HD.out.fs.bel.size)) j hj
          have HBd : Hid (∀ W, Below wr.heap.size wr W → Below w.heap.size w W) := fun W hW => HB3.out.trans ((HD.out.fs.bel.trans ((HWd.out W hW).mono HD.out.fs.bel.size)).mono HB3.out.size)
          clear hF HBl HFl HFk HD HWr HTr HK HNo HOk hg1 hgk hk HWd HFr
          obtain ⟨wD, rfl⟩ : ∃ wD, wD = wr := ⟨_, rfl⟩
          go_wp2_with fail
          go_loopw [19] (fun s19 wx => ∃ a : Nat, s19 = .int .i64 a ∧ a ≤ kn ∧ Below wD.heap.size wD wx) (fun s19 _ => kn - (intOf s19).toNat)
          case atStart => exact ⟨0, rfl, Nat.zero_le _, Below.refl _ _⟩
          case round =>
            obtain ⟨a, rfl, ha, hBr⟩ := hrel
            have HBr := hide hBr
            by_cases hga : a < kn
            · have hg1 : (a : Int) < (kn : Int) := by omega
              have hag : a < (gi (fzOf R) i).length := by rw [HKn.out]; exact hga
              have hmem : (gi (fzOf R) i)[a] ∈ gi (fzOf R) i := List.getElem_mem hag
              obtain ⟨kb, rfl, _⟩ := HAsk.out wr hBr a hag
              obtain ⟨ib, rfl, _⟩ := HIn.out wr hBr a hag
              have HX : Hid (∀ wX, Below wr.heap.size wr wX → wX.cell? ⟨kb, a * 3, none⟩ = some (.int .i64 ((add (stt (fzOf R) (gi (fzOf R) i)[a]) (fzOf R (gi (fzOf R) i)[a])).2.1 : Nat)) ∧ wX.cell? ⟨kb, a * 3 + 1, none⟩ = some (.int .i64 ((add (stt (fzOf R) (gi (fzOf R) i)[a]) (fzOf R (gi (fzOf R) i)[a])).2.2 : Nat)) ∧ wX.cell? ⟨kb, a * 3 + 2, none⟩ = some (.int .i64 ((fzOf R (gi (fzOf R) i)[a]).length : Nat))) := fun wX hX => by
                obtain ⟨kb', e1, e2⟩ := HAsk.out wX (HBr.out.trans (hX.mono HBr.out.size)) a hag
                obtain rfl : kb = kb' := by simpa using e1
                exact e2
              have HI : Hid (∀ wX, Below wr.heap.size wr wX → wX.cell? ⟨ib, a, none⟩ = some (.slice (R (gi (fzOf R) i)[a]).1 (min (R (gi (fzOf R) i)[a]).2.1 200) (R (gi (fzOf R) i)[a]).2.2.1) ∧ Bs wX (R (gi (fzOf R) i)[a]).1 (min (R (gi (fzOf R) i)[a]).2.1 200) (fzOf R (gi (fzOf R) i)[a])) := fun wX hX => by
                have hb := HBr.out.trans (hX.mono HBr.out.size)
                obtain ⟨ib', e1, e2⟩ := HIn.out wX hb a hag
                obtain rfl : ib = ib' := by simpa using e1
                exact ⟨e2, (HRo.out wX hb _ (gi_mem hmem).1).bs⟩
              have hrd := HRd.out _ hmem
              have HRa : Hid (∀ wX, Below wr.heap.size wr wX → Calls Try.prog 14 #[.pointer (some ⟨tb, 0, none⟩), .slice io' n ic', .slice po k pc, .int .i64 ((add (stt (fzOf R) (gi (fzOf R) i)[a]) (fzOf R (gi (fzOf R) i)[a])).2.1 : Nat), .int .i64 ((add (stt (fzOf R) (gi (fzOf R) i)[a]) (fzOf R (gi (fzOf R) i)[a])).2.2 : Nat), .int .i64 ((fzOf R (gi (fzOf R) i)[a]).length : Nat)] wX fun r w' => ∃ ao c, r = .returned (.tuple #[.slice ao (fzOf R (gi (fzOf R) i)[a]).length c, .int .i64 0]) ∧ Fresh wX w' ao (fzOf R (gi (fzOf R) i)[a]).length c (fzOf R (gi (fzOf R) i)[a])) := fun wX hX => by
                have hb := HBr.out.trans (hX.mono HBr.out.size)
                have h1 := fRead_any tb n ic' k pc _ _ _ ent io' po (Ah ++ frs ent L k) (plc ent Ah L k) wX (HTd.out wX hb).1 (HTd.out wX hb).2 small_ent (HIm.out.bs.below hb) hic HIm.out.nil (by omega) (by omega) (HZs.out.below hb) HPi.out (by omega) hrd.2.1 hrd.2.2.1 hrd.2.2.2
                unfold FReads at h1
                rw [hrd.1] at h1
                exact h1
              generalize (add (stt (fzOf R) (gi (fzOf R) i)[a]) (fzOf R (gi (fzOf R) i)[a])).2.1 = nu at *
              generalize (add (stt (fzOf R) (gi (fzOf R) i)[a]) (fzOf R (gi (fzOf R) i)[a])).2.2 = of at *
              obtain ⟨zj, hzj⟩ : ∃ zj, fzOf R (gi (fzOf R) i)[a] = zj := ⟨_, rfl⟩
              rw [hzj] at HX HI HRa
              obtain ⟨zl, hzl⟩ : ∃ zl, zj.length = zl := ⟨_, rfl⟩
              rw [hzl] at HX HRa
              generalize (R (gi (fzOf R) i)[a]).1 = A at *
              generalize min (R (gi (fzOf R) i)[a]).2.1 200 = Ln at *
              generalize (R (gi (fzOf R) i)[a]).2.2.1 = Cp at *
              clear hrd hzj hzl hmem hBr
              go_wp2_with fail
              go_region_held3 (fun wX => wX.cell? ⟨kb, a * 3, none⟩ = some (.int .i64 (nu : Nat)) ∧ wX.cell? ⟨kb, a * 3 + 1, none⟩ = some (.int .i64 (of : Nat)) ∧ wX.cell? ⟨kb, a * 3 + 2, none⟩ = some (.int .i64 (zl : Nat))) (exact HX.out _ (by repeat (first | exact HBO.out | exact Below.refl _ _ | apply upD_drew | apply upD_drewN | apply upD_alloc)))
                ((first
                  | (go_at_call 14; refine (HRa.out _ (by repeat (first | exact HBO.out | exact Below.refl _ _ | apply upD_drew | apply upD_drewN | apply upD_alloc))).mono ?_; rintro r wO ⟨aoR, cR, rfl, hR⟩; have HR := hide hR; have HBO : Hid (Below wr.heap.size wr wO) := (by repeat (first | exact HBO.out | exact Below.refl _ _ | apply upD_drew | apply upD_drewN | apply upD_alloc) : Below wr.heap.size wr _).trans (hR.bel.mono (by simp)); clear hR)))
              rename_i hHd
              clear hHd
              have hci := (HI.out wO HBO.out).1
              have d4 : ∀ t, (convert 30 9 (.slice aoR zl cR)).run Try.prog (wO.drewN t) = .ok (.string (strOfNums zj)) (wO.drewN t) := fun t => str_any (show Bs (wO.drewN t) aoR zl zj from HR.out.bs) _
              have d5 : ∀ t, (convert 30 9 (.slice A Ln Cp)).run Try.prog (wO.drewN t) = .ok (.string (strOfNums zj)) (wO.drewN t) := fun t => str_any (show Bs (wO.drewN t) A Ln zj from (HI.out wO HBO.out).2) _
              have d6 : ((strOfNums zj).toList == (strOfNums zj).toList) = true := by simp
              have HBn := hide (HBr.out.trans (HBO.out.mono HBr.out.size))
              clear HR HX HRa HI
              generalize strOfNums zj = str at *
              go_wp2_with fail
              go_quiet (fail)
              go_wp2
              go_roundw
              case rel => exact ⟨a + 1, by go_num, by omega, below_drewN HBn.out _⟩
              case measure => simp [intOf]; omega
            · obtain rfl : a = kn := by omega
              have hg1 : ¬ (a : Int) < (a : Int) := by omega
              have HBf := hide (HBd.out wr hBr)
              clear hBr hga
              go_wp2
              go_ret
              exact ⟨rfl, HBf.out⟩
end Go.Proofs.Ytgmkldfjbjnkcaa

/- Layer 12: DataAdds: any files are laid down as the document says, those with the same blocks once, and single frames too. -/
import Derived.Test.YtifmikdknifcoaaDatRows
import Derived.Test.YtifmikdknifcoaaDatRefAdd
import Derived.Test.YtifmikdknifcoaaDatFlags
import Derived.Deep.CutBlock
import Derived.Deep.CutRange
import Derived.Deep.RegionLaw
namespace Go.Proofs.Ytifmikdknifcoaa
set_option linter.unusedVariables false
set_option maxRecDepth 100000
open Go.RowKit Go.Maps
open Lz (g)
open Crc (ent more)
open Frm Mtr Dat

theorem upD_drewN {W w : World} (h : Below W.heap.size W w) (k : Nat) : Below W.heap.size W (w.drewN k) := below_drewN h k
theorem upD_drew {W w : World} (h : Below W.heap.size W w) : Below W.heap.size W w.drew := below_drewN h 1
theorem abs_1000 (a : Int) : ∃ k : Nat, k ≤ 999 ∧ (a.tmod 1000 = (k : Int) ∨ (0 < k ∧ a.tmod 1000 = -(k : Int))) := by
  have t1 := Int.tmod_lt_of_pos a (show (0 : Int) < 1000 by omega)
  have t2 := Int.neg_tmod a 1000
  have t3 := Int.tmod_lt_of_pos (-a) (show (0 : Int) < 1000 by omega)
  refine ⟨(a.tmod 1000).natAbs, by omega, ?_⟩
  omega
/-- The program's writer and the reference's, at a world since another one. -/
structure DZ (w : World) (p tb q first : Nat) (O Z : Nat → Prop) (s t : Ws) (W : World) : Prop where
  ds : DS w p tb first O s W
  wz : WrZ W q first Z t
  no : ∀ k, O k → ¬ Z k
  zw : ∀ k, Z k → w.heap.size ≤ k
  lo : tb < w.heap.size
section
variable {w W W' : World} {p tb q first : Nat} {O Z : Nat → Prop} {s t : Ws}
theorem DZ.below (h : DZ w p tb q first O Z s t W) (hb : Below W.heap.size W W') : DZ w p tb q first O Z s t W' := ⟨h.ds.below hb, h.wz.below hb, h.no, h.zw, h.lo⟩
theorem DZ.prog {O' : Nat → Prop} {s' : Ws} (h : DZ w p tb q first O Z s t W) (h1 : DS w p tb first O' s' W') (h2 : Fr O W W') (h3 : Gr O O' W) : DZ w p tb q first O' Z s' t W' :=
  ⟨h1, h.wz.fr h2 (fun k hk hx => h.no k hx hk), fun k hk hx => by
    rcases h3 k hk with hk | hk
    · exact h.no k hk hx
    · have := h.wz.olt k hx; omega, h.zw, h.lo⟩
theorem DZ.ref {Z' : Nat → Prop} {t' : Ws} (h : DZ w p tb q first O Z s t W) (h1 : WrZ W' q first Z' t') (h2 : Fr Z W W') (h3 : Gr Z Z' W) : DZ w p tb q first O Z' s t' W' :=
  ⟨h.ds.turn h2 h.no (fun hx => by have := h.zw _ hx; have := h.lo; omega) h.zw, h1, fun k hk hx => by
    rcases h3 k hx with hx | hx
    · exact h.no k hk hx
    · have := h.ds.wr.olt k hk; omega, fun k hk => by
    rcases h3 k hk with hk | hk
    · exact h.zw k hk
    · exact Nat.le_trans h.ds.bel.size hk, h.lo⟩
end
set_option maxHeartbeats 8000000 in
theorem adds_walk (a0 : Int) (a1 : Option Addr) (len1 cap1 : Nat) (R : DRT) (a2 : Option Addr) (len2 cap2 : Nat) (F : Nat → Bool) (w : World) (f0 : (Lit.int .i64 a0).wf = true) (f1 : MatB w a1 len1 cap1 R) (f2 : FlagsB w a2 len2 cap2 F) :
    Calls Try.prog 3 #[.int .i64 a0, .slice a1 len1 cap1, .slice a2 len2 cap2] w fun e w' => e = .returned (.bool true) ∧ Below w.heap.size w w' := by
  obtain ⟨hz, hi'⟩ := zero_of_info infoTable
  have HRK : Hid (∀ r, r < min len1 12 → DRowK w R r) := fun r hr => f1.dRowK (by omega)
  have hb0 := wf_i64_bd f0
  obtain ⟨fst, hfst, hfc⟩ := abs_1000 a0
  have HFc := hide hfc
  have hl2 := f2.1
  have HFl := hide f2
  have HRows := hide (fun w' hw' => dRows_any a1 len1 cap1 R w w' f1 hw')
  clear f0 f1 f2 hfc
  go_enter Try.func3, Try.ntmps3
  go_wp2_with fail
  refine (shown_any w).mono ?_
  rintro r ws ⟨rfl, bs0⟩
  have HB0 := hide bs0
  go_wp2_with fail
  refine (HRows.out ws bs0).mono ?_
  rintro r wl ⟨lo, lc, rfl, hrow, bl⟩
  have HBl := hide (bs0.trans (bl.mono bs0.size))
  have HRow := hide hrow
  clear bs0 bl hrow HRows HB0
  have hm12 : min len1 12 ≤ 12 := by omega
  generalize min len1 12 = m at *
  go_upto_if 25 with fail
  have hfc := HFc.out
  generalize a0.tmod 1000 = x0 at *
  go_cut [8] from 24 to 27 (fun s8 wx => s8 = .int .i64 fst ∧ wx = wl)
  case first =>
    rcases hfc with rfl | ⟨hk0, rfl⟩
    · have hm1 : decide ((fst : Int) < 0) = false := by simp
      go_wp2_with fail
      go_meet
      case rel => exact ⟨rfl, rfl⟩
    · have hw4 : IntKind.i64.wrap (fst : Int) = (fst : Int) := by rw [IntKind.wrap_i64]; omega
      have hm1 : -(fst : Int) < 0 := by omega
      go_wp2_with fail
      go_meet
      case rel => exact ⟨by simp, rfl⟩
  case rest =>
  obtain ⟨rfl, hwc⟩ := hcut
  obtain rfl := hwc.symm
  clear hfc hwc HFc
  go_wp2_with fail
  refine (New_any wl).mono ?_
  rintro r w2 ⟨rfl, b2⟩
  obtain ⟨C, hC⟩ : ∃ C, C = tab ent := ⟨_, rfl⟩
  rw [← hC]
  have HC := hide hC
  clear hC
  go_wp2_with (first | (refine wpList_store_table rfl _ _ rfl ent C HC.out rfl rfl _ (by simp) ?_; intro w3 ht3 hT3 hlt3 hb3) | fail)
  have hl3 : Below wl.heap.size wl w3 := b2.trans (hb3.mono b2.size)
  have HB3 := hide (HBl.out.trans (hl3.mono HBl.out.size))
  have HR3 := hide (owns_below HRow.out hl3)
  have HT3 := hide hT3
  clear ht3 hT3 hb3 b2 hl3 hz hi' HC HRow HBl
  refine (dNew_any w2.heap.size fst w3).mono ?_
  rintro r w4 ⟨rfl, hw4, hb4⟩
  have HD4 := hide (DS.new (Below.refl _ w3) HT3.out hlt3 hw4 hb4)
  clear hw4 hb4
  generalize w2.heap.size = tb at *
  generalize w3.heap.size + 1 = p at *
  have HZL := hide (fun j => dz_length R j)
  have HK : Hid (∀ W, Below w3.heap.size w3 W → ∀ j, j < m → DRowK W R j) := fun W hW j hj => (HRK.out j hj).below (HB3.out.trans (hW.mono HB3.out.size))
  have HFk : Hid (∀ W, Below w3.heap.size w3 W → FlagsB W a2 len2 cap2 F) := fun W hW => HFl.out.below (HB3.out.trans (hW.mono HB3.out.size))
  have HLc : Hid (∀ W, Below w3.heap.size w3 W → ∀ j, j < m → ∃ gb, lo = some ⟨gb, 0, none⟩ ∧ W.cell? ⟨gb, j, none⟩ = some (dvOf R j)) := fun W hW j hj => by
    obtain ⟨gb, c', hv, _, hlt⟩ := HR3.out.form (by omega)
    obtain ⟨rfl, rfl⟩ : lo = some ⟨gb, 0, none⟩ ∧ lc = c' := by simpa using hv
    refine ⟨gb, rfl, ?_⟩
    rw [hW.cell (p := ⟨gb, j, none⟩) hlt, HR3.out.cellAt j (by omega)]
    simp [dcut, hj]
  have HE : Hid (DZ w3 p tb w4.heap.size fst (fun k => w3.heap.size ≤ k ∧ k < w3.heap.size + 2) (One w4.heap.size) ([], []) ([], []) (w4.alloc (.cells #[.int .i64 fst, .slice none 0 0, .slice none 0 0] 37))) :=
    ⟨HD4.out.below (below_one _ _), WrZ.new w4 fst, fun k hk hx => by
      have := HD4.out.wr.olt k hk
      rw [show k = w4.heap.size from hx] at this
      omega, fun k hk => by rw [show k = w4.heap.size from hk]; exact HD4.out.bel.size, hlt3⟩
  clear HRK HR3 HD4 HFl HT3
  go_wp2_with fail
  generalize w4.heap.size = q at *
  go_loopw [12] (fun s12 wr => ∃ (i : Nat) (O Z : Nat → Prop) (s : Ws), s12 = .int .i64 i ∧ i ≤ m ∧ DZ w3 p tb q fst O Z s s wr ∧ s.1.length ≤ 1500 * i ∧ s.2.length ≤ i) (fun s12 _ => m - (intOf s12).toNat)
  case atStart => exact ⟨0, _, _, _, rfl, Nat.zero_le _, HE.out, by simp, by simp⟩
  case round =>
    clear HE
    obtain ⟨i, O, Z, s, rfl, hi, hD, hs1, hs2⟩ := hrel
    by_cases hgo : i < m
    · have hg1 : (i : Int) < (m : Int) := by omega
      obtain ⟨gb, rfl, hx1⟩ := HLc.out wr hD.ds.bel i hgo
      clear hx1
      have HLk : Hid (∀ wX, Below w3.heap.size w3 wX → wX.cell? ⟨gb, i, none⟩ = some (dvOf R i)) := fun wX hX => by
        obtain ⟨gb', e1, e2⟩ := HLc.out wX hX i hgo
        obtain rfl : gb = gb' := by simpa using e1
        exact e2
      unfold dvOf at HLk
      have hk := HK.out wr hD.ds.bel i hgo
      have hzn : (dzOf R i).length = min (R i).2.1 1500 := hk.bs.1
      have hcap := hk.cap
      have hmax := hk.max
      have HNil := hide hk.nil
      have hL15 : min (R i).2.1 1500 ≤ 1500 := by omega
      have HKx : Hid (∀ wX, Below w3.heap.size w3 wX → Bs wX (R i).1 (min (R i).2.1 1500) (dzOf R i)) := fun wX hX => (HK.out wX hX i hgo).bs
      clear hk
      generalize (R i).1 = A at *
      generalize min (R i).2.1 1500 = L at *
      generalize (R i).2.2.1 = Cp at *
      generalize dzOf R i = z at *
      have HE2 : Hid (Rw (wr.alloc (.cells #[] 5)) wr.heap.size (some ⟨wr.heap.size, 0, none⟩) 0 0 []) := Rw.of_owns (emptyB (Nat.le_refl _)) Bytes.nil
      have hba : Below w3.heap.size w3 (wr.alloc (.cells #[] 5)) := hD.ds.bel.alloc hD.ds.bel.size _
      have hca := HLk.out _ hba
      have HBa := hide (HKx.out _ hba)
      have HD := hide hD
      have hws := hD.ds.bel.size
      clear hba hD
      go_upto_region 15 with (first
        | (at_builtin; refine wpList_append_rw _ rfl (.tmp 46) (.tmp 50) rfl wr.heap.size (some ⟨wr.heap.size, 0, none⟩) 0 0 [] rfl HE2.out A L Cp z rfl HBa.out HNil.out (by omega) (by simp) ?_
           intro ao5 k5 w5 hA hg hl
           have Hb5 : Hid (Below wr.heap.size wr w5) := ((Below.refl _ wr).alloc (Nat.le_refl _) _).grown hg (by simp) (fun k hk => by simp [Value.ownBlock] at hk; omega)
           rw [Nat.zero_add] at hA
           have HA : Hid (Rw w5 wr.heap.size ao5 L k5 z) := hA
           clear hA hg hl))
      have HD5 := hide (HD.out.below Hb5.out)
      have hs5 := Hb5.out.size
      have HO := hide HD.out.ds.wr.olt
      have HZo := hide HD.out.wz.olt
      clear HE2 HBa HD hca Hb5
      obtain ⟨fl, hfl⟩ : ∃ fl, fl = (decide (i < len2) && F i && decide (0 < L)) := ⟨_, rfl⟩
      have HFl := hide hfl
      clear hfl
      go_cut [66] from 52 to 66 (fun s66 wx => s66 = .bool fl ∧ wx = w5)
      case first =>
        by_cases h1 : i < len2
        · have h1' : (i : Int) < (len2 : Int) := by omega
          rcases (HFk.out w5 HD5.out.ds.bel).2 with h0 | ⟨fb, fo, rfl, _, hfc⟩
          · omega
          have hfcell := hfc i h1
          clear hfc
          cases hFi : F i with
          | true =>
            rw [hFi] at hfcell
            by_cases h2 : 0 < L
            · have h2' : (0 : Int) < (L : Int) := by omega
              go_wp2_with fail
              go_meet
              case rel => exact ⟨by rw [HFl.out, hFi, decide_eq_true h1, decide_eq_true h2]; rfl, rfl⟩
            · have h2' : ¬ (0 : Int) < (L : Int) := by omega
              go_wp2_with fail
              go_meet
              case rel => exact ⟨by rw [HFl.out, hFi, decide_eq_true h1, decide_eq_false h2]; rfl, rfl⟩
          | false =>
            rw [hFi] at hfcell
            go_wp2_with fail
            go_meet
            case rel => exact ⟨by rw [HFl.out, hFi, decide_eq_true h1]; rfl, rfl⟩
        · have h1' : ¬ (i : Int) < (len2 : Int) := by omega
          go_wp2_with fail
          go_meet
          case rel => exact ⟨by rw [HFl.out, decide_eq_false h1]; rfl, rfl⟩
      case rest =>
      obtain ⟨rfl, hwc⟩ := hcut
      obtain rfl := hwc.symm
      clear hwc
      go_upto_if 66 with fail
      go_cut [] from 67 to 115 (fun wx => ∃ (O' Z' : Nat → Prop) (s' : Ws), DZ w3 p tb q fst O' Z' s' s' wx ∧ s'.1.length ≤ 1500 * (i + 1) ∧ s'.2.length ≤ i + 1)
      case first =>
        cases fl with
        | true =>
          obtain ⟨bn, hbn⟩ : ∃ bn, bn = min L 128 := ⟨_, rfl⟩
          have hbL : bn ≤ L := by omega
          have hb1 : bn ≤ 128 := by omega
          have hk5 : L ≤ k5 := HA.out.2.2.1
          have HBn := hide hbn
          clear hbn
          go_upto_region 16 with fail
          go_cut [14] from 67 to 71 (fun s14 wx => s14 = .slice ao5 bn k5 ∧ wx = w5)
          case first =>
            by_cases hc : L ≤ 128
            · have hc' : (L : Int) ≤ 128 := by omega
              have hc2 : (L : Int) ≤ (k5 : Int) := by omega
              obtain rfl : bn = L := by have := HBn.out; omega
              go_wp2_with fail
              go_meet
              case rel => exact ⟨rfl, rfl⟩
            · have hc' : (128 : Int) < (L : Int) := by omega
              have hc2 : (128 : Int) ≤ (k5 : Int) := by omega
              obtain rfl : bn = 128 := by have := HBn.out; omega
              go_wp2_with fail
              go_meet
              case rel => exact ⟨rfl, rfl⟩
          case rest =>
          obtain ⟨rfl, hwc⟩ := hcut
          obtain rfl := hwc.symm
          clear hwc
          have hB5 : Bs w5 ao5 bn (z.take bn) := HA.out.bs.take bn hbL
          have HB5 := hide hB5
          have HFr := hide (dFrame_any p tb fst bn k5 O ao5 ent s (z.take bn) w5 HD5.out.ds.wr HD5.out.ds.tbl HD5.out.ds.lt small_ent hB5 (by omega) HA.out.nil (by omega) (by omega) hb1)
          obtain ⟨aa, haa⟩ : ∃ aa, aa = ((fst + s.1.length : Nat) : Int) := ⟨_, rfl⟩
          rw [← haa] at HFr
          have Haa := hide haa
          have hne : (aa != aa) = false := by simp
          clear hB5 haa
          go_wp2_with fail
          refine HFr.out.mono ?_
          rintro r w6 ⟨rfl, O6, hW6, hF6, hG6⟩
          have HD6 := hide (HD5.out.prog (HD5.out.ds.step hW6 hF6 hG6) hF6 hG6)
          have hB6 : Bs w6 ao5 bn (z.take bn) := HB5.out.fr hF6 (fun a ha h0 hx => by
            have h1 := (HA.out.own (k := a.block) (by rw [ha]; rfl)).1
            have h2 := HO.out _ hx
            omega)
          have HE6 : Hid (Rw (w6.alloc (.cells #[] 5)) w6.heap.size (some ⟨w6.heap.size, 0, none⟩) 0 0 []) := Rw.of_owns (emptyB (Nat.le_refl _)) Bytes.nil
          have HBa := hide (hB6.alloc (.cells #[] 5))
          have HN5 := hide HA.out.nil
          clear hW6 hF6 hG6 hB6 HFr
          go_wp2_with (first
            | (at_builtin; refine wpList_append_rw _ rfl (.tmp 76) (.tmp 77) rfl w6.heap.size (some ⟨w6.heap.size, 0, none⟩) 0 0 [] rfl HE6.out ao5 bn k5 (z.take bn) rfl HBa.out HN5.out (by omega) (by simp) ?_
               intro ao7 k7 w7 hA hg hl
               have Hb7 : Hid (Below w6.heap.size w6 w7) := ((Below.refl _ w6).alloc (Nat.le_refl _) _).grown hg (by simp) (fun k hk => by simp [Value.ownBlock] at hk; omega)
               rw [Nat.zero_add] at hA
               have HA7 : Hid (Rw w7 w6.heap.size ao7 bn k7 (z.take bn)) := hA
               clear hA hg hl))
          have HD7 := hide (HD6.out.below Hb7.out)
          have HFy := hide (refDFrame_any q fst bn k7 Z ao7 s (z.take bn) w7 HD7.out.wz HA7.out.bs HA7.out.2.2.1 HA7.out.nil (by omega) (by omega) hb1)
          rw [← Haa.out] at HFy
          have HPl := hide (put_length (T := ent) (b := z.take bn) (by rw [List.length_take]; omega)).2.2
          clear HE6 HBa HN5 HD6 Hb7 HA7
          refine HFy.out.mono ?_
          rintro r w8 ⟨rfl, Z8, hW8, hF8, hG8⟩
          have HD8 := hide (HD7.out.ref hW8 hF8 hG8)
          clear hW8 hF8 hG8 HFy HD7
          go_wp2_with fail
          go_meet
          case rel => exact ⟨_, _, _, HD8.out, by show (s.1 ++ _).length ≤ _; rw [List.length_append]; have := HPl.out; omega, by show s.2.length ≤ _; omega⟩
        | false =>
          have hk5 : L ≤ k5 := HA.out.2.2.1
          have hk5m : k5 ≤ 9223372036854775807 := by have := HA.out.2.2.2.1; unfold maxLen at this; omega
          have HAd := hide (HD5.out.ds.adds L k5 ao5 z HA.out.bs hk5 hk5m HA.out.nil (by omega) (by omega) (by omega) (by omega))
          obtain ⟨aa, haa⟩ : ∃ aa, aa = ((addA fst s (run ent z) : Nat) : Int) := ⟨_, rfl⟩
          rw [← haa] at HAd
          have Haa := hide haa
          have hne : (aa != aa) = false := by simp
          obtain ⟨tn, htn⟩ : ∃ tn, (tl z).length = tn := ⟨_, rfl⟩
          rw [htn] at HAd
          have Htn := hide htn
          clear haa htn
          go_wp2_with fail
          refine HAd.out.mono ?_
          rintro r w6 ⟨ao6, c6, O6, rfl, hB6, hn6, hD6, hF6, hG6, hO6⟩
          have HD6 := hide (HD5.out.prog hD6 hF6 hG6)
          have HA6 : Hid (Bs w6 ao5 L z) := HA.out.bs.fr hF6 (fun a ha h0 hx => by
            have h1 := (HA.out.own (k := a.block) (by rw [ha]; rfl)).1
            have h2 := HO.out _ hx
            omega)
          have HB6 := hide hB6
          have HN6 := hide hn6
          have hc6 := HLk.out w6 hD6.bel
          have HRa := hide (refDAdd_any q fst L Cp Z A s z w6 HD6.out.wz (HKx.out w6 hD6.bel) hcap hmax HNil.out (by omega) (by omega) (by omega) (by omega))
          unfold RAdds at HRa
          rw [← Haa.out, Htn.out] at HRa
          clear hB6 hn6 hD6 hF6 hG6 hO6 HAd
          go_wp2_with fail
          refine HRa.out.mono ?_
          rintro r w7 ⟨ao7, c7, rfl, hB7, Z7, hW7, hF7, hG7⟩
          have HD7 := hide (HD6.out.ref hW7 hF7 hG7)
          have hc7 := HLk.out w7 HD7.out.ds.bel
          have hA7 : Bs w7 ao5 L z := HA6.out.fr hF7 (fun a ha h0 hx => by
            have h1 := (HA.out.own (k := a.block) (by rw [ha]; rfl)).1
            have h2 := HZo.out _ hx
            omega)
          have hT7 : Bs w7 ao6 tn (tl z) := HB6.out.fr hF7 (fun a ha h0 hx => by
            have h1 := HN6.out a ha
            have h2 := HZo.out _ hx
            omega)
          have hst1 : ∀ k, (convert 34 9 (.slice ao6 tn c6)).run Try.prog (w7.drewN k) = .ok (.string (strOfNums (tl z))) (w7.drewN k) := fun k => str_any (show Bs (w7.drewN k) _ _ _ from hT7) _
          have hst2 : ∀ k, (convert 34 9 (.slice ao7 tn c7)).run Try.prog (w7.drewN k) = .ok (.string (strOfNums (tl z))) (w7.drewN k) := fun k => str_any (show Bs (w7.drewN k) _ _ _ from hB7) _
          have hst3 : ∀ k, (convert 34 9 (.slice ao5 L k5)).run Try.prog (w7.drewN k) = .ok (.string (strOfNums z)) (w7.drewN k) := fun k => str_any (show Bs (w7.drewN k) _ _ _ from hA7) _
          have hst4 : ∀ k, (convert 34 9 (.slice A L Cp)).run Try.prog (w7.drewN k) = .ok (.string (strOfNums z)) (w7.drewN k) := fun k => str_any (show Bs (w7.drewN k) _ _ _ from HKx.out w7 HD7.out.ds.bel) _
          have e1 : ((strOfNums (tl z)).toList == (strOfNums (tl z)).toList) = true := by simp
          have e2 : ((strOfNums z).toList == (strOfNums z).toList) = true := by simp
          have HAl := hide (add_len fst s (run ent z))
          have HRl := hide (run_length ent z).2
          clear hW7 hF7 hG7 hB7 hA7 hT7 hc6 HRa HD6 HB6 HN6 HA6
          go_wp2_with fail
          go_quiet (fail)
          have HDq := hide (HD7.out.below (below_drewN (Below.refl _ _) nq))
          clear hst1 hst2 hst3 hst4 hc7 HD7
          go_wp2_with fail
          go_meet
          case rel => exact ⟨_, _, _, HDq.out, by have := HAl.out; have := HRl.out; omega, by have := HAl.out; omega⟩
      case rest =>
      obtain ⟨O', Z', s', hD', hs1', hs2'⟩ := hcut
      have HD' := hide hD'
      obtain ⟨Lr, bo, bn, bc, vo, vc, hz'⟩ := hD'.wz
      have hbn := hz'.b.1
      have HS : Hid (∀ wX, Below wc.heap.size wc wX → wX.cell? ⟨q, 1, none⟩ = some (.slice bo bn bc) ∧ (convert 34 9 (.slice bo bn bc)).run Try.prog wX = .ok (.string (strOfNums s'.1)) wX) := fun wX hX => by
        have h1 := hz'.below hX
        exact ⟨h1.zw.c1, str_any h1.b.bs _⟩
      have HDn : Hid (∀ wX, Below wc.heap.size wc wX → Calls Try.prog 16 #[.pointer (some ⟨p, 0, none⟩)] wX fun e w' => ∃ ao c, e = .returned (.slice ao bn c) ∧ (convert 34 9 (.slice ao bn c)).run Try.prog w' = .ok (.string (strOfNums s'.1)) w' ∧ (convert 34 9 (.slice ao bn c)).run Try.prog w'.drew = .ok (.string (strOfNums s'.1)) w'.drew ∧ Below wc.heap.size wc w') := fun wX hX => by
        have h1 := dDone_any p tb fst O' s' wX (HD'.out.ds.wr.below hX) (by omega)
        rw [hbn] at h1
        refine h1.mono ?_
        rintro e w' ⟨ao, c, rfl, hN⟩
        exact ⟨ao, c, rfl, str_any hN.bs _, str_any (show Bs w'.drew _ _ _ from hN.bs) _, hX.trans (hN.bel.mono hX.size)⟩
      have e1 : ((strOfNums s'.1).toList == (strOfNums s'.1).toList) = true := by simp
      clear hD' hz' hbn HD5 HA HO HZo HLk HKx
      go_wp2_with fail
      have c1a := (HS.out wc (Below.refl _ _)).1
      have s1a := (HS.out wc (Below.refl _ _)).2
      have c1b := (HS.out wc.drew (by repeat (first | exact HBD.out | exact Below.refl _ _ | apply upD_drew | apply upD_drewN))).1
      have s1b := (HS.out wc.drew (by repeat (first | exact HBD.out | exact Below.refl _ _ | apply upD_drew | apply upD_drewN))).2
      go_region_law ((first
        | (go_simp; go_at_call 16; refine (HDn.out _ (by repeat (first | exact HBD.out | exact Below.refl _ _ | apply upD_drew | apply upD_drewN))).mono ?_; rintro e wD ⟨aoD, cD, rfl, hsD, hsD1, hBD⟩; have c1c := (HS.out wD hBD).1; have s1c := (HS.out wD hBD).2; have HBD := hide hBD; clear hBD; dsimp only)))
      all_goals
        have HDd := hide (HD'.out.below HBD.out)
        clear hsD hsD1 HS HDn HD' HBD c1a s1a c1b s1b c1c s1c
        go_wp2_with fail
        go_roundw
        case rel => exact ⟨i + 1, _, _, _, by go_num, by omega, HDd.out, hs1', hs2'⟩
        case measure => simp [intOf]; omega
    · obtain rfl : m = i := by omega
      have hg1 : ¬ (m : Int) < (m : Int) := by omega
      have HBz := hide (HB3.out.trans (hD.ds.bel.mono HB3.out.size))
      clear hgo hD
      go_wp2
      go_ret
      exact ⟨rfl, HBz.out⟩
end Go.Proofs.Ytifmikdknifcoaa

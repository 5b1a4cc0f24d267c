import Derived.Test.YtcbcmeehnlojjaaLJTabXat
import Derived.Deep.CutBlock
set_option linter.unusedVariables false
namespace Go.Proofs.Ytcbcmeehnlojjaa
open Go.RowKit Go.Maps
open Nam Tre Tab
open Lz (g)
namespace Upr
theorem look_s1 {N : Nod} {A : List ByteArray} {a : ByteArray} (hN : N.ino = 2) (h : a ∈ A) : lookV (s1 N A) 1 a = ((a, N.kind, 2), 0) := by
 unfold lookV
 rw [if_neg (by rw [s1_dir]; simp), s1_in h]
 show ((a, knd (s1 N A) 2, (2 : Int)), (0 : Int)) = _
 rw [s1_knd hN]
theorem ov_app (X Y : List Int) : ov X X.length Y = X ++ Y := by
 unfold ov
 rw [Nat.sub_self, List.replicate_zero, List.append_nil, List.take_of_length_le (Nat.le_refl _), List.drop_of_length_le (by omega), List.append_nil]
theorem wr_app {N : Nod} {A : List ByteArray} (hN : N.ino = 2) (hk : N.kind = 2) (Y : List Int) (h : N.data.length + Y.length ≤ 4096) : wr (s1 N A) 2 (N.data.length : Int) Y = (0, s1 { N with data := N.data ++ Y } A) := by
 rw [s1_wr hN hk, if_neg (by omega), if_neg (by omega)]
 by_cases e : Y = []
 ·rw [if_pos e, e, List.append_nil]
 ·rw [if_neg e]
  have : ((N.data.length : Int)).toNat = N.data.length := by omega
  rw [this, ov_app]
theorem rd_s1 {N : Nod} (hN : N.ino = 2) (hk : N.kind = 2) (A : List ByteArray) (h : N.data.length ≤ 4096) : rdB (s1 N A) 2 0 4096 = N.data ∧ rdE (s1 N A) 2 0 4096 = 0 := by
 have hf : filE (s1 N A) 2 = 0 := filE_zero.2 ⟨N, s1_nd2 hN A, hk⟩
 have he : rdE (s1 N A) 2 0 4096 = 0 := by unfold rdE; rw [if_neg (by rw [hf]; simp), if_neg (by decide)]
 refine ⟨?_, he⟩
 unfold rdB
 rw [if_neg (by rw [he]; simp), s1_nd2 hN]
 show rd N.data 0 4096 = N.data
 unfold rd
 split
 ·have : N.data.length = 0 := by omega
  rw [List.eq_nil_of_length_eq_zero this]
 ·show (N.data.drop 0).take 4096 = N.data
  rw [List.drop_zero, List.take_of_length_le h]
set_option maxRecDepth 100000 in
set_option maxHeartbeats 4000000 in
theorem links_walk (a0 : Option Addr) (len0 cap0 : Nat) (z0 : List Int) (a1 : Option Addr) (len1 cap1 : Nat) (z1 : List Int) (w : World) (w0 : RowB w a0 len0 cap0 z0) (w1 : RowB w a1 len1 cap1 z1) :
  Calls Try.prog 5 #[.slice a0 len0 cap0, .slice a1 len1 cap1] w fun e w' => e = .returned (.bool true) ∧ Below w.heap.size w w' := by
 obtain ⟨bX, hc0, hm0, hyX, hn0⟩ := w0.bs (min len0 300) (by omega)
 obtain ⟨bY, hc1, hm1, hyY, hn1⟩ := w1.bs (min len1 300) (by omega)
 obtain ⟨X, hX⟩ : ∃ X, X = z0.take (min len0 300) := ⟨_, rfl⟩
 obtain ⟨Y, hY⟩ : ∃ Y, Y = z1.take (min len1 300) := ⟨_, rfl⟩
 rw [← hX] at bX hyX
 rw [← hY] at bY hyY
 clear hX hY
 have HX := hide bX
 have HY := hide bY
 clear bX bY w0 w1
 obtain ⟨cb0, hcb0⟩ : ∃ b, decide ((300 : Int) < len0) = b := ⟨_, rfl⟩
 obtain ⟨cb1, hcb1⟩ : ∃ b, decide ((300 : Int) < len1) = b := ⟨_, rfl⟩
 go_enter Try.func5, Try.ntmps5
 go_wp2_with (go_at_call 6; refine (ushown_any w).mono ?_; rintro e ws ⟨rfl, hb0⟩; have HB0 := hide hb0; clear hb0)
 refine (uNew_any 0 0 ws).mono ?_
 rintro e wn ⟨p, c, rfl, hup, hb, hc⟩
 have HL := hide (LS.new HB0.out hup hb hc)
 clear hup hb hc
 go_upto_if 31 with fail
 go_cut [0] from 32 to 33 (fun s0 wx => s0 = .slice a0 (min len0 300) cap0 ∧ wx = wn)
 case first =>
  cases cb0 with
  | true =>
   have h3 := of_decide_eq_true hcb0
   have e3 : min len0 300 = 300 := by omega
   go_wp2_with fail
   go_meet
   case rel => exact ⟨by rw [e3], rfl⟩
  | false =>
   have h3 := of_decide_eq_false hcb0
   have e3 : min len0 300 = len0 := by omega
   go_wp2_with fail
   go_meet
   case rel => exact ⟨by rw [e3], rfl⟩
 case rest =>
  obtain ⟨rfl, hwc⟩ := hcut
  obtain rfl := hwc.symm
  go_upto_if 36 with fail
  go_cut [1] from 37 to 38 (fun s1 wx' => s1 = .slice a1 (min len1 300) cap1 ∧ wx' = wn)
  case first =>
   cases cb1 with
   | true =>
    have h3 := of_decide_eq_true hcb1
    have e3 : min len1 300 = 300 := by omega
    go_wp2_with fail
    go_meet
    case rel => exact ⟨by rw [e3], rfl⟩
   | false =>
    have h3 := of_decide_eq_false hcb1
    have e3 : min len1 300 = len1 := by omega
    go_wp2_with fail
    go_meet
    case rel => exact ⟨by rw [e3], rfl⟩
  case rest =>
   obtain ⟨rfl, hwc⟩ := hcut
   obtain rfl := hwc.symm
   have hx2 : min len0 300 ≤ cap0 := by omega
   have hx3 : min len0 300 ≤ 300 := by omega
   have hy2 : min len1 300 ≤ cap1 := by omega
   have hy3 : min len1 300 ≤ 300 := by omega
   clear hcb0 hcb1
   generalize min len0 300 = mx at *
   generalize min len1 300 = my at *
   have hXl := HX.out.1
   have hYl := HY.out.1
   have HMk : Hid (Calls Try.prog 9 #[.pointer (some ⟨p, 0, none⟩), .int .i64 1, .string ⟨#[97]⟩, .agg (vF a0 mx cap0).cells] wn fun e w' => e = .returned (.tuple #[.int .i64 2, .int .i64 0]) ∧ ∃ c', LS w w' p c' (0, 0) (s1 (as2 (nF X)) [⟨#[97]⟩]) []) := by
    refine (uMake_any 1 ⟨#[97]⟩ (vF a0 mx cap0) (nF X) wn HL.out.up sm_u0 Upr.w1 (sz_ab _) (fun W hW => rep_file (HX.out.below (HL.out.old hW)) hx2 hm0 hn0)).mono ?_
    rw [mk_file val_a (by omega)]
    rintro e w' ⟨h1, c', h2, h3, h4⟩
    exact ⟨h1, c', HL.out.step h2 h3 h4⟩
   go_wp2_with (first
    | (go_at_call 9; refine HMk.out.mono ?_; rintro e w3 ⟨rfl, c3, hL3⟩; have HL3 := hide hL3; clear hL3))
   clear HMk HL
   have HN2 := hide (show (as2 (nF X)).ino = 2 from rfl)
   have HLk := hide (uLink_any 1 ⟨#[98]⟩ 2 w3 HL3.out.up (sm_s1 _ _ (by simp)) Upr.w1 Upr.w2 (sz_ab _))
   rw [ln_two HN2.out (by show (2 : Int) ≠ 1; decide)] at HLk
   go_wp2_with (first
    | (go_at_call 15; refine HLk.out.mono ?_; rintro e w4 ⟨rfl, h1, h2⟩; have HL4 := hide (HL3.out.step h1 h2 (Ext.refl _ _)); clear h1 h2))
   clear HLk HL3
   have HLo := hide (HL4.out.up.lookC 1 ⟨#[98]⟩ Upr.w1 (sz_ab _) (sm_s1 _ _ (by simp)))
   rw [look_s1 HN2.out (by simp), show (as2 (nF X)).kind = 2 from rfl] at HLo
   go_wp2_with (first
    | (go_at_call 20; refine HLo.out.mono ?_; rintro e w5 ⟨rfl, hb5⟩; have HL5 := hide ((HL4.out.below hb5).alloc #[.string ⟨#[98]⟩, .int .i64 2, .int .i64 2] 60); clear hb5))
   clear HLo HL4
   have HWr := hide (uWrite_any 2 (mx : Int) a1 my cap1 Y _ HL5.out.up Upr.w2 ⟨by omega, by omega⟩ (HY.out.below HL5.out.bel) hn1 (by omega) (fun a ha h0 => HL5.out.col _ (by
    rcases HY.out.2.2 with h | ⟨b, off, h1, h2, _⟩
    ·omega
    ·rw [ha] at h1; injection h1 with h1; rw [h1]; exact h2)))
   have hwa := wr_app (N := as2 (nF X)) (A := [⟨#[97]⟩, ⟨#[98]⟩]) rfl rfl Y (by show X.length + Y.length ≤ 4096; omega)
   rw [show ((as2 (nF X)).data.length : Int) = (mx : Int) by show (X.length : Int) = mx; omega] at hwa
   rw [hwa] at HWr
   obtain ⟨N2, hN2⟩ : ∃ N2 : Nod, N2 = { as2 (nF X) with data := (as2 (nF X)).data ++ Y } := ⟨_, rfl⟩
   rw [← hN2] at HWr
   have HI := hide (show N2.ino = 2 by rw [hN2]; rfl)
   have HK := hide (show N2.kind = 2 by rw [hN2]; rfl)
   have HD := hide (show N2.data = X ++ Y by rw [hN2]; rfl)
   have HT := hide (show N2.target = ⟨#[]⟩ ∧ N2.mode = 0 ∧ N2.uid = 0 ∧ N2.gid = 0 by rw [hN2]; exact ⟨rfl, rfl, rfl, rfl⟩)
   clear hwa hN2 HN2
   go_wp2_with (first
    | (go_at_call 18; refine HWr.out.mono ?_; rintro e w6 ⟨rfl, c6, h1, h2, h3⟩; have HL6 := hide (HL5.out.step h1 h2 h3); clear h1 h2 h3))
   clear HWr HL5
   have HLo := hide (HL6.out.up.lookC 1 ⟨#[97]⟩ Upr.w1 (sz_ab _) (sm_s1 _ _ (by simp)))
   rw [look_s1 HI.out (by simp), HK.out] at HLo
   go_wp2_with (first
    | (go_at_call 20; refine HLo.out.mono ?_; rintro e w7 ⟨rfl, hb7⟩; have HL7 := hide ((HL6.out.below hb7).alloc #[.string ⟨#[97]⟩, .int .i64 2, .int .i64 2] 60); clear hb7))
   clear HLo HL6
   have hlen : (X ++ Y).length = mx + my := by rw [List.length_append, hXl, hYl]
   have HRd := hide (HL7.out.up.read 2 0 4096 Upr.w2 ⟨by decide, by decide⟩ ⟨by decide, by decide⟩)
   have hrd := rd_s1 HI.out HK.out [⟨#[97]⟩, ⟨#[98]⟩] (by rw [HD.out]; omega)
   rw [hrd.1, hrd.2, HD.out] at HRd
   clear hrd
   go_wp2_with (first
    | (go_at_call 19; refine HRd.out.mono ?_; rintro e w8 ⟨ad, cd, rfl, hN8⟩; have HN8 := hide hN8; have HL8 := hide (HL7.out.below hN8.bel); clear hN8))
   have HRm := hide (uRemove_any 1 ⟨#[97]⟩ w8 HL8.out.up (sm_s1 _ _ (by simp)) Upr.w1 (sz_ab _))
   rw [rm_one HI.out] at HRm
   have HFd : Hid (∀ a, ad = some a → c6 a.block = .no) := fun a ha => HL7.out.free (HN8.out.own a ha).1
   go_wp2_with (first
    | (go_at_call 16; refine HRm.out.mono ?_; rintro e w9 ⟨rfl, h1, h2⟩; have HL9 := hide (HL8.out.step h1 h2 (Ext.refl _ _)); have HD9 := hide (HN8.out.bs.fr h2 (fun a ha _ hx => hx (HFd.out a ha))); clear h1 h2))
   clear HRm HL8 HN8 HFd HRd HL7
   have HSt := hide (HL9.out.up.stat 2 Upr.w2 (sm_s1 _ _ (by simp)))
   rw [(stat_s1 HI.out _).1, (stat_s1 HI.out _).2, HK.out, HD.out, HT.out.1, HT.out.2.1, HT.out.2.2.1, HT.out.2.2.2] at HSt
   have hz : (X ++ Y).length + (⟨#[]⟩ : ByteArray).size = mx + my := hlen
   rw [hz, show (([(⟨#[98]⟩ : ByteArray)].length : Nat) : Int) = 1 from rfl, Int.natCast_add] at HSt
   have HW : Hid (∀ w10, Below w9.heap.size w9 w10 → ∀ W, W = w10.alloc (.cells #[.int .i64 2, .int .i64 0, .int .i64 0, .int .i64 0, .int .i64 1, .int .i64 ((mx : Int) + my)] 39) →
     W.cell? ⟨w5.heap.size, 2, none⟩ = some (.int .i64 2) ∧ (convert 25 9 (.slice ad (X ++ Y).length cd)).run Try.prog W = .ok (.string (strOfNums (X ++ Y))) W ∧ (convert 25 9 (.slice a0 mx cap0)).run Try.prog W = .ok (.string (strOfNums X)) W ∧ (convert 25 9 (.slice a1 my cap1)).run Try.prog W = .ok (.string (strOfNums Y)) W ∧ Below w.heap.size w W) := fun w10 hb W hW => by
    have hLa := (HL9.out.below hb).alloc #[.int .i64 2, .int .i64 0, .int .i64 0, .int .i64 0, .int .i64 1, .int .i64 ((mx : Int) + my)] 39
    rw [← hW] at hLa
    refine ⟨?_, str_any ?_ cd, str_any (HX.out.below hLa.bel) cap0, str_any (HY.out.below hLa.bel) cap1, hLa.bel⟩
    ·rw [hLa.cell (b := w5.heap.size) (cs := #[.string ⟨#[98]⟩, .int .i64 2, .int .i64 2]) (t := 60) (by simp) 2]; rfl
    ·rw [hW]; exact (HD9.out.below hb).alloc _
   have hcat : (⟨(strOfNums X).data ++ (strOfNums Y).data⟩ : ByteArray) = strOfNums (X ++ Y) := by
    unfold strOfNums; simp
   have hca : strOfNums (X ++ Y) = strOfNums X ++ strOfNums Y := by
    rw [← hcat]; apply ByteArray.ext; simp
   have HCat := hide hca
   have hsz : (strOfNums X).size + (strOfNums Y).size ≤ 600 := by rw [strOfNums_size, strOfNums_size]; omega
   have hlen2 : (X ++ Y).length = mx + my := hlen
   have i9 : IntKind.i64.wrap ((mx : Int) + my) = (mx : Int) + my := by rw [IntKind.wrap_i64]; omega
   clear hz hlen hcat hca hyX hyY hXl hYl
   go_wp2_with (first
    | (go_at_call 10; refine HSt.out.mono ?_; rintro e w10 ⟨rfl, hb⟩; obtain ⟨xr, s1, s2, s3, hbel⟩ := HW.out w10 hb _ rfl; rw [hlen2] at s1; have HBe := hide hbel; clear hb hbel))
   ·go_ret
    exact ⟨rfl, HBe.out⟩
   ·rename_i hz1 hz2
    exact absurd (by rw [HCat.out]) hz2
end Upr
end Go.Proofs.Ytcbcmeehnlojjaa

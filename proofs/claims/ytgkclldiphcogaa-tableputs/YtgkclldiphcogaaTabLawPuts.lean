/- Layer 11: TablePuts: numbers, and attributes, are written as the document says, or refused. -/
import Derived.Test.YtgkclldiphcogaaTabRefXat
import Derived.Test.YtgkclldiphcogaaTabShown
import Derived.Test.YtgkclldiphcogaaTabOpen2
import Derived.Deep.CutBlock
import Derived.Deep.CutRange
namespace Go.Proofs.Ytgkclldiphcogaa
set_option linter.unusedVariables false
set_option maxRecDepth 100000
open Go.RowKit Go.Maps
open Nam Tre Tab
open Lz (g)
open Cur

namespace Tab
theorem putX_may (xs : List (ByteArray × List Int)) (n : Nat) (h : xs.length = n) : xsOk xs = ((putX xs).2 == 0 || ((n : Int) == 0)) := by
  unfold putX
  by_cases h0 : xs = []
  · subst h0
    simp at h
    subst h
    rfl
  · have hn : ((n : Int) == 0) = false := by
      have := List.length_pos_iff.2 h0
      simp; omega
    rw [hn, Bool.or_false]
    cases hq : xsOk xs with
    | true => rw [if_pos ⟨h0, rfl⟩]; rfl
    | false => rw [if_neg (by simp)]; rfl
end Tab
set_option maxHeartbeats 2000000 in
theorem puts_walk (a0 : Option Addr) (len0 cap0 : Nat) (Z0 : Nat → Int) (wide : Int) (a2 : Option Addr) (len2 cap2 : Nat) (l2 : List (ByteArray × List Int)) (w : World) (f0 : IntsB w a0 len0 cap0 Z0) (gc : len0 ≤ cap0) (gm : cap0 ≤ 9223372036854775807) (w1 : (Lit.int .i64 wide).wf = true) (f2 : XsR w a2 len2 l2) (fc : len2 ≤ cap2) (fm : cap2 ≤ 9223372036854775807) (fn : a2 = none → cap2 = 0) :
    Calls Try.prog 4 #[.slice a0 len0 cap0, .int .i64 wide, .slice a2 len2 cap2] w fun e w' => e = .returned (.bool true) ∧ Below w.heap.size w w' := by
  have hw := wf_i64_bd w1
  have hl0 := f0.1
  obtain ⟨z1, z2⟩ := f0.zs (min len0 200) (by omega)
  have HZ := hide z1
  have HI := hide z2
  have HX := hide (f2.take (min len2 12) (by omega))
  clear f0 f2 z1 z2 w1
  go_enter Try.func4, Try.ntmps4
  go_wp2_with fail
  refine (shown_any w).mono ?_
  rintro r ws ⟨rfl, bs0⟩
  have HB0 := hide bs0
  clear bs0
  go_upto_if 19 with fail
  go_cut [0] from 20 to 21 (fun s0 wx => s0 = .slice a0 (min len0 200) cap0 ∧ wx = ws)
  case first =>
    by_cases h3 : 200 < len0
    · have e3 : min len0 200 = 200 := by omega
      go_wp2_with fail
      go_meet
      case rel => exact ⟨by rw [e3], rfl⟩
    · have e3 : min len0 200 = len0 := by omega
      go_wp2_with fail
      go_meet
      case rel => exact ⟨by rw [e3], rfl⟩
  case rest =>
  obtain ⟨rfl, hwc⟩ := hcut
  obtain rfl := hwc.symm
  have hm0 : min len0 200 ≤ 200 := by omega
  generalize (List.range (min len0 200)).map Z0 = l at *
  generalize min len0 200 = n at *
  go_upto_if 24 with fail
  go_cut [2] from 24 to 26 (fun s0 wx => s0 = .slice a2 (min len2 12) cap2 ∧ wx = ws)
  case first =>
    by_cases h3 : 12 < len2
    · have e3 : min len2 12 = 12 := by omega
      go_wp2_with fail
      go_meet
      case rel => exact ⟨by rw [e3], rfl⟩
    · have e3 : min len2 12 = len2 := by omega
      go_wp2_with fail
      go_meet
      case rel => exact ⟨by rw [e3], rfl⟩
  case rest =>
  obtain ⟨rfl, hwc⟩ := hcut
  obtain rfl := hwc.symm
  have hm2 : min len2 12 ≤ cap2 := by omega
  have hm12 : min len2 12 ≤ 12 := by omega
  generalize l2.take (min len2 12) = xs at *
  generalize min len2 12 = m at *
  go_wp2_with fail
  refine (PutNums_any a0 n cap0 l wide ws (HZ.out.below HB0.out) (by omega) HI.out hw).mono ?_
  rintro r w1 ⟨o1, c1, rfl, hN1⟩
  have HN1 := hide hN1
  have HB1 := hide (HB0.out.trans (hN1.bel.mono HB0.out.size))
  clear hN1
  go_wp2_with fail
  refine (refPutNums_any a0 n cap0 l wide w1 (HZ.out.below HB1.out) (by omega) HI.out hw).mono ?_
  rintro r w2 ⟨o2, c2, rfl, hS2, hb2⟩
  have HS1 := hide (HN1.out.bs.below hb2)
  have HS2 := hide hS2
  have HB2 := hide (HB1.out.trans (hb2.mono HB1.out.size))
  clear hS2 hb2 HN1
  go_wp2_with fail
  refine (PutXattrs_any a2 m cap2 xs w2 (HX.out.below HB2.out) hm2 fm fn).mono ?_
  rintro r w3 ⟨o3, c3, rfl, hN3⟩
  have HN3 := hide hN3
  have HS1' := hide (HS1.out.below hN3.bel)
  have HS2' := hide (HS2.out.below hN3.bel)
  have HB3 := hide (HB2.out.trans (hN3.bel.mono HB2.out.size))
  clear hN3 HS1 HS2
  go_wp2_with fail
  refine (refPutXattrs_any a2 m cap2 xs w3 (HX.out.below HB3.out) hm2 fm).mono ?_
  rintro r w4 ⟨o4, c4, rfl, hS4, hb4⟩
  have s1 := str_any (HS1'.out.below hb4) c1
  have s2 := str_any (HS2'.out.below hb4) c2
  have s3 := str_any (HN3.out.bs.below hb4) c3
  have s4 := str_any hS4 c4
  have HB4 := hide (HB3.out.trans (hb4.mono HB3.out.size))
  have HM := hide (putX_may xs m (HX.out.1))
  have HMay := hide (MayXattrs_any a2 m cap2 xs w4 (HX.out.below HB4.out) hm2 fm fn _ rfl)
  clear hS4 hb4 HS1' HS2' HN3
  generalize putN wide l = A at *
  generalize putX xs = B at *
  obtain ⟨A1, A2⟩ := A
  obtain ⟨B1, B2⟩ := B
  simp only at s1 s2 s3 s4 HM ⊢
  go_wp2_with fail
  refine HMay.out.mono ?_
  rintro r w5 ⟨rfl, hb5⟩
  have HB5 := hide (HB4.out.trans (hb5.mono HB4.out.size))
  clear hb5 HMay s1 s2 s3 s4
  generalize xsOk xs = q at *
  go_wp2
  all_goals go_ret
  all_goals
    refine ⟨ret_bool ?_, HB5.out⟩
    rw [HM.out]
    simp_all
end Go.Proofs.Ytgkclldiphcogaa

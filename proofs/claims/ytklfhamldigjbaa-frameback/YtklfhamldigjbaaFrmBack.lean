/- The walk of FrameBack: what was framed is read as it was, wherever the frame stands. -/
import Derived.Test.YtklfhamldigjbaaFrmShown
import Derived.Test.YtklfhamldigjbaaFrmRound
namespace Go.Proofs.Ytklfhamldigjbaa
set_option linter.unusedVariables false
open Go.RowKit Go.Maps
open Lz (g pack unpack)
open Crc (ent more)
open Cur
open Frm

set_option maxRecDepth 100000 in
set_option maxHeartbeats 4000000 in
theorem back_walk (a0 : Option Addr) (len0 cap0 : Nat) (z0 : List Int) (a1 : Option Addr) (len1 cap1 : Nat) (z1 : List Int) (a2 : Option Addr) (len2 cap2 : Nat) (z2 : List Int) (w : World) (w0 : RowB w a0 len0 cap0 z0) (w1 : RowB w a1 len1 cap1 z1) (w2 : RowB w a2 len2 cap2 z2) :
    Calls Try.prog 5 #[.slice a0 len0 cap0, .slice a1 len1 cap1, .slice a2 len2 cap2] w fun e w' => e = .returned (.bool true) ∧ Below w.heap.size w w' := by
  obtain ⟨hz, hi'⟩ := zero_of_info infoTable
  obtain ⟨x1, x2, x3, x4, x5⟩ := w0.bs (min len0 128) (by omega)
  obtain ⟨y1, y2, y3, y4, y5⟩ := w1.bs (min len1 200) (by omega)
  obtain ⟨v1, v2, v3, v4, v5⟩ := w2.bs (min len2 200) (by omega)
  generalize z0.take (min len0 128) = zs at *
  generalize z1.take (min len1 200) = ys at *
  generalize z2.take (min len2 200) = vs at *
  have HX := hide x1
  have HY := hide y1
  have HV := hide v1
  have HXB := hide x4
  have HYB := hide y4
  have HVB := hide v4
  have HXN := hide x5
  have HYN := hide y5
  have HVN := hide v5
  clear w0 w1 w2 x1 y1 v1 x5 y5 v5 x4 y4 v4
  go_enter Try.func5, Try.ntmps5
  go_wp2_with fail
  refine (shown_any w).mono ?_
  rintro r ws ⟨rfl, hbs0⟩
  have HB0 := hide hbs0
  clear hbs0
  go_wp2_with fail
  refine (few_any a0 len0 cap0 128 ws x2 (by omega)).mono ?_
  rintro r wx ⟨rfl, rfl⟩
  go_wp2_with fail
  refine (few_any a1 len1 cap1 200 wx y2 (by omega)).mono ?_
  rintro r wy ⟨rfl, rfl⟩
  go_wp2_with fail
  refine (few_any a2 len2 cap2 200 wy v2 (by omega)).mono ?_
  rintro r wz ⟨rfl, rfl⟩
  generalize hm : min len0 128 = m at *
  generalize hp : min len1 200 = p at *
  generalize hq : min len2 200 = q at *
  have hm1 : m ≤ 128 := by omega
  have hm2 : m ≤ cap0 := by omega
  have hp1 : p ≤ 200 := by omega
  have hp2 : p ≤ cap1 := by omega
  have hq1 : q ≤ 200 := by omega
  have hq2 : q ≤ cap2 := by omega
  clear hm hp hq x2 y2 v2
  go_wp2_with fail
  refine (New_any wz).mono ?_
  rintro r w1 ⟨rfl, hbel⟩
  obtain ⟨C, hC⟩ : ∃ C, C = tab ent := ⟨_, rfl⟩
  rw [← hC]
  have HC : Hid (C = tab ent) := hC
  clear hC
  go_wp2_with (refine wpList_store_table rfl _ _ rfl ent C HC.out rfl rfl _ (by simp) ?_; intro w2 ht2 hT2 hlt2 hb2')
  have HB2 : Hid (Below w.heap.size w w2) := by
    have e1 := HB0.out.trans (hbel.mono HB0.out.size)
    exact e1.trans (hb2'.mono e1.size)
  have HT2 : Hid (Tb w2 w1.heap.size ent) := hT2
  clear ht2 hT2 hb2' hbel HC
  refine (Put_any w1.heap.size m cap0 ent a0 zs w2 HT2.out hlt2 small_ent (HX.out.below HB2.out) hm2 HXN.out (by omega)).mono ?_
  rintro r w3 (⟨h, _⟩ | ⟨h128, ao3, c3, rfl, hN3⟩)
  · rw [HX.out.1] at h; omega
  have hpl := put_length (T := ent) h128
  have HR := hide (take_put small_ent h128 ys vs)
  have HPB := hide (put_bytes (T := ent) HXB.out)
  have HP3 := hide hN3
  have hlt3 : w1.heap.size < w3.heap.size := Nat.lt_of_lt_of_le hlt2 hN3.bel.size
  have HT3 : Hid (Tb w3 w1.heap.size ent) := HT2.out.below hN3.bel hlt2
  have HB3 : Hid (Below w.heap.size w w3) := HB2.out.trans (hN3.bel.mono HB2.out.size)
  obtain ⟨n3, hn3⟩ : ∃ n, (put ent zs).length = n := ⟨_, rfl⟩
  rw [hn3] at hpl HP3 HR
  rw [hn3]
  rw [HY.out.1] at HR
  have hn135 : n3 ≤ 135 := hpl.2.2
  clear hN3 h128 hn3 hpl
  generalize put ent zs = pz at *
  have hs3 := HB3.out.size
  go_wp2_with (first
    | (at_builtin; refine wpList_append_bs _ rfl (.tmp 30) (.tmp 31) rfl w3.heap.size _ 0 0 [] rfl (emptyB (Nat.le_refl _)) a1 p cap1 ys rfl ((HY.out.below HB3.out).alloc _) HYN.out (by omega) (by simp) ?_
       intro ao4 c4 w4 o4 k4
       have hb4 : Below w3.heap.size w3 w4 := ((Below.refl _ _).alloc (Nat.le_refl _) _).grown k4 (by simp) (fun k e => by simp [Value.ownBlock] at e; omega)
       simp only [Nat.zero_add, List.nil_append] at o4
       clear k4)
    | (at_builtin; refine wpList_append_bs _ rfl (.tmp 32) (.tmp 33) rfl w3.heap.size _ p c4 ys rfl o4 ao3 n3 c3 pz rfl (HP3.out.bs.below hb4) HP3.out.nil (by omega) hb4.size ?_
       intro ao5 c5 w5 o5 k5
       have hb5 : Below w3.heap.size w3 w5 := hb4.trans (grown_below hb4.size o4 k5)
       clear k5 o4 hb4)
    | (at_builtin; refine wpList_append_bs _ rfl (.tmp 34) (.tmp 35) rfl w3.heap.size _ (p + n3) c5 (ys ++ pz) rfl o5 a2 q cap2 vs rfl (((HV.out.below HB3.out)).below hb5) HVN.out (by omega) hb5.size ?_
       intro ao6 c6 w6 o6 k6
       have hb6 : Below w3.heap.size w3 w6 := hb5.trans (grown_below hb5.size o5 k6)
       clear k6 o5 hb5))
  rw [List.append_assoc] at o6
  have hRR : take ent (ys ++ (pz ++ vs)) (p : Int) = (zs, (p : Int) + (n3 : Int), 0) ∧ skip (ys ++ (pz ++ vs)) (p : Int) = ((p : Int) + (n3 : Int), 0) := by
    have := HR.out
    rw [Int.natCast_add] at this; exact this
  have HRR := hide hRR
  have HI6 := hide (bs_of_owns o6 (HYB.out.append (HPB.out.append HVB.out)))
  have hc6 := cap_of_owns o6
  have hm6 := (New.of_owns (w := w3) o6 (HYB.out.append (HPB.out.append HVB.out)) (Nat.le_refl _) hb6).max
  have HN6 := hide (nil_cap o6)
  have HB6 := hide hb6
  have hlt6 : w1.heap.size < w6.heap.size := Nat.lt_of_lt_of_le hlt3 hb6.size
  clear o6 hb6 hRR HR
  obtain ⟨K, hK⟩ : ∃ K, p + n3 + q = K := ⟨_, rfl⟩
  rw [hK] at HI6 hc6
  rw [hK]
  have hK9 : K ≤ 1000 := by omega
  clear hK
  refine (Take_any w1.heap.size K c6 p ent ao6 _ w6 (HT3.out.below HB6.out hlt3) hlt6 small_ent HI6.out hc6 HN6.out (by omega) hm6 (by omega)).mono ?_
  rintro r w7 ⟨ao7, c7, rfl, hF7⟩
  rw [HRR.out.1] at hF7
  rw [HRR.out.1]
  have HF7 : Hid (Fresh w6 w7 ao7 m c7 zs) := by
    have := hF7
    rw [show (zs, (p : Int) + (n3 : Int), (0 : Int)).1.length = m from HX.out.1] at this; exact this
  clear hF7
  rw [show (zs, (p : Int) + (n3 : Int), (0 : Int)).1.length = m from HX.out.1]
  go_wp2_with fail
  refine (Skip_any K c6 p ao6 _ w7 (HI6.out.below HF7.out.bel) hc6 HN6.out (by omega) hm6 (by omega)).mono ?_
  rintro r w8 ⟨rfl, hb8⟩
  rw [HRR.out.2]
  have s1 := str_any (HF7.out.on hb8).bs c7
  have hB38 : Below w3.heap.size w3 w8 := (HB6.out.trans (HF7.out.bel.mono HB6.out.size)).trans (hb8.mono (Nat.le_trans HB6.out.size HF7.out.bel.size))
  have hB : Below w.heap.size w w8 := HB3.out.trans (hB38.mono HB3.out.size)
  have s2 := str_any (HX.out.below hB) cap0
  have HB := hide hB
  clear hb8 hB38 hB
  go_wp2
  go_ret
  exact ⟨rfl, HB.out⟩
end Go.Proofs.Ytklfhamldigjbaa

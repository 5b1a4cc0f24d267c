/- The walk of FrameTakes: at any place of any image a frame is read, passed, or refused, as the reference says. -/
import Derived.Test.YtklfhamldigjbaaFrmShown
import Derived.Test.YtklfhamldigjbaaFrmRefTake
namespace Go.Proofs.Ytklfhamldigjbaa
set_option linter.unusedVariables false
open Go.RowKit Go.Maps
open Lz (g pack unpack)
open Crc (ent more)
open Cur
open Frm

set_option maxRecDepth 100000 in
set_option maxHeartbeats 4000000 in
theorem takes_walk (a0 : Option Addr) (len0 cap0 : Nat) (z0 : List Int) (a1 : Int) (w : World) (w0 : RowB w a0 len0 cap0 z0) (w1 : (Lit.int .i64 a1).wf = true) :
    Calls Try.prog 4 #[.slice a0 len0 cap0, .int .i64 a1] w fun e w' => e = .returned (.bool true) ∧ Below w.heap.size w w' := by
  obtain ⟨hz, hi'⟩ := zero_of_info infoTable
  obtain ⟨x1, x2, x3, x4, x5⟩ := w0.bs (min len0 400) (by omega)
  have ha := wf_i64_bd w1
  generalize z0.take (min len0 400) = zs at *
  have HX := hide x1
  have HXB := hide x4
  have HXN := hide x5
  clear w0 x1 x5 x4 w1
  go_enter Try.func4, Try.ntmps4
  go_wp2_with fail
  refine (shown_any w).mono ?_
  rintro r ws ⟨rfl, hbs0⟩
  have HB0 := hide hbs0
  clear hbs0
  go_wp2_with fail
  refine (few_any a0 len0 cap0 400 ws x2 (by omega)).mono ?_
  rintro r wz ⟨rfl, rfl⟩
  generalize hm : min len0 400 = m at *
  have hm1 : m ≤ 400 := by omega
  have hm2 : m ≤ cap0 := by omega
  clear hm x2
  go_wp2_with fail
  refine (New_any wz).mono ?_
  rintro r w1 ⟨rfl, hbel⟩
  obtain ⟨C, hC⟩ : ∃ C, C = tab ent := ⟨_, rfl⟩
  rw [← hC]
  have HC : Hid (C = tab ent) := hC
  clear hC
  go_wp2_with (first
    | (at_builtin; refine wpList_append_bs _ rfl (.tmp 22) (.tmp 23) rfl w2.heap.size _ 0 0 [] rfl (emptyB (Nat.le_refl _)) a0 m cap0 zs rfl ((HX.out.below HB2.out).alloc _) HXN.out (by omega) (by simp) ?_
       intro ao4 c4 w4 o4 k4
       have hb4 : Below w2.heap.size w2 w4 := ((Below.refl _ _).alloc (Nat.le_refl _) _).grown k4 (by simp) (fun k e => by simp [Value.ownBlock] at e; omega)
       simp only [Nat.zero_add, List.nil_append] at o4
       clear k4)
    | (refine wpList_store_table rfl _ _ rfl ent C HC.out rfl rfl _ (by simp) ?_
       intro w2 ht2 hT2 hlt2 hb2'
       have HB2 : Hid (Below w.heap.size w w2) := (HB0.out.trans (hbel.mono HB0.out.size)).trans (hb2'.mono (Nat.le_trans HB0.out.size hbel.size))
       have HT2 : Hid (Tb w2 w1.heap.size ent) := hT2
       clear ht2 hT2 hb2' hbel))
  have HC4 := hide (bs_of_owns o4 HXB.out)
  have hc4 := cap_of_owns o4
  have hm4 := max_of_owns o4
  have HN4 := hide (nil_cap o4)
  have HB4 : Hid (Below w.heap.size w w4) := HB2.out.trans (hb4.mono HB2.out.size)
  have HT4 := hide (HT2.out.below hb4 hlt2)
  have hlt4 : w1.heap.size < w4.heap.size := Nat.lt_of_lt_of_le hlt2 hb4.size
  clear o4 hb4
  refine (Take_any w1.heap.size m c4 a1 ent ao4 zs w4 HT4.out hlt4 small_ent HC4.out hc4 HN4.out (by omega) hm4 ha).mono ?_
  rintro r w5 ⟨ao5, c5, rfl, hF5⟩
  have HF5 := hide hF5
  have HB5 : Hid (Below w.heap.size w w5) := HB4.out.trans (hF5.bel.mono HB4.out.size)
  clear hF5
  go_wp2_with fail
  refine (refTake_any m cap0 a1 a0 zs w5 (HX.out.below HB5.out) hm2 HXN.out (by omega) x3 ha).mono ?_
  rintro r w6 ⟨ao6, c6, rfl, hb6, hbel6⟩
  have HF6 := hide (HF5.out.on hbel6).bs
  have HR6 := hide hb6
  have HB6 : Hid (Below w.heap.size w w6) := HB5.out.trans (hbel6.mono HB5.out.size)
  clear hb6 hbel6
  obtain ⟨tk, htk⟩ : ∃ tk, tk = take ent zs a1 := ⟨_, rfl⟩
  rw [← htk] at HF6 HR6
  rw [← htk]
  clear htk
  obtain ⟨t1, t2, t3⟩ := tk
  have HF6' : Hid (Bs w6 ao5 t1.length t1) := HF6.out
  have HR6' : Hid (Bs w6 ao6 t1.length t1) := HR6.out
  clear HF6 HR6 HF5
  simp only []
  generalize t1.length = l1 at *
  go_wp2_with (first
    | (at_builtin; refine wpList_append_bs _ rfl (.tmp 38) (.tmp 39) rfl w6.heap.size _ 0 0 [] rfl (emptyB (Nat.le_refl _)) a0 m cap0 zs rfl ((HX.out.below HB6.out).alloc _) HXN.out (by omega) (by simp) ?_
       intro ao7 c7 w7 o7 k7
       have hb7 : Below w6.heap.size w6 w7 := ((Below.refl _ _).alloc (Nat.le_refl _) _).grown k7 (by simp) (fun k e => by simp [Value.ownBlock] at e; omega)
       simp only [Nat.zero_add, List.nil_append] at o7
       clear k7))
  have HC7 := hide (bs_of_owns o7 HXB.out)
  have hc7 := cap_of_owns o7
  have hm7 := max_of_owns o7
  have HN7 := hide (nil_cap o7)
  have HB67 := hide hb7
  have HB7 : Hid (Below w.heap.size w w7) := HB6.out.trans (hb7.mono HB6.out.size)
  clear o7 hb7
  refine (Skip_any m c7 a1 ao7 zs w7 HC7.out hc7 HN7.out (by omega) hm7 ha).mono ?_
  rintro r w8 ⟨rfl, hb8⟩
  have HB8 : Hid (Below w.heap.size w w8) := HB7.out.trans (hb8.mono HB7.out.size)
  have HB68 : Hid (Below w6.heap.size w6 w8) := HB67.out.trans (hb8.mono HB67.out.size)
  clear hb8
  go_wp2_with fail
  refine (refSkip_any m cap0 a1 a0 zs w8 (HX.out.below HB8.out) hm2 HXN.out (by omega) x3 ha).mono ?_
  rintro r w9 ⟨rfl, hb9⟩
  have hB69 : Below w6.heap.size w6 w9 := HB68.out.trans (hb9.mono HB68.out.size)
  have s1 := str_any (HF6'.out.below hB69) c5
  have s2 := str_any (HR6'.out.below hB69) c6
  have HB9 : Hid (Below w.heap.size w w9) := HB8.out.trans (hb9.mono HB8.out.size)
  clear hb9 hB69
  generalize (skip zs a1).1 = k1 at *
  generalize (skip zs a1).2 = k2 at *
  go_wp2
  go_ret
  exact ⟨rfl, HB9.out⟩
end Go.Proofs.Ytklfhamldigjbaa

/- The walk of FramePuts: any bytes are framed as the reference says, or refused, and stay. -/
import Derived.Test.YtklfhamldigjbaaFrmShown
import Derived.Test.YtklfhamldigjbaaFrmRound
import Derived.Test.YtklfhamldigjbaaFrmRefPut
namespace Go.Proofs.Ytklfhamldigjbaa
set_option linter.unusedVariables false
open Go.RowKit Go.Maps
open Lz (g pack unpack)
open Crc (ent more)
open Cur
open Frm

set_option maxRecDepth 100000 in
set_option maxHeartbeats 4000000 in
theorem puts_walk (a0 : Option Addr) (len0 cap0 : Nat) (z0 : List Int) (w : World) (w0 : RowB w a0 len0 cap0 z0) :
    Calls Try.prog 3 #[.slice a0 len0 cap0] w fun e w' => e = .returned (.bool true) ∧ Below w.heap.size w w' := by
  obtain ⟨hz, hi'⟩ := zero_of_info infoTable
  obtain ⟨x1, x2, x3, x4, x5⟩ := w0.bs (min len0 200) (by omega)
  generalize z0.take (min len0 200) = zs at *
  have HX := hide x1
  have HXB := hide x4
  have HXN := hide x5
  clear w0 x1 x5 x4
  go_enter Try.func3, Try.ntmps3
  go_wp2_with fail
  refine (shown_any w).mono ?_
  rintro r ws ⟨rfl, hbs0⟩
  have HB0 := hide hbs0
  clear hbs0
  go_wp2_with fail
  refine (few_any a0 len0 cap0 200 ws x2 (by omega)).mono ?_
  rintro r wz ⟨rfl, rfl⟩
  generalize hm : min len0 200 = m at *
  have hm1 : m ≤ 200 := by omega
  have hm2 : m ≤ cap0 := by omega
  clear hm x2
  go_wp2_with (first
    | (at_builtin; refine wpList_append_bs _ rfl (.tmp 13) (.tmp 14) rfl wz.heap.size _ 0 0 [] rfl (emptyB (Nat.le_refl _)) a0 m cap0 zs rfl ((HX.out.below HB0.out).alloc _) HXN.out (by omega) (by simp) ?_
       intro ao4 c4 w4 o4 k4
       have hb4 : Below wz.heap.size wz w4 := ((Below.refl _ _).alloc (Nat.le_refl _) _).grown k4 (by simp) (fun k e => by simp [Value.ownBlock] at e; omega)
       simp only [Nat.zero_add, List.nil_append] at o4
       clear k4))
  have HC4 := hide (bs_of_owns o4 HXB.out)
  have hc4 := cap_of_owns o4
  have HN4 := hide (nil_cap o4)
  have HB4 : Hid (Below w.heap.size w w4) := HB0.out.trans (hb4.mono HB0.out.size)
  clear o4 hb4
  refine (New_any w4).mono ?_
  rintro r w1 ⟨rfl, hbel⟩
  obtain ⟨C, hC⟩ : ∃ C, C = tab ent := ⟨_, rfl⟩
  rw [← hC]
  have HC : Hid (C = tab ent) := hC
  clear hC
  go_wp2_with (refine wpList_store_table rfl _ _ rfl ent C HC.out rfl rfl _ (by simp) ?_; intro w2 ht2 hT2 hlt2 hb2')
  have HB2 : Hid (Below w.heap.size w w2) := by
    have e1 := HB4.out.trans (hbel.mono HB4.out.size)
    exact e1.trans (hb2'.mono e1.size)
  have HC2 := hide ((HC4.out.below hbel).below hb2')
  have HT2 : Hid (Tb w2 w1.heap.size ent) := hT2
  clear ht2 hT2 hb2' hbel HC
  refine (Put_any w1.heap.size m c4 ent ao4 zs w2 HT2.out hlt2 small_ent HC2.out hc4 HN4.out (by omega)).mono ?_
  rintro r w3 (⟨h, rfl, rfl⟩ | ⟨h128, ao3, c3, rfl, hN3⟩)
  · go_wp2_with fail
    refine (refPut_any m cap0 a0 zs _ (HX.out.below HB2.out) hm2 HXN.out (by omega)).mono ?_
    rintro r w5 (⟨_, rfl, rfl⟩ | ⟨h9, _⟩)
    · have s0 := str_any (w := w5) (ao := none) (n := 0) (zs := []) ⟨rfl, fun i => by simp [g], .inl rfl⟩ 0
      have s1 := str_any (HX.out.below HB2.out) cap0
      have s2 := str_any HC2.out c4
      go_wp2
      go_ret
      exact ⟨rfl, HB2.out⟩
    · omega
  · have HN3 := hide hN3
    have HB3 : Hid (Below w.heap.size w w3) := HB2.out.trans (hN3.bel.mono HB2.out.size)
    clear hN3
    go_wp2_with fail
    refine (refPut_any m cap0 a0 zs w3 (HX.out.below HB3.out) hm2 HXN.out (by omega)).mono ?_
    rintro r w5 (⟨h9, _⟩ | ⟨_, ao5, c5, rfl, hb5, hbel5⟩)
    · omega
    · have s0 := str_any (HN3.out.on hbel5).bs c3
      have s3 := str_any hb5 c5
      have hB : Below w.heap.size w w5 := HB3.out.trans (hbel5.mono HB3.out.size)
      have s1 := str_any (HX.out.below hB) cap0
      have s2 := str_any ((HC2.out.below HN3.out.bel).below hbel5) c4
      have HB := hide hB
      clear hb5 hbel5 hB h128
      generalize (put ent zs).length = ln at *
      generalize put ent zs = pz at *
      go_wp2
      go_ret
      exact ⟨rfl, HB.out⟩
end Go.Proofs.Ytklfhamldigjbaa

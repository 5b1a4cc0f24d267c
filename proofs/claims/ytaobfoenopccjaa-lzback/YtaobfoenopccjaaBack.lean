/- The walk of LzBack: what was packed is unpacked as it was, with just as much room as it needs, and not with less. -/
import Derived.Test.YtaobfoenopccjaaLaws
import Derived.Test.YtaobfoenopccjaaRound
namespace Go.Proofs.Ytaobfoenopccjaa
set_option linter.unusedVariables false
open Go.RowKit Go.Maps
open Lz (g cp up unpack pack runs mt)

set_option maxRecDepth 100000 in
set_option maxHeartbeats 4000000 in
theorem back_walk (a0 : Option Addr) (len0 cap0 : Nat) (z0 : List Int) (w : World) (w0 : RowB w a0 len0 cap0 z0) :
    Calls Try.prog 6 #[.slice a0 len0 cap0] w fun e w' => e = .returned (.bool true) ∧ Below w.heap.size w w' := by
  obtain ⟨hbs, hlc, hcm, hby, hnil⟩ := w0.bs (min len0 4096) (by omega)
  generalize z0.take (min len0 4096) = zs at hbs hby
  clear w0
  go_enter Try.func6, Try.ntmps6
  go_wp2_with fail
  refine (shown_any w).mono ?_
  rintro r ws ⟨rfl, hbs0⟩
  go_wp2_with fail
  refine (few_any a0 len0 cap0 4096 ws hlc (by omega)).mono ?_
  rintro r wx ⟨rfl, rfl⟩
  have h1 := hbs.below hbs0
  generalize hm : min len0 4096 = m at *
  have hm1 : m ≤ 4096 := by omega
  have hm2 : m ≤ cap0 := by omega
  have hz := hbs.1
  have hpb := hby.pack
  have hps := Lz.pack_short zs
  have HU1 : Hid (unpack (pack zs) (m : Int) = (zs, 0)) := by rw [Hid, Lz.unpack_pack zs m (by omega), if_neg (by omega)]
  have HU2 : Hid (0 < m → unpack (pack zs) ((m : Int) - 1) = ([], 3)) := fun h => by rw [Lz.unpack_pack zs _ (by omega), if_pos (by omega)]
  rw [hz] at hps
  clear hm hz
  go_wp2_with fail
  refine (Pack_any m cap0 a0 zs wx h1 hm2 (by omega)).mono ?_
  rintro r w2 (⟨d, rfl, rfl⟩ | ⟨d, ao2, n2, c2, rfl, o2, bl2⟩)
  · omega
  have b2 := bs_of_owns o2 hpb
  have hc2 := cap_of_owns o2
  have hn2 : n2 ≤ 5000 := by have := b2.1; omega
  go_wp2_with fail
  refine (Unpack_any n2 c2 m ao2 (pack zs) w2 b2 hc2 (by omega) (by omega)).mono ?_
  rintro r w3 ⟨ao3, n3, c3, rfl, o3, bl3⟩
  rw [HU1.out] at o3 ⊢
  have b3 := bs_of_owns o3 hby
  have b23 := b2.below bl3
  go_wp2_with fail
  refine (Unpack_any n2 c2 ((m : Int) - 1) ao2 (pack zs) w3 b23 hc2 (by omega) (by omega)).mono ?_
  rintro r w4 ⟨ao4, n4, c4, rfl, o4, bl4⟩
  have s1 := str_any (b3.below bl4) c3
  have s2 := str_any (((h1.below bl2).below bl3).below bl4) cap0
  have HB : Hid (Below w.heap.size w w4) := by
    have e2 := hbs0.trans (bl2.mono hbs0.size)
    have e3 := e2.trans (bl3.mono e2.size)
    exact e3.trans (bl4.mono e3.size)
  clear h1 hbs hbs0 b2 b3 b23 o2 o3 o4 bl2 bl3 bl4 hpb hps hnil
  by_cases h0 : m = 0
  · subst h0
    have e : unpack (pack zs) (((0 : Nat) : Int) - 1) = ([], 1) := by unfold unpack; rw [if_pos (by omega)]
    rw [e]
    clear e HU1 HU2
    go_wp2
    go_ret
    exact ⟨rfl, HB.out⟩
  · rw [HU2.out (by omega)]
    have q1 : ((m : Int) == 0) = false := by rw [beq_eq_false_iff_ne]; omega
    have q2 : decide ((0 : Int) < (m : Int)) = true := by simp; omega
    have q3 : decide (0 < m) = true := by simp; omega
    clear HU1 HU2
    go_wp2
    go_ret
    exact ⟨rfl, HB.out⟩
end Go.Proofs.Ytaobfoenopccjaa

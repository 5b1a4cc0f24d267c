/- The walk of CrcAffine: the sums of three rows, XORed, are the sum of the rows XORed. -/
import Derived.Test.YthdmmachaplmjaaLaws
import Derived.Deep.RegionHeld3
namespace Go.Proofs.Ythdmmachaplmjaa
set_option linter.unusedVariables false
open Go.RowKit Go.Maps
open Lz (g)
open Crc (stp steps ent bt run more x3)

theorem as_range (zs : List Int) : zs = (List.range zs.length).map (g zs) := by
  apply List.ext_getElem
  · simp
  · intro i h1 h2
    simp [Lz.g_lt _ _ h1]
/-- The bytes XORed, i of them. -/
def xs3 (za zb zc : List Int) (i : Nat) : List Int := (List.range i).map fun j => x3 (g za j) (g zb j) (g zc j)
theorem xs3_succ (za zb zc : List Int) (i : Nat) : xs3 za zb zc (i + 1) = xs3 za zb zc i ++ [x3 (g za i) (g zb i) (g zc i)] := by simp [xs3, List.range_succ]
theorem x3_byte {a b c : Int} (ha : 0 ≤ a ∧ a ≤ 255) (hb : 0 ≤ b ∧ b ≤ 255) (hc : 0 ≤ c ∧ c ≤ 255) : bits .xor .u8 (bits .xor .u8 a b) c = x3 a b c ∧ 0 ≤ x3 a b c ∧ x3 a b c ≤ 255 := by
  obtain ⟨a, rfl⟩ : ∃ n : Nat, a = (n : Int) := ⟨a.toNat, by omega⟩
  obtain ⟨b, rfl⟩ : ∃ n : Nat, b = (n : Int) := ⟨b.toNat, by omega⟩
  obtain ⟨c, rfl⟩ : ∃ n : Nat, c = (n : Int) := ⟨c.toNat, by omega⟩
  have h1 : a ^^^ b < 256 := Nat.xor_lt_two_pow (n := 8) (by omega) (by omega)
  have h2 : a ^^^ b ^^^ c < 256 := Nat.xor_lt_two_pow (n := 8) h1 (by omega)
  rw [u8_xor_nat a b (by omega) (by omega), u8_xor_nat _ c h1 (by omega)]
  unfold x3
  simp only [Int.toNat_natCast]
  exact ⟨trivial, by omega, by omega⟩
theorem xs3_bytes {za zb zc : List Int} (ha : Bytes za) (hb : Bytes zb) (hc : Bytes zc) (i : Nat) : Bytes (xs3 za zb zc i) := fun x hx => by
  simp only [xs3, List.mem_map] at hx
  obtain ⟨j, _, rfl⟩ := hx
  exact (x3_byte (ha.g j) (hb.g j) (hc.g j)).2

/-- The least of four numbers. -/
theorem run_min4 (P : Program) (ts : Array TypeId) (t : TypeId) (a b c d : Nat) (w : World) : (Builtin.min_ ts t #[.int .i64 a, .int .i64 b, .int .i64 c, .int .i64 d]).run P w = .ok (.int .i64 ((min (min (min a b) c) d : Nat) : Int)) w := by
  simp [Builtin.min_, Builtin.min2]
  (repeat' split) <;> omega

set_option maxRecDepth 100000 in
set_option maxHeartbeats 4000000 in
theorem affine_walk (a0 : Option Addr) (len0 cap0 : Nat) (z0 : List Int) (a1 : Option Addr) (len1 cap1 : Nat) (z1 : List Int) (a2 : Option Addr) (len2 cap2 : Nat) (z2 : List Int) (w : World) (w0 : RowB w a0 len0 cap0 z0) (w1 : RowB w a1 len1 cap1 z1) (w2 : RowB w a2 len2 cap2 z2) :
    Calls Try.prog 8 #[.slice a0 len0 cap0, .slice a1 len1 cap1, .slice a2 len2 cap2] w fun e w' => e = .returned (.bool true) ∧ Below w.heap.size w w' := by
  obtain ⟨hz, hi'⟩ := zero_of_info infoTable
  obtain ⟨i0, hi, hz0, hz1, hz2⟩ := info_parts infoByte
  obtain ⟨n, hn⟩ : ∃ n, n = min (min (min len0 len1) len2) 400 := ⟨_, rfl⟩
  obtain ⟨ba, hla, hca, hya, _⟩ := w0.bs n (by omega)
  obtain ⟨bb, hlb, hcb, hyb, _⟩ := w1.bs n (by omega)
  obtain ⟨bc, hlc, hcc, hyc, _⟩ := w2.bs n (by omega)
  have hc0 : len0 ≤ 9223372036854775807 := by omega
  have hc1 : len1 ≤ 9223372036854775807 := by omega
  have hc2 : len2 ≤ 9223372036854775807 := by omega
  generalize z0.take n = za at ba hya
  generalize z1.take n = zb at bb hyb
  generalize z2.take n = zc at bc hyc
  clear w0 w1 w2
  go_enter Try.func8, Try.ntmps8
  go_wp2_with fail
  refine (shown_any w).mono ?_
  rintro r ws ⟨rfl, hbs0⟩
  have hmin := fun ts t w => run_min4 Try.prog ts t len0 len1 len2 400 w
  rw [← hn] at hmin
  have hmin' : ∀ ts t w, (Builtin.min_ ts t #[.int .i64 len0, .int .i64 len1, .int .i64 len2, .int .i64 400]).run Try.prog w = .ok (.int .i64 (n : Int)) w := hmin
  have hn0 : n ≤ len0 := by omega
  have hn1 : n ≤ len1 := by omega
  have hn2 : n ≤ len2 := by omega
  have hn4 : n ≤ 400 := by omega
  clear hmin hn
  have hxb := xs3_bytes hya hyb hyc
  go_wp2
  go_loopw [9, 10] (fun s9 s10 wr => ∃ (ao : Option Addr) (c i : Nat), s9 = .slice ao i c ∧ s10 = .int .i64 i ∧ i ≤ n ∧ wr.ownsRow w.heap.size 5 1 (.slice ao i c) i (bv (xs3 za zb zc i)) ∧ Below w.heap.size w wr) (fun _ s10 _ => n - (intOf s10).toNat)
  case atStart => exact ⟨_, 0, 0, rfl, rfl, by omega, emptyB hbs0.size, hbs0.alloc hbs0.size _⟩
  case round =>
    obtain ⟨ao, c, i, rfl, rfl, hin, ho, hbel⟩ := hrel
    have hBr := hbel.size
    by_cases hlt : i < n
    · have hx := x3_byte (hya.g i) (hyb.g i) (hyc.g i)
      have hxs := xs3_succ za zb zc i
      obtain ⟨la, _, ha⟩ := ba
      obtain ⟨lb, _, hb⟩ := bb
      obtain ⟨lc, _, hc⟩ := bc
      rcases ha with ha | ⟨b0, o0, rfl, lt0, sg0⟩
      · omega
      rcases hb with hb | ⟨b1, o1, rfl, lt1, sg1⟩
      · omega
      rcases hc with hc | ⟨b2, o2, rfl, lt2, sg2⟩
      · omega
      have c0 : wr.cell? ⟨b0, o0 + i, none⟩ = some (.int .u8 (g za i)) := (hbel.cell (by exact lt0)).trans (sg0 i (by omega))
      have c1 : wr.cell? ⟨b1, o1 + i, none⟩ = some (.int .u8 (g zb i)) := (hbel.cell (by exact lt1)).trans (sg1 i (by omega))
      have c2 : wr.cell? ⟨b2, o2 + i, none⟩ = some (.int .u8 (g zc i)) := (hbel.cell (by exact lt2)).trans (sg2 i (by omega))
      generalize g za i = xa at *
      generalize g zb i = xb at *
      generalize g zc i = xc at *
      obtain ⟨ex, hx0, hx1⟩ := hx
      generalize x3 xa xb xc = y at *
      have hmx : i + 1 ≤ maxLen := by unfold maxLen; omega
      have hby1 : (i + 1) * 1 ≤ 140737488355328 := by omega
      have i1 : (i : Int) < (len0 : Int) := by omega
      have i2 : (i : Int) < (len1 : Int) := by omega
      have i3 : (i : Int) < (len2 : Int) := by omega
      have ne0 : ∀ k, (Value.slice ao i c).ownBlock = some k → w.heap.size ≤ k := fun k e => (ho.lt k e).1
      have HX : Hid (xs3 za zb zc (i + 1) = xs3 za zb zc i ++ [y]) := hxs
      clear hxs sg0 sg1 sg2 la lb lc hmin'
      go_wp2
      go_region_held3 (fun w' => w'.cell? ⟨b0, o0 + i, none⟩ = some (.int .u8 xa) ∧ w'.cell? ⟨b1, o1 + i, none⟩ = some (.int .u8 xb) ∧ w'.cell? ⟨b2, o2 + i, none⟩ = some (.int .u8 xc)) (go_keep)
        ((first
          | (refine step_append_lies _ (by rfl) (.tmp 26) (.tmp 41) 29 (by rfl) w.heap.size 5 i0 (.int .u8 0) 1 1 Try.underlying29 hi hz0 hz1 hz2 rfl (by decide) _ _ _ (by rfl) ((ho.alloc _).drew) ⟨wr.heap.size, 0, none⟩ 1 1 (bv [y]) (by rfl) (by rfl) (cell_one_new wr _ _) (bv_one _) (by decide) hmx hby1 (Nat.le_trans hBr (by simp)) (wr.heap.size + 1) (by simp) ?_; intro g1 c1' w1 a1' k1 l1 _; have bl1 : Below w.heap.size wr w1 := (growD hBr ho k1).1; have d0 := (bl1.cell (by exact lt0)).trans c0; have d1 := (bl1.cell (by exact lt1)).trans c1; have d2 := (bl1.cell (by exact lt2)).trans c2)))
      have HN : Hid (w1.ownsRow w.heap.size 5 1 (.slice (some ⟨g1, 0, none⟩) (i + 1) c1') (i + 1) (bv (xs3 za zb zc (i + 1))) ∧ Below w.heap.size w w1) := by
        refine ⟨?_, hbel.trans bl1⟩
        rw [HX.out, bv_append]
        exact a1'
      clear a1' k1 l1 bl1 d0 d1 d2 c0 c1 c2 hbel ho ne0
      go_wp2
      go_roundw
      case rel => exact ⟨_, c1', i + 1, rfl, by go_num, by omega, HN.out.1, HN.out.2⟩
      case measure => simp [intOf]; omega
    · obtain rfl : i = n := by omega
      have bd := bs_of_owns ho (hxb i)
      have ba := ba.below hbel
      have bb := bb.below hbel
      have bc := bc.below hbel
      have haf : more ent 0 za ^^^ more ent 0 zb ^^^ more ent 0 zc = more ent 0 (xs3 za zb zc i) := by
        have h := Crc.more_affine (g za) (g zb) (g zc) i
        have e0 := as_range za
        have e1 := as_range zb
        have e2 := as_range zc
        rw [ba.1] at e0
        rw [bb.1] at e1
        rw [bc.1] at e2
        rw [← e0, ← e1, ← e2] at h
        exact h
      have l0 : more ent 0 za < 4294967296 := Crc.more_lt small_ent _ (by omega)
      have l1 : more ent 0 zb < 4294967296 := Crc.more_lt small_ent _ (by omega)
      have l2 : more ent 0 zc < 4294967296 := Crc.more_lt small_ent _ (by omega)
      have x1 := u32_xor_nat _ _ l0 l1
      have x2 := u32_xor_nat _ _ (Crc.xor_lt l0 l1) l2
      rw [haf] at x2
      clear haf hxb ho hmin'
      go_wp2_with fail
      refine (New_any wr).mono ?_
      rintro r w2 ⟨rfl, hbn⟩
      obtain ⟨C, hC⟩ : ∃ C, C = tab ent := ⟨_, rfl⟩
      rw [← hC]
      have HC : Hid (C = tab ent) := hC
      clear hC
      go_wp2_with (refine wpList_store_table rfl _ _ rfl ent C HC.out rfl rfl _ (by simp) ?_; intro w3 ht3 hT3 hlt3 hb3)
      have ba := (ba.below hbn).below hb3
      have bb := (bb.below hbn).below hb3
      have bc := (bc.below hbn).below hb3
      have bd := (bd.below hbn).below hb3
      have HB : Hid (Below w.heap.size w w3) := by
        have e2 := hbel.trans (hbn.mono hbel.size)
        exact e2.trans (hb3.mono e2.size)
      have j0 : (i : Int) ≤ (cap0 : Int) := by omega
      have j1 : (i : Int) ≤ (cap1 : Int) := by omega
      have j2 : (i : Int) ≤ (cap2 : Int) := by omega
      clear hbs0 hbel hbn hb3 ht3 hlt3 hBr l0 l1 l2 hya hyb hyc hi hz0 hz1 hz2
      go_quiet (first
        | (go_at_call 13; refine Calls.quiet_of_same (Sum_any w2.heap.size i cap0 ent a0 za _ hT3 small_ent ba (by omega)))
        | (go_at_call 13; refine Calls.quiet_of_same (Sum_any w2.heap.size i cap1 ent a1 zb _ hT3 small_ent bb (by omega)))
        | (go_at_call 13; refine Calls.quiet_of_same (Sum_any w2.heap.size i cap2 ent a2 zc _ hT3 small_ent bc (by omega)))
        | (go_at_call 13; refine Calls.quiet_of_same (Sum_any w2.heap.size i c ent ao (xs3 za zb zc i) _ hT3 small_ent bd (by omega))))
      go_wp2
      go_ret
      exact ⟨by simp, below_drewN HB.out _⟩
end Go.Proofs.Ythdmmachaplmjaa

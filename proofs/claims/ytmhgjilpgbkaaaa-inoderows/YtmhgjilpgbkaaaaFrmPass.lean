/- The walk of pass: the frame at a place, whatever function is handed to it. -/
import Derived.Test.YtmhgjilpgbkaaaaFrmEq
import Derived.Deep.RegionHeld3
import Derived.Deep.CutRange
import Derived.Deep.CutBlock
namespace Go.Proofs.Ytmhgjilpgbkaaaa
set_option linter.unusedVariables false
open Go.RowKit Go.Maps
open Lz (g pack unpack)
open Crc (ent more)
open Cur
open Frm

theorem hide {p : Prop} (h : p) : Hid p := h
/-- What pass answers; P tells what the function that was handed in leaves, where it is asked. -/
def Passes (z : List Int) (at' : Int) (P : Bool → World → Prop) (w w' : World) (r : Ending) : Prop :=
  (spot z at' = none ∧ r = .returned (.tuple #[.int .i64 0, .int .i64 2]) ∧ Below w.heap.size w w') ∨
  (∃ n, spot z at' = some (n, 0) ∧ r = .returned (.tuple #[.int .i64 (at' + 3), .int .i64 0]) ∧ Below w.heap.size w w') ∨
  (∃ n sz ok, spot z at' = some (n, sz) ∧ sz ≠ 0 ∧ P ok w' ∧ r = .returned (.tuple (if ok then #[.int .i64 (at' + 3 + sz), .int .i64 0] else #[.int .i64 0, .int .i64 2])))

theorem spot_at {zs : List Int} {len k : Nat} {x0 x1 x2 : Int} (hz : zs.length = len) (hk : k + 3 ≤ len) (h0 : x0 = g zs k) (h1 : x1 = g zs (k + 1)) (h2 : x2 = g zs (k + 2)) :
    spot zs k = if (bsz (x0 + 256 * x1)).2 = false ∨ x2 ≠ 255 - x8 x0 x1 then none else if (len : Int) - ((k : Int) + 3) < (bsz (x0 + 256 * x1)).1 then none else some (x0 + 256 * x1, (bsz (x0 + 256 * x1)).1.toNat) := by
  unfold spot num
  rw [if_neg (by rw [hz]; omega), Int.toNat_natCast, ← h0, ← h1, ← h2, hz]

set_option maxRecDepth 100000 in
set_option maxHeartbeats 2000000 in
theorem framePass_any (len cap : Nat) (at' : Int) (fn : Nat) (caps : Array Value) (P : Bool → World → Prop) (ao : Option Addr) (zs : List Int) (w : World) (hB : Bs w ao len zs) (hc : len ≤ cap) (hnil : ao = none → cap = 0) (hl : len ≤ 1000000) (hcm : cap ≤ 9223372036854775807)
    (ha : -9223372036854775808 ≤ at' ∧ at' ≤ 9223372036854775807) (hen : ∀ (args : Array Value) (w : World), (callFunc fn args).run Try.prog w = .ok (.enter fn args) w)
    (H : ∀ n sz, spot zs at' = some (n, sz) → sz ≠ 0 → ∀ (w1 : World) (ao' : Option Addr) (c' : Nat), Below w.heap.size w w1 → Bs w1 ao' sz (body zs at'.toNat sz) → sz ≤ c' → (ao' = none → c' = 0) →
      Calls Try.prog fn (#[.int .i64 n, .slice ao' sz c'] ++ caps) w1 fun r w2 => ∃ ok, r = .returned (.bool ok) ∧ P ok w2) :
    Calls Try.prog 88 #[.slice ao len cap, .int .i64 at', .func (.func fn) #[] caps] w fun r w' => Passes zs at' P w w' r := by
  have hz := hB.1
  by_cases h1 : at' < 0 ∨ (len : Int) - 3 < at'
  · have HX : Hid (Passes zs at' P w w (.returned (.tuple #[.int .i64 0, .int .i64 2]))) := .inl ⟨by unfold spot; rw [if_pos (by rw [hz]; exact h1)], rfl, Below.refl _ _⟩
    clear H hB hnil
    rcases h1 with h1 | h1
    · go_enter Try.func88, Try.ntmps88
      go_wp2
      go_ret2
      exact HX.out
    · by_cases h2 : at' < 0
      · go_enter Try.func88, Try.ntmps88
        go_wp2
        go_ret2
        exact HX.out
      · go_enter Try.func88, Try.ntmps88
        go_wp2
        go_ret2
        exact HX.out
  obtain ⟨k, rfl⟩ : ∃ k : Nat, at' = (k : Int) := ⟨at'.toNat, by omega⟩
  have hk : k + 3 ≤ len := by omega
  rcases hB.2.2 with h0 | ⟨b, off, rfl, hb, hs⟩
  · omega
  obtain ⟨x0, hx0⟩ : ∃ x, x = g zs k := ⟨_, rfl⟩
  obtain ⟨x1, hx1⟩ : ∃ x, x = g zs (k + 1) := ⟨_, rfl⟩
  obtain ⟨x2, hx2⟩ : ∃ x, x = g zs (k + 2) := ⟨_, rfl⟩
  have c0 := hs k (by omega)
  have c1 := hs (k + 1) (by omega)
  have c2 := hs (k + 2) (by omega)
  rw [← hx0] at c0
  rw [← hx1] at c1
  rw [← hx2] at c2
  have i0 : (0 : Int) ≤ (k : Int) := by omega
  have i1 : (k : Int) < (len : Int) := by omega
  have i2 : (k : Int) + 1 < (len : Int) := by omega
  have i3 : (k : Int) + 2 < (len : Int) := by omega
  have i4 : (len : Int) ≤ 1000000 := by omega
  have j1 : (0 : Int) ≤ (k : Int) + 1 := by omega
  have j2 : (0 : Int) ≤ (k : Int) + 2 := by omega
  have u2 : ((k : Int) + 2).toNat = k + 2 := by omega
  have u1 : ((k : Int) + 1).toNat = k + 1 := by omega
  have v1 : IntKind.i64.wrap ((k : Int) + 1) = (k : Int) + 1 := by simp [IntKind.wrap_i64]; omega
  have v2 : IntKind.i64.wrap ((k : Int) + 2) = (k : Int) + 2 := by simp [IntKind.wrap_i64]; omega
  have t1 : decide ((k : Int) < 0) = false := by simp
  have t2 : decide ((len : Int) - 3 < (k : Int)) = false := by simp; omega
  have HB : Hid (Bs w (some ⟨b, off, none⟩) len zs) := hB
  have HX0 : Hid (x0 = g zs k ∧ x1 = g zs (k + 1) ∧ x2 = g zs (k + 2)) := ⟨hx0, hx1, hx2⟩
  have HH := hide H
  clear hB hs hx0 hx1 hx2 H h1
  go_enter Try.func88, Try.ntmps88
  go_wp2_with fail
  go_region_held3 (fun wX => wX.cell? ⟨b, off + k, none⟩ = some (.int .u8 x0) ∧ wX.cell? ⟨b, off + (k + 1), none⟩ = some (.int .u8 x1) ∧ wX.cell? ⟨b, off + (k + 2), none⟩ = some (.int .u8 x2)) (go_keep) (fail)
  obtain ⟨wh, hwh⟩ : ∃ wh, wh = (w.alloc (.cells #[.int .u8 x0, .int .u8 x1, .int .u8 x2] 109)).drew := ⟨_, rfl⟩
  rw [← hwh]
  have HBh : Hid (Below w.heap.size w wh) := by rw [hwh]; exact ((Below.refl _ w).alloc (Nat.le_refl _) _).drew
  have hhp : wh.heap[w.heap.size]? = some (.cells #[.int .u8 x0, .int .u8 x1, .int .u8 x2] 109 (0, 0)) := by rw [hwh]; exact heap_alloc_new w _
  have hlt : w.heap.size < wh.heap.size := heap_lt hhp
  have d0 : wh.cell? ⟨w.heap.size, 0, none⟩ = some (.int .u8 x0) := by simp [World.cell?, hhp]
  have d1 : wh.cell? ⟨w.heap.size, 1, none⟩ = some (.int .u8 x1) := by simp [World.cell?, hhp]
  have d2 : wh.cell? ⟨w.heap.size, 2, none⟩ = some (.int .u8 x2) := by simp [World.cell?, hhp]
  clear hwh hhp c0 c1 c2
  have bx0 : 0 ≤ x0 ∧ x0 ≤ 255 := by rw [HX0.out.1]; exact HB.out.2.1 _
  have bx1 : 0 ≤ x1 ∧ x1 ≤ 255 := by rw [HX0.out.2.1]; exact HB.out.2.1 _
  have bx2 : 0 ≤ x2 ∧ x2 ≤ 255 := by rw [HX0.out.2.2]; exact HB.out.2.1 _
  have HSp := hide (spot_at hz hk HX0.out.1 HX0.out.2.1 HX0.out.2.2)
  have hhd := hd_of bx0 bx1
  obtain ⟨N, hN⟩ : ∃ N, N = x0 + 256 * x1 := ⟨_, rfl⟩
  rw [← hN] at HSp hhd
  have hNb : 0 ≤ N ∧ N ≤ 65535 := by omega
  obtain ⟨y2, hy2⟩ : ∃ y, y = 255 - x8 x0 x1 := ⟨_, rfl⟩
  rw [← hy2] at HSp hhd
  have HHd : Hid (hd N = [x0, x1, y2]) := hhd
  have HNN : Hid (N = x0 + 256 * x1) := hN
  clear hy2 hhd hN
  go_wp2_with fail
  refine (number_any x0 x1 x2 wh bx0 bx1).mono ?_
  rintro r w1 ⟨rfl, hb1⟩
  rw [← HNN.out]
  have e0 := (hb1.cell (p := ⟨w.heap.size, 0, none⟩) hlt).trans d0
  have e1 := (hb1.cell (p := ⟨w.heap.size, 1, none⟩) hlt).trans d1
  have e2 := (hb1.cell (p := ⟨w.heap.size, 2, none⟩) hlt).trans d2
  have hlt1 : w.heap.size < w1.heap.size := Nat.lt_of_lt_of_le hlt hb1.size
  have HB1 : Hid (Below w.heap.size w w1) := HBh.out.trans (hb1.mono HBh.out.size)
  clear hb1 d0 d1 d2 hlt
  go_wp2_with fail
  refine (bodySize_any N w1 hNb).mono ?_
  rintro r wx ⟨rfl, rfl⟩
  obtain ⟨s0, ok, hso⟩ : ∃ s0 ok, bsz N = (s0, ok) := ⟨_, _, rfl⟩
  have hbd := bsz_bd N
  rw [hso] at HSp hbd
  rw [hso]
  have HSO : Hid (bsz N = (s0, ok)) := hso
  clear hso
  obtain ⟨hs0, hs1⟩ : 0 ≤ s0 ∧ s0 ≤ 132 := hbd
  cases ok with
  | false =>
    have HX : Hid (∀ w2, Below w.heap.size w w2 → Passes zs k P w w2 (.returned (.tuple #[.int .i64 0, .int .i64 2]))) := fun w2 h => .inl ⟨by rw [HSp.out, if_pos (.inl rfl)], rfl, h⟩
    go_wp2_with fail
    go_quiet (fail)
    go_wp2
    go_ret2
    exact HX.out _ (below_drewN HB1.out _)
  | true =>
    have hgd : Try.prog.eqGuardType Try.prog.depth 109 = false := by kernel_rfl
    have hgd2 : ∀ (w : World) (x y : Operand) (a b : Array Value), (eqGuard .neq 109 x y (.agg a) (.agg b)).run Try.prog w = .ok () w := fun w x y a b => by simp [eqGuard, hgd]
    clear hgd
    by_cases hy : x2 = y2
    · subst hy
      have hq : ∀ w, (Op.equalIn 10000 109 (.agg #[.int .u8 x0, .int .u8 x1, .int .u8 x2]) (.agg #[.int .u8 x0, .int .u8 x1, .int .u8 x2])).run Try.prog w = .ok true w := fun w => by
        have := equalIn3 w 9998 x0 x1 x2 x0 x1 x2
        rw [decide_eq_true ⟨rfl, rfl, rfl⟩] at this; exact this
      go_wp2_with fail
      go_region_held3 (fun wX => wX.cell? ⟨w.heap.size, 0, none⟩ = some (.int .u8 x0) ∧ wX.cell? ⟨w.heap.size, 1, none⟩ = some (.int .u8 x1) ∧ wX.cell? ⟨w.heap.size, 2, none⟩ = some (.int .u8 x2)) (go_keep)
        (first | (go_at_call 73; refine (headOf_at N x0 x1 x2 _ hNb HHd.out).mono ?_; rintro r w2 ⟨rfl, hb2⟩; have f0 := (hb2.cell (p := ⟨w.heap.size, 0, none⟩) hlt1).trans e0; have f1 := (hb2.cell (p := ⟨w.heap.size, 1, none⟩) hlt1).trans e1; have f2 := (hb2.cell (p := ⟨w.heap.size, 2, none⟩) hlt1).trans e2; have HB2 : Hid (Below w.heap.size w w2) := HB1.out.drew.trans (hb2.mono HB1.out.size)))
      clear hb2 f0 f1 f2 e0 e1 e2 hq hgd2 v1 v2 u1 u2 i2 i3 j1 j2
      by_cases h3 : (len : Int) - ((k : Int) + 3) < s0
      · have HX : Hid (Passes zs k P w w2 (.returned (.tuple #[.int .i64 0, .int .i64 2]))) := .inl ⟨by rw [HSp.out, if_neg (by simp), if_pos h3], rfl, HB2.out⟩
        go_wp2_with fail
        go_ret2
        exact HX.out
      · by_cases h4 : s0 = 0
        · subst h4
          have HX : Hid (Passes zs k P w w2 (.returned (.tuple #[.int .i64 ((k : Int) + 3), .int .i64 0]))) := .inr (.inl ⟨N, by rw [HSp.out, if_neg (by simp), if_neg h3]; rfl, rfl, HB2.out⟩)
          go_wp2_with fail
          go_ret2
          exact HX.out
        · obtain ⟨sz, rfl⟩ : ∃ sz : Nat, s0 = (sz : Int) := ⟨s0.toNat, by omega⟩
          have hsp : spot zs k = some (N, sz) := by rw [HSp.out, if_neg (by simp), if_neg h3, Int.toNat_natCast]
          have h5 : sz ≠ 0 := by omega
          have hfit : k + 3 + sz ≤ len := by omega
          have hpos : (0 : Int) < (sz : Int) := by omega
          have HC := hide (HH.out N sz hsp h5 w2 (some ⟨b, off + (k + 3), none⟩) (cap - (k + 3)) HB2.out (by
            have := HB.out.below HB2.out
            refine ⟨by unfold body; simp; omega, ?_, ?_⟩
            · unfold body; exact bytes_take (bytes_drop HB.out.2.1 _) _
            · rcases this.2.2 with h | ⟨b', off', e, h6, h7⟩
              · omega
              · cases e
                refine .inr ⟨b, off + (k + 3), rfl, h6, ?_⟩
                have := h7.cut (k + 3) (k + 3 + sz)
                unfold body
                rw [Int.toNat_natCast, List.take_drop]
                exact this) (by omega) (fun h => by simp at h))
          have HX : Hid (∀ ok w3, P ok w3 → Passes zs k P w w3 (.returned (.tuple (if ok then #[.int .i64 ((k : Int) + 3 + sz), .int .i64 0] else #[.int .i64 0, .int .i64 2])))) := fun ok w3 h => .inr (.inr ⟨N, sz, ok, hsp, h5, h, rfl⟩)
          clear hsp
          go_wp2_with fail
          refine HC.out.mono ?_
          rintro r w3 ⟨ok, rfl, hP⟩
          have HP : Hid (P ok w3) := hP
          clear hP
          cases ok
          · go_wp2_with fail
            go_ret2
            exact HX.out false w3 HP.out
          · go_wp2_with fail
            go_ret2
            exact HX.out true w3 HP.out
    · have hq : ∀ w, (Op.equalIn 10000 109 (.agg #[.int .u8 x0, .int .u8 x1, .int .u8 x2]) (.agg #[.int .u8 x0, .int .u8 x1, .int .u8 y2])).run Try.prog w = .ok false w := fun w => by
        have := equalIn3 w 9998 x0 x1 x2 x0 x1 y2
        rw [decide_eq_false (fun h => hy h.2.2)] at this; exact this
      have HX : Hid (∀ w2, Below w.heap.size w w2 → Passes zs k P w w2 (.returned (.tuple #[.int .i64 0, .int .i64 2]))) := fun w2 h => .inl ⟨by rw [HSp.out, if_pos (.inr hy)], rfl, h⟩
      go_wp2_with fail
      go_region_held3 (fun wX => wX.cell? ⟨w.heap.size, 0, none⟩ = some (.int .u8 x0) ∧ wX.cell? ⟨w.heap.size, 1, none⟩ = some (.int .u8 x1) ∧ wX.cell? ⟨w.heap.size, 2, none⟩ = some (.int .u8 x2)) (go_keep)
        (first | (go_at_call 73; refine (headOf_at N x0 x1 y2 _ hNb HHd.out).mono ?_; rintro r w2 ⟨rfl, hb2⟩; have f0 := (hb2.cell (p := ⟨w.heap.size, 0, none⟩) hlt1).trans e0; have f1 := (hb2.cell (p := ⟨w.heap.size, 1, none⟩) hlt1).trans e1; have f2 := (hb2.cell (p := ⟨w.heap.size, 2, none⟩) hlt1).trans e2; have HB2 : Hid (Below w.heap.size w w2) := HB1.out.drew.trans (hb2.mono HB1.out.size)))
      clear hb2 f0 f1 f2 e0 e1 e2 hq hgd2 v1 v2 u1 u2 i2 i3 j1 j2
      go_wp2_with fail
      go_ret2
      exact HX.out _ HB2.out
end Go.Proofs.Ytmhgjilpgbkaaaa

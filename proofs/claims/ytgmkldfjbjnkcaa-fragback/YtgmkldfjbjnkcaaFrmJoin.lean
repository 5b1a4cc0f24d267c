/- FrmJoin: FrmPure, FrmLeaf, FrmPut, FrmRound, FrmPlain, FrmEq, FrmPass, FrmTake, as one text. -/
import Derived.Test.YtgmkldfjbjnkcaaLzAll
import Derived.Test.YtgmkldfjbjnkcaaCrcAll
import Derived.Test.YtgmkldfjbjnkcaaCurNew
import Derived.Stop.BytesEq
import Derived.Deep.RegionHeld3
import Derived.Deep.CutRange
import Derived.Deep.CutBlock

/- Frames, as pure functions over bytes: heads, what stands behind one, what a frame holds, its bytes. -/
namespace Go.Proofs.Ytgmkldfjbjnkcaa.Frm
set_option linter.unusedVariables false
open Lz (g pack unpack up)
open Crc (ent more)
open Cur (le by')

/-- The XOR of two bytes. -/
def x8 (a b : Int) : Int := ((a.toNat ^^^ b.toNat : Nat) : Int)
theorem x8_bd {a b : Int} (ha : 0 ≤ a ∧ a ≤ 255) (hb : 0 ≤ b ∧ b ≤ 255) : 0 ≤ x8 a b ∧ x8 a b ≤ 255 := by
  have := Nat.xor_lt_two_pow (n := 8) (x := a.toNat) (y := b.toNat) (by omega) (by omega)
  unfold x8; omega
/-- The head of a number. -/
def hd (n : Int) : List Int := [n % 256, n / 256 % 256, 255 - x8 (n % 256) (n / 256 % 256)]
theorem hd_length (n : Int) : (hd n).length = 3 := rfl
theorem hd_bytes (n : Int) : Bytes (hd n) := fun x hx => by
  have := x8_bd (a := n % 256) (b := n / 256 % 256) (by omega) (by omega)
  simp [hd] at hx
  rcases hx with rfl | rfl | rfl <;> omega
theorem hd_of {a b : Int} (ha : 0 ≤ a ∧ a ≤ 255) (hb : 0 ≤ b ∧ b ≤ 255) : hd (a + 256 * b) = [a, b, 255 - x8 a b] := by
  unfold hd
  have h1 : (a + 256 * b) % 256 = a := by omega
  have h2 : (a + 256 * b) / 256 % 256 = b := by omega
  rw [h1, h2]
/-- How many bytes stand behind a head; none, if no frame has it. -/
def bsz (n : Int) : Int × Bool := if n = 0 then (0, true) else if n % 32768 < 1 ∨ 128 < n % 32768 then (0, false) else (4 + n % 32768, true)
theorem bsz_bd (n : Int) : 0 ≤ (bsz n).1 ∧ (bsz n).1 ≤ 132 := by
  unfold bsz; split
  · simp
  · split
    · simp
    · simp only []; omega
theorem bsz_ge (n : Int) (h : (bsz n).1 ≠ 0) : 5 ≤ (bsz n).1 ∧ (bsz n).1 = 4 + n % 32768 ∧ n ≠ 0 := by
  by_cases h0 : n = 0
  · simp [bsz, h0] at h
  · by_cases h1 : n % 32768 < 1 ∨ 128 < n % 32768
    · simp [bsz, h0, h1] at h
    · have e : bsz n = (4 + n % 32768, true) := by unfold bsz; rw [if_neg h0, if_neg h1]
      rw [e]; exact ⟨by show 5 ≤ 4 + n % 32768; omega, rfl, h0⟩
/-- The number at a place. -/
def num (z : List Int) (k : Nat) : Int := g z k + 256 * g z (k + 1)
/-- The frame at a place: its number, and how many bytes stand behind its head. -/
def spot (z : List Int) (at' : Int) : Option (Int × Nat) :=
  if at' < 0 ∨ (z.length : Int) - 3 < at' then none
  else if (bsz (num z at'.toNat)).2 = false ∨ g z (at'.toNat + 2) ≠ 255 - x8 (g z at'.toNat) (g z (at'.toNat + 1)) then none
  else if (z.length : Int) - (at' + 3) < (bsz (num z at'.toNat)).1 then none
  else some (num z at'.toNat, (bsz (num z at'.toNat)).1.toNat)
/-- What stands behind the head at k. -/
def body (z : List Int) (k sz : Nat) : List Int := (z.drop (k + 3)).take sz
/-- What a body holds; nothing, if it is wrong. -/
def plain (T : Nat → Nat) (n : Int) (b : List Int) : List Int :=
  if le (b.take 4) ≠ (more T 0 (b.drop 4) : Int) then [] else if 32768 ≤ n then b.drop 4 else (unpack (b.drop 4) 128).1
/-- Take: the bytes, the place behind, the error. -/
def take (T : Nat → Nat) (z : List Int) (at' : Int) : List Int × Int × Int :=
  match spot z at' with
  | none => ([], 0, 2)
  | some (n, sz) => if sz = 0 then ([], at' + 3, 0) else if plain T n (body z at'.toNat sz) = [] then ([], 0, 2) else (plain T n (body z at'.toNat sz), at' + 3 + sz, 0)
/-- Skip: the place behind, the error. -/
def skip (z : List Int) (at' : Int) : Int × Int :=
  match spot z at' with
  | none => (0, 2)
  | some (_, sz) => (at' + 3 + sz, 0)
/-- The frame of a payload with bytes. -/
def whole (T : Nat → Nat) (n : Int) (p : List Int) : List Int := hd n ++ by' 4 (more T 0 p) ++ p
/-- The frame of bytes, 128 at most. -/
def put (T : Nat → Nat) (b : List Int) : List Int :=
  if b = [] then hd 0 else if (pack b).length < b.length then whole T (pack b).length (pack b) else whole T (b.length + 32768) b
end Go.Proofs.Ytgmkldfjbjnkcaa.Frm

/- The walks of the smallest functions of frames: headOf, number, bodySize, the reference's head. -/
namespace Go.Proofs.Ytgmkldfjbjnkcaa
set_option linter.unusedVariables false
open Go.RowKit Go.Maps
open Lz (g)
open Frm

theorem xor8 {a b : Int} (ha : 0 ≤ a ∧ a ≤ 255) (hb : 0 ≤ b ∧ b ≤ 255) : bits .xor .u8 a b = x8 a b := by
  obtain ⟨x, rfl⟩ : ∃ x : Nat, a = (x : Int) := ⟨a.toNat, by omega⟩
  obtain ⟨y, rfl⟩ : ∃ y : Nat, b = (y : Int) := ⟨b.toNat, by omega⟩
  rw [u8_xor_nat x y (by omega) (by omega)]; rfl
theorem hd_bits {n : Int} (hn : 0 ≤ n ∧ n ≤ 65535) : [n % 256, n / 256, (255 - bits .xor .u8 (n % 256) (n / 256)) % 256] = hd n := by
  have e : n / 256 % 256 = n / 256 := by omega
  rw [xor8 (by omega) (by omega)]
  unfold hd
  rw [e]
  have := x8_bd (a := n % 256) (b := n / 256) (by omega) (by omega)
  rw [show (255 - x8 (n % 256) (n / 256)) % 256 = 255 - x8 (n % 256) (n / 256) by omega]
/-- A head as the program has it. -/
def hv (n : Int) : Value := .agg (bv (hd n)).toArray
theorem infoHead : (Try.prog.info? 60).map (fun i => (i.zero, i.size)) = some (some (.agg #[.int .u8 0, .int .u8 0, .int .u8 0]), 3) := by kernel_rfl
set_option maxRecDepth 100000 in
theorem headOf_any (n : Int) (w : World) (hn : 0 ≤ n ∧ n ≤ 65535) :
    Calls Try.prog 22 #[.int .i64 n] w fun e w' => e = .returned (hv n) ∧ Below w.heap.size w w' := by
  have H : Hid (∀ x y z, x = n % 256 → y = n / 256 → z = (255 - bits .xor .u8 (n % 256) (n / 256)) % 256 → Value.agg #[.int .u8 x, .int .u8 y, .int .u8 z] = hv n) := by
    rintro x y z rfl rfl rfl
    unfold hv; rw [← hd_bits hn]; rfl
  obtain ⟨hz, hi'⟩ := zero_of_info infoHead
  go_enter Try.func22, Try.ntmps22
  go_wp2
  refine bodyPost_ret (v := hv n) ?_ rfl ⟨rfl, (Below.refl _ _).alloc (Nat.le_refl _) _⟩
  rw [← H.out _ _ _ rfl rfl rfl]
  exact results_cell_row rfl _ _ w.heap.size 60 _ (0, 0) _ rfl (heap_alloc_new w _) Try.underlying60 rfl hi'
theorem headOf_at (n a b c : Int) (w : World) (hn : 0 ≤ n ∧ n ≤ 65535) (h : hd n = [a, b, c]) :
    Calls Try.prog 22 #[.int .i64 n] w fun e w' => e = .returned (.agg #[.int .u8 a, .int .u8 b, .int .u8 c]) ∧ Below w.heap.size w w' := by
  refine (headOf_any n w hn).mono ?_
  rintro r w' ⟨rfl, hb⟩
  exact ⟨by unfold hv; rw [h]; rfl, hb⟩
set_option maxRecDepth 100000 in
theorem refHead_any (n : Int) (w : World) (hn : 0 ≤ n ∧ n ≤ 65535) :
    Calls Try.prog 48 #[.int .i64 n] w fun e w' => e = .returned (.slice (some ⟨w.heap.size, 0, none⟩) 3 3) ∧ Bs w' (some ⟨w.heap.size, 0, none⟩) 3 (hd n) ∧ Below w.heap.size w w' := by
  have H : Hid (∀ x y z, x = n % 256 → y = n / 256 → z = (255 - bits .xor .u8 (n % 256) (n / 256)) % 256 → Bs (w.alloc (.cells #[.int .u8 x, .int .u8 y, .int .u8 z] 5)) (some ⟨w.heap.size, 0, none⟩) 3 (hd n)) := by
    rintro x y z rfl rfl rfl
    rw [← hd_bits hn]
    refine bs_new w (0, 0) _ ?_
    rw [hd_bits hn]; exact hd_bytes n
  go_enter Try.func48, Try.ntmps48
  go_wp2
  go_ret
  exact ⟨rfl, H.out _ _ _ rfl rfl rfl, (Below.refl _ _).alloc (Nat.le_refl _) _⟩
set_option maxRecDepth 100000 in
theorem number_any (a b c : Int) (w : World) (ha : 0 ≤ a ∧ a ≤ 255) (hb : 0 ≤ b ∧ b ≤ 255) :
    Calls Try.prog 40 #[.agg #[.int .u8 a, .int .u8 b, .int .u8 c]] w fun e w' => e = .returned (.int .i64 (a + 256 * b)) ∧ Below w.heap.size w w' := by
  go_enter Try.func40, Try.ntmps40
  go_wp2
  go_ret
  exact ⟨ret_int (by omega), (Below.refl _ _).alloc (Nat.le_refl _) _⟩
set_option maxRecDepth 100000 in
theorem bodySize_any (n : Int) (w : World) (hn : 0 ≤ n ∧ n ≤ 65535) :
    Calls Try.prog 41 #[.int .i64 n] w fun e w' => e = .returned (.tuple #[.int .i64 (bsz n).1, .bool (bsz n).2]) ∧ w' = w := by
  by_cases h0 : n = 0
  · subst h0
    go_enter Try.func41, Try.ntmps41
    go_wp2
    go_ret2
    exact ⟨rfl, rfl⟩
  have t : n.tmod 32768 = n % 32768 := Int.tmod_eq_emod_of_nonneg hn.1
  obtain ⟨s, hs⟩ : ∃ s, s = n % 32768 := ⟨_, rfl⟩
  have hs0 : 0 ≤ s := by omega
  have HS : Hid (s = n % 32768) := hs
  rw [← hs] at t
  have hs1 : s ≤ 40000 := by omega
  clear hs
  by_cases h1 : s < 1 ∨ 128 < s
  · have e : bsz n = (0, false) := by unfold bsz; rw [if_neg h0, if_pos (by rw [← HS.out]; exact h1)]
    rw [e]
    clear e
    rcases h1 with h1 | h1
    all_goals
      go_enter Try.func41, Try.ntmps41
      go_wp2
      go_ret2
      exact ⟨rfl, rfl⟩
  · have e : bsz n = (4 + s, true) := by unfold bsz; rw [if_neg h0, if_neg (by rw [← HS.out]; exact h1), ← HS.out]
    rw [e]
    clear e
    have h2 : 1 ≤ s := by omega
    have h3 : s ≤ 128 := by omega
    clear h1
    go_enter Try.func41, Try.ntmps41
    go_wp2
    go_ret2
    exact ⟨rfl, rfl⟩
end Go.Proofs.Ytgmkldfjbjnkcaa

/- The walks of the program's Put and of whole. -/
namespace Go.Proofs.Ytgmkldfjbjnkcaa
set_option linter.unusedVariables false
open Go.RowKit Go.Maps
open Lz (g pack unpack)
open Crc (ent more)
open Cur
open Frm

theorem hd_three (n : Int) : ∃ a b c, hd n = [a, b, c] := ⟨_, _, _, rfl⟩
theorem more_bd {T : Nat → Nat} (hS : Small T) (p : List Int) : more T 0 p < 4294967296 := Crc.more_lt hS p (by omega)
theorem w_whole {T : Nat → Nat} (hS : Small T) (n : Int) (p : List Int) : wByt p (wNum (more T 0 p) 4 (wByt (hd n) ([], 0))) = (whole T n p, 0) := by
  have h := more_bd hS p
  have e : wByt (hd n) ([], 0) = (hd n, 0) := by unfold wByt; simp
  rw [e]
  have e2 : wNum (more T 0 p) 4 (hd n, 0) = (hd n ++ by' 4 (more T 0 p), 0) := by
    unfold wNum; rw [if_pos ⟨by omega, by omega, by omega, by show (more T 0 p : Int) < 4294967296; omega⟩]; rfl
  rw [e2]; rfl
theorem whole_length (T : Nat → Nat) (n : Int) (p : List Int) : (whole T n p).length = 7 + p.length := by
  unfold whole; rw [List.length_append, List.length_append, by_length, hd_length]

/-- Bytes that were just laid down, in cells of whatever type. -/
theorem bs_newT (w : World) (t : TypeId) (fz : Nat × Nat) (zs : List Int) (hb : Bytes zs) : Bs (w.alloc (.cells (bv zs).toArray t fz)) (some ⟨w.heap.size, 0, none⟩) zs.length zs := by
  refine ⟨rfl, hb.g, .inr ⟨w.heap.size, 0, rfl, by simp, fun i hi => ?_⟩⟩
  rw [Nat.zero_add, cell_of_row _ w.heap.size i _ _ _ (heap_alloc_new w _)]
  simp [bv, Lz.g_lt _ _ hi, hi]

set_option maxRecDepth 100000 in
set_option maxHeartbeats 1000000 in
theorem whole_any (tb len cap : Nat) (n : Int) (T : Nat → Nat) (ao : Option Addr) (zs : List Int) (w : World) (hT : Tb w tb T) (htb : tb < w.heap.size) (hS : Small T) (hn : 0 ≤ n ∧ n ≤ 65535) (hB : Bs w ao len zs) (hnil : ao = none → cap = 0) (hl : len ≤ 1000) :
    Calls Try.prog 24 #[.pointer (some ⟨tb, 0, none⟩), .int .i64 n, .slice ao len cap] w fun r w' => ∃ ao' c', r = .returned (.slice ao' (7 + len) c') ∧ New w w' ao' (7 + len) c' (whole T n zs) := by
  obtain ⟨x0, x1, x2, hx⟩ := hd_three n
  have HH : Hid (hd n = [x0, x1, x2]) := hx
  have HT : Hid (Tb w tb T) := hT
  have HB : Hid (Bs w ao len zs) := hB
  have HN : Hid (ao = none → cap = 0) := hnil
  have HW : Hid (wByt zs (wNum (more T 0 zs) 4 (wByt (hd n) ([], 0))) = (whole T n zs, 0)) := w_whole hS n zs
  have HL : Hid (zs.length = len) := hB.1
  have HS : Hid (Small T) := hS
  have hm := more_bd hS zs
  have hby := hd_bytes n
  rw [hx] at hby
  have HY : Hid (Bytes [x0, x1, x2]) := hby
  clear hx hT hB hS hby hnil
  go_enter Try.func24, Try.ntmps24
  go_wp2_with fail
  refine (headOf_at n x0 x1 x2 w hn HH.out).mono ?_
  rintro r w1 ⟨rfl, hb1⟩
  have HB1 : Hid (Below w.heap.size w w1) := hb1
  clear hb1
  go_wp2_with fail
  have HB2 : Hid (Below w.heap.size w ((w1.alloc (.cells #[.int .u8 x0, .int .u8 x1, .int .u8 x2] 60)).alloc (.cells #[.slice none 0 0, .int .i64 0] 81))) := (HB1.out.alloc HB1.out.size _).alloc (Nat.le_trans HB1.out.size (by simp)) _
  have HW2 : Hid (WrP ((w1.alloc (.cells #[.int .u8 x0, .int .u8 x1, .int .u8 x2] 60)).alloc (.cells #[.slice none 0 0, .int .i64 0] 81)) (w1.heap.size + 1) w.heap.size (.slice none 0 0) ([], 0)) := by
    have := WrP.new (w1.alloc (.cells #[.int .u8 x0, .int .u8 x1, .int .u8 x2] 60)) w.heap.size
    rw [World.size_alloc] at this; exact this
  have hx2 : Bs ((w1.alloc (.cells #[.int .u8 x0, .int .u8 x1, .int .u8 x2] 60)).alloc (.cells #[.slice none 0 0, .int .i64 0] 81)) (some ⟨w1.heap.size, 0, none⟩) 3 (hd n) := by
    rw [HH.out]; exact (bs_newT w1 60 (0, 0) _ HY.out).alloc _
  have hp : w.heap.size ≤ w1.heap.size + 1 := Nat.le_trans HB1.out.size (by omega)
  refine (wBytes_any (w1.heap.size + 1) w.heap.size 3 3 _ (.slice none 0 0) (hd n) ([], 0) _ HW2.out HB2.out.size hx2 (fun h => by simp at h) (by simp)).mono ?_
  rintro r w3 ⟨rfl, v3, hW3, hF3, hL3⟩
  have HB3 : Hid (Below w.heap.size w w3) := HB2.out.trans (hF3.two_below HB2.out.size hp (fun k hk => by simp [Value.ownBlock] at hk))
  have HW3 : Hid (WrP w3 (w1.heap.size + 1) w.heap.size v3 (wByt (hd n) ([], 0))) := hW3
  clear hW3 hF3 hL3 hx2 HB2 HW2
  have hl3 : (wByt (hd n) ([], 0)).1.length = 3 := by unfold wByt; simp [hd_length]
  generalize wByt (hd n) ([], 0) = s3 at *
  have hT3 := HT.out.below HB3.out htb
  go_wp2_with fail
  refine (Sum_any tb len cap T ao zs w3 hT3 HS.out (HB.out.below HB3.out) (by omega)).mono ?_
  rintro r wx ⟨rfl, rfl⟩
  clear hT3
  go_wp2_with fail
  refine (wNum_any (w1.heap.size + 1) w.heap.size v3 (more T 0 zs) 4 s3 wx HW3.out HB3.out.size (by omega) (by omega) (by omega)).mono ?_
  rintro r w4 ⟨rfl, v4, hW4, hF4, hL4⟩
  have HB4 : Hid (Below w.heap.size w w4) := HB3.out.trans (hF4.two_below HB3.out.size hp HW3.out.base)
  have HW4 : Hid (WrP w4 (w1.heap.size + 1) w.heap.size v4 (wNum (more T 0 zs) 4 s3)) := hW4
  clear hW4 hF4 hL4
  have hl4 : (wNum (more T 0 zs) 4 s3).1.length ≤ 7 := by
    unfold wNum; split
    · unfold wByt; split
      · rw [List.length_append, by_length]; simp; omega
      · omega
    · unfold fl; split
      · simp
      · omega
  generalize wNum (more T 0 zs) 4 s3 = s4 at *
  go_wp2_with fail
  refine (wBytes_any (w1.heap.size + 1) w.heap.size len cap ao v4 zs s4 w4 HW4.out HB4.out.size (HB.out.below HB4.out) HN.out (by omega)).mono ?_
  rintro r w5 ⟨rfl, v5, hW5, hF5, hL5⟩
  have HB5 : Hid (Below w.heap.size w w5) := HB4.out.trans (hF5.two_below HB4.out.size hp HW4.out.base)
  have HW5 : Hid (WrP w5 (w1.heap.size + 1) w.heap.size v5 (whole T n zs, 0)) := by rw [← HW.out]; exact hW5
  clear hW5 hF5 hL5
  have hlw : (whole T n zs).length = 7 + len := by rw [whole_length, HL.out]
  have HLW : Hid ((whole T n zs).length = 7 + len) := hlw
  go_wp2_with fail
  refine (DoneNew_any (w1.heap.size + 1) w.heap.size v5 (whole T n zs, 0) w5 HW5.out (by rw [HLW.out]; omega)).mono ?_
  rintro r w6 ⟨ao', c', rfl, hN⟩
  have HN6 : Hid (New w w6 ao' (7 + len) c' (whole T n zs)) := by
    have := hN.from HB5.out
    rw [HLW.out] at this; exact this
  clear hN hlw
  rw [HLW.out]
  go_wp2
  go_ret
  exact ⟨_, _, rfl, HN6.out⟩

theorem put_nil (T : Nat → Nat) : put T [] = [0, 0, 255] := by unfold put; rw [if_pos rfl]; decide
theorem put_packed (T : Nat → Nat) {zs : List Int} {len n1 : Nat} (hz : zs.length = len) (h0 : len ≠ 0) (hp : (pack zs).length = n1) (h : n1 < len) : put T zs = whole T n1 (pack zs) := by
  have : zs ≠ [] := fun e => h0 (by rw [← hz, e]; rfl)
  unfold put; rw [if_neg this, if_pos (by omega), hp]
theorem put_stored (T : Nat → Nat) {zs : List Int} {len n1 : Nat} (hz : zs.length = len) (h0 : len ≠ 0) (hp : (pack zs).length = n1) (h : ¬ n1 < len) : put T zs = whole T ((len : Int) + 32768) zs := by
  have : zs ≠ [] := fun e => h0 (by rw [← hz, e]; rfl)
  unfold put; rw [if_neg this, if_neg (by omega), hz]
/-- What Put answers. -/
def Puts (T : Nat → Nat) (w w' : World) (zs : List Int) (r : Ending) : Prop :=
  (128 < zs.length ∧ r = .returned (.tuple #[.slice none 0 0, .int .i64 3]) ∧ w' = w) ∨
  (zs.length ≤ 128 ∧ ∃ ao' c', r = .returned (.tuple #[.slice ao' (put T zs).length c', .int .i64 0]) ∧ New w w' ao' (put T zs).length c' (put T zs))
set_option maxRecDepth 100000 in
set_option maxHeartbeats 1000000 in
theorem Put_any (tb len cap : Nat) (T : Nat → Nat) (ao : Option Addr) (zs : List Int) (w : World) (hT : Tb w tb T) (htb : tb < w.heap.size) (hS : Small T) (hB : Bs w ao len zs) (hc : len ≤ cap) (hnil : ao = none → cap = 0) (hl : len ≤ 1000) :
    Calls Try.prog 16 #[.pointer (some ⟨tb, 0, none⟩), .slice ao len cap] w fun r w' => Puts T w w' zs r := by
  have hz := hB.1
  by_cases h1 : 128 < len
  · have H : Hid (Puts T w w zs (.returned (.tuple #[.slice none 0 0, .int .i64 3]))) := .inl ⟨by omega, rfl, rfl⟩
    clear hT hB hnil
    go_enter Try.func16, Try.ntmps16
    go_wp2
    go_ret2
    exact H.out
  by_cases h2 : len = 0
  · subst h2
    obtain rfl : zs = [] := List.eq_nil_of_length_eq_zero hz
    have HP : Hid (put T [] = [0, 0, 255]) := put_nil T
    have hh : hd 0 = [0, 0, 255] := by decide
    clear hT hB hnil hz
    go_enter Try.func16, Try.ntmps16
    go_wp2_with fail
    refine (headOf_at 0 0 0 255 w (by omega) hh).mono ?_
    rintro r w1 ⟨rfl, hb1⟩
    have HB1 : Hid (Below w.heap.size w w1) := hb1
    clear hb1 hh
    go_wp2
    go_ret2
    refine .inr ⟨by simp, _, 3, by rw [HP.out]; rfl, ?_⟩
    rw [HP.out]
    exact ⟨bs_newT w1 60 (0, 0) [0, 0, 255] (fun x hx => by simp at hx; omega), by simp, by omega, fun h => by simp at h, HB1.out.alloc HB1.out.size _, fun a ha => by cases ha; exact ⟨HB1.out.size, rfl, _, _, heap_alloc_new w1 _⟩⟩
  have HT : Hid (Tb w tb T) := hT
  have HB : Hid (Bs w ao len zs) := hB
  have HN : Hid (ao = none → cap = 0) := hnil
  have HS : Hid (Small T) := hS
  have HZ : Hid (zs.length = len) := hz
  clear hT hB hnil hS hz
  go_enter Try.func16, Try.ntmps16
  go_wp2_with fail
  refine (Pack_any len cap ao zs w HB.out hc (by omega)).mono ?_
  rintro r w1 (⟨h4, _⟩ | ⟨_, ao1, n1, c1, rfl, ho1, hb1⟩)
  · omega
  have HO1 : Hid (w1.ownsRow w.heap.size 5 1 (.slice ao1 n1 c1) n1 (bv (pack zs))) := ho1
  have HB1 : Hid (Below w.heap.size w w1) := hb1
  have hl1 : (pack zs).length = n1 := by have := ho1.1; rw [bv_length] at this; omega
  have HL1 : Hid ((pack zs).length = n1) := hl1
  have hsh := Lz.pack_short zs
  have hn1 : n1 ≤ 1000 := by rw [HZ.out] at hsh; omega
  have hbp : Bytes (pack zs) := HB.out.bytes.pack
  have HBP : Hid (Bytes (pack zs)) := hbp
  clear ho1 hb1 hsh hbp hl1
  by_cases h3 : n1 < len
  · have h3' : decide ((n1 : Int) < (len : Int)) = true := by simp; omega
    have HP : Hid (put T zs = whole T n1 (pack zs)) := put_packed T HZ.out h2 HL1.out h3
    go_wp2_with fail
    refine (whole_any tb n1 c1 n1 T ao1 (pack zs) w1 (HT.out.below HB1.out htb) (Nat.lt_of_lt_of_le htb HB1.out.size) HS.out (by omega) (bs_of_owns HO1.out HBP.out) (nil_cap HO1.out) hn1).mono ?_
    rintro r w2 ⟨ao2, c2, rfl, hN⟩
    have HX : Hid (Puts T w w2 zs (.returned (.tuple #[.slice ao2 (7 + n1) c2, .int .i64 0]))) := by
      refine .inr ⟨by rw [HZ.out]; omega, ao2, c2, ?_, ?_⟩
      · rw [HP.out, whole_length, HL1.out]
      · have := hN.from HB1.out
        rw [HP.out, whole_length, HL1.out]; exact this
    clear hN
    go_wp2
    go_ret2
    exact HX.out
  · have h3' : decide ((n1 : Int) < (len : Int)) = false := by simp; omega
    have HP : Hid (put T zs = whole T ((len : Int) + 32768) zs) := put_stored T HZ.out h2 HL1.out h3
    go_wp2_with fail
    refine (whole_any tb len cap ((len : Int) + 32768) T ao zs w1 (HT.out.below HB1.out htb) (Nat.lt_of_lt_of_le htb HB1.out.size) HS.out (by omega) (HB.out.below HB1.out) HN.out hl).mono ?_
    rintro r w2 ⟨ao2, c2, rfl, hN⟩
    have HX : Hid (Puts T w w2 zs (.returned (.tuple #[.slice ao2 (7 + len) c2, .int .i64 0]))) := by
      refine .inr ⟨by rw [HZ.out]; omega, ao2, c2, ?_, ?_⟩
      · rw [HP.out, whole_length, HZ.out]
      · have := hN.from HB1.out
        rw [HP.out, whole_length, HZ.out]; exact this
    clear hN
    go_wp2
    go_ret2
    exact HX.out
end Go.Proofs.Ytgmkldfjbjnkcaa

/- What was framed is read as it was, wherever it stands; a frame that is cut, or of which a byte is turned, is none; how long frames are. -/
namespace Go.Proofs.Ytgmkldfjbjnkcaa.Frm
set_option linter.unusedVariables false
open Lz (g pack unpack)
open Crc (ent more)
open Cur (le by')

theorem bsz_zero : bsz 0 = (0, true) := rfl
theorem bsz_of {n : Int} {m : Nat} (h1 : 1 ≤ m) (h2 : m ≤ 128) (hn : n = m ∨ n = (m : Int) + 32768) : bsz n = (((4 + m : Nat) : Int), true) := by
  unfold bsz
  rw [if_neg (by omega), if_neg (by omega)]
  have : 4 + n % 32768 = ((4 + m : Nat) : Int) := by omega
  rw [this]
theorem g_app_right (a b : List Int) (i : Nat) : g (a ++ b) (a.length + i) = g b i := by simp [g, List.getElem?_append_right]
theorem g_app_r {a b : List Int} {k : Nat} (hk : a.length = k) (i : Nat) : g (a ++ b) (k + i) = g b i := by rw [← hk]; exact g_app_right a b i
/-- A head with what belongs to it is a frame, wherever it stands. -/
theorem spot_frame {n : Int} (hn : 0 ≤ n ∧ n ≤ 65535) {s : Nat} (hs : bsz n = ((s : Int), true)) (A rest : List Int) (hr : s ≤ rest.length) : spot (A ++ (hd n ++ rest)) (A.length : Nat) = some (n, s) := by
  have e0 : g (A ++ (hd n ++ rest)) A.length = n % 256 := by have := g_app_right A (hd n ++ rest) 0; rw [Nat.add_zero] at this; rw [this]; rfl
  have e1 : g (A ++ (hd n ++ rest)) (A.length + 1) = n / 256 % 256 := by rw [g_app_right]; rfl
  have e2 : g (A ++ (hd n ++ rest)) (A.length + 2) = 255 - x8 (n % 256) (n / 256 % 256) := by rw [g_app_right]; rfl
  have en : num (A ++ (hd n ++ rest)) A.length = n := by unfold num; rw [e0, e1]; omega
  have hl : (A ++ (hd n ++ rest)).length = A.length + (3 + rest.length) := by rw [List.length_append, List.length_append, hd_length]
  unfold spot
  rw [Int.toNat_natCast, if_neg (by rw [hl]; omega), en, hs, e0, e1, e2, if_neg (by simp), if_neg (by rw [hl]; simp only []; omega)]
  simp
theorem body_frame {n : Int} (A rest : List Int) (s : Nat) : body (A ++ (hd n ++ rest)) A.length s = rest.take s := by
  unfold body
  rw [List.drop_append, List.drop_append, List.drop_eq_nil_of_le (by omega), List.drop_eq_nil_of_le (by rw [hd_length]; omega), List.nil_append, List.nil_append, hd_length]
  rw [show A.length + 3 - A.length - 3 = 0 by omega, List.drop_zero]
/-- What a frame is made of. -/
theorem put_shape {T : Nat → Nat} {b : List Int} (h : b.length ≤ 128) : ∃ n rest, put T b = hd n ++ rest ∧ bsz n = ((rest.length : Int), true) ∧ (0 ≤ n ∧ n ≤ 65535) ∧
    ((b = [] ∧ rest = []) ∨ (b ≠ [] ∧ ∃ p, rest = by' 4 (more T 0 p) ++ p ∧ 1 ≤ p.length ∧ p.length ≤ 128 ∧ ((32768 ≤ n ∧ p = b) ∨ (n < 32768 ∧ p = pack b)))) := by
  by_cases h0 : b = []
  · subst h0
    exact ⟨0, [], by rw [put_nil]; decide, rfl, by omega, .inl ⟨rfl, rfl⟩⟩
  · have hb : 1 ≤ b.length := by cases b; exact absurd rfl h0; simp
    by_cases h1 : (pack b).length < b.length
    · have hp : 1 ≤ (pack b).length := by
        cases hpk : pack b with
        | nil =>
          have := Lz.unpack_pack b 128 (by omega)
          rw [if_neg (by omega), hpk] at this
          have h9 : unpack [] 128 = ([], 0) := by decide
          rw [h9] at this
          exact absurd (congrArg Prod.fst this).symm h0
        | cons x y => simp
      refine ⟨(pack b).length, by' 4 (more T 0 (pack b)) ++ pack b, ?_, ?_, by omega, .inr ⟨h0, pack b, rfl, hp, by omega, .inr ⟨by omega, rfl⟩⟩⟩
      · unfold put; rw [if_neg h0, if_pos h1]; unfold whole; rw [List.append_assoc]
      · rw [List.length_append, by_length]; exact bsz_of hp (by omega) (.inl rfl)
    · refine ⟨(b.length : Int) + 32768, by' 4 (more T 0 b) ++ b, ?_, ?_, by omega, .inr ⟨h0, b, rfl, hb, h, .inl ⟨by omega, rfl⟩⟩⟩
      · unfold put; rw [if_neg h0, if_neg h1]; unfold whole; rw [List.append_assoc]
      · rw [List.length_append, by_length]; exact bsz_of hb h (.inr rfl)
theorem plain_sum {T : Nat → Nat} (hS : Small T) (n : Int) (p : List Int) : plain T n (by' 4 (more T 0 p) ++ p) = if 32768 ≤ n then p else (unpack p 128).1 := by
  have hm := more_bd hS p
  unfold plain
  have e1 : (by' 4 (more T 0 p) ++ p).take 4 = by' 4 (more T 0 p) := by rw [List.take_append_of_le_length (by rw [by_length]; omega), List.take_of_length_le (by rw [by_length]; omega)]
  have e2 : (by' 4 (more T 0 p) ++ p).drop 4 = p := by rw [List.drop_append, by_length, List.drop_eq_nil_of_le (by rw [by_length]; omega)]; simp
  rw [e1, e2, Cur.le_by 4 _ (by omega) (by show (more T 0 p : Int) < 4294967296; omega), if_neg (by simp)]
/-- What was framed is read as it was, wherever it stands. -/
theorem take_put {T : Nat → Nat} (hS : Small T) {b : List Int} (h : b.length ≤ 128) (A Z : List Int) :
    take T (A ++ (put T b ++ Z)) (A.length : Nat) = (b, ((A.length + (put T b).length : Nat) : Int), 0) ∧ skip (A ++ (put T b ++ Z)) (A.length : Nat) = (((A.length + (put T b).length : Nat) : Int), 0) := by
  obtain ⟨n, rest, e, hs, hn, hc⟩ := put_shape (T := T) h
  rw [e, List.append_assoc]
  have hsp := spot_frame hn hs A (rest ++ Z) (by simp)
  have hbd : body (A ++ (hd n ++ (rest ++ Z))) A.length rest.length = rest := by rw [body_frame]; simp
  have hlen : ((A.length : Nat) : Int) + 3 + (rest.length : Nat) = ((A.length + (hd n ++ rest).length : Nat) : Int) := by rw [List.length_append, hd_length]; omega
  constructor
  · unfold take
    rw [hsp]
    simp only [Int.toNat_natCast, hbd]
    rcases hc with ⟨rfl, rfl⟩ | ⟨h0, p, rfl, h1, h2, hc⟩
    · simp [hd_length]
    · rw [if_neg (by simp [by_length])]
      rw [plain_sum hS]
      rcases hc with ⟨h3, rfl⟩ | ⟨h3, rfl⟩
      · rw [if_pos h3, if_neg h0, hlen]
      · rw [if_neg (show ¬ 32768 ≤ n by omega), Lz.unpack_pack b 128 (by omega), if_neg (show ¬ (128 : Int) < b.length by omega)]
        rw [if_neg h0, hlen]
  · unfold skip
    rw [hsp]
    simp only [hlen]
theorem put_length {T : Nat → Nat} {b : List Int} (h : b.length ≤ 128) : 3 ≤ (put T b).length ∧ (put T b).length ≤ b.length + 7 ∧ (put T b).length ≤ 135 := by
  by_cases h0 : b = []
  · subst h0; rw [put_nil]; simp
  · unfold put; rw [if_neg h0]
    split
    · rw [whole_length]; omega
    · rw [whole_length]; omega
theorem put_bytes {T : Nat → Nat} {b : List Int} (h : Bytes b) : Bytes (put T b) := by
  unfold put whole
  split
  · exact hd_bytes 0
  · split
    · exact ((hd_bytes _).append (by_bytes 4 _)).append h.pack
    · exact ((hd_bytes _).append (by_bytes 4 _)).append h
theorem pack_four (k : Nat) (c : Int) (h1 : 4 ≤ k) (h2 : k ≤ 131) : (pack (List.replicate k c)).length ≤ 4 := by
  unfold Lz.pack
  have h0 : Lz.mt (List.replicate k c) 0 = (0, 0) := rfl
  rw [Lz.pk_byte _ [] 0 0 (by simp; omega) (by rw [h0])]
  have hb := Lz.mt_same k 1 c (by omega) (by omega)
  have hmt : Lz.mt (List.replicate k c) 1 = (min 130 (k - 1), 1) := by unfold Lz.mt; rw [hb, if_neg (by simp; omega)]
  have ih := Lz.same_tail k c k (1 + min 130 (k - 1)) (by omega) (by omega) (by omega)
  rw [Nat.zero_add, Lz.pk_copy _ [] 0 1 (by simp; omega) (by rw [hmt]; simp; omega), hmt, Lz.pk_out, List.length_append, List.length_append, List.length_append, Lz.runs_length]
  simp only [List.length_cons, List.length_nil, List.length_drop, List.length_take, List.length_replicate]
  rw [if_pos (by omega)] at ih
  omega
theorem put_same (T : Nat → Nat) (k : Nat) (c : Int) (h1 : 4 ≤ k) (h2 : k ≤ 128) : (put T (List.replicate k c)).length ≤ 11 := by
  have h4 := pack_four k c h1 (by omega)
  have hne : List.replicate k c ≠ [] := fun e => by have := congrArg List.length e; simp at this; omega
  unfold put
  rw [if_neg hne]
  split
  · rw [whole_length]; omega
  · rename_i h; rw [whole_length]; simp at h ⊢; omega
/-- A frame that is cut is none. -/
theorem cut_none {T : Nat → Nat} {b : List Int} (h : b.length ≤ 128) (k : Nat) (hk : k < (put T b).length) : spot ((put T b).take k) 0 = none := by
  obtain ⟨n, rest, e, hs, hn, _⟩ := put_shape (T := T) h
  rw [e] at hk ⊢
  have hl : ((hd n ++ rest).take k).length = k := by rw [List.length_take]; omega
  have hln : (hd n ++ rest).length = 3 + rest.length := by rw [List.length_append, hd_length]
  unfold spot
  by_cases h3 : k < 3
  · rw [if_pos (by rw [hl]; omega)]
  · rw [if_neg (by rw [hl]; omega)]
    have e0 : g ((hd n ++ rest).take k) 0 = n % 256 := by rw [Lz.g_take _ _ _ (by omega)]; rfl
    have e1 : g ((hd n ++ rest).take k) 1 = n / 256 % 256 := by rw [Lz.g_take _ _ _ (by omega)]; rfl
    have en : num ((hd n ++ rest).take k) 0 = n := by unfold num; rw [e0, Nat.zero_add, e1]; omega
    rw [Int.toNat_zero, en, hs]
    split
    · rfl
    · rw [if_pos (by rw [hl]; simp only []; omega)]
theorem x8_left {a b c : Int} (ha : 0 ≤ a ∧ a ≤ 255) (hb : 0 ≤ b ∧ b ≤ 255) (hc : 0 ≤ c ∧ c ≤ 255) (h : x8 a c = x8 b c) : a = b := by
  unfold x8 at h
  have := Crc.xor_right_cancel (Int.ofNat.inj h)
  omega
theorem x8_right {a b c : Int} (ha : 0 ≤ a ∧ a ≤ 255) (hb : 0 ≤ b ∧ b ≤ 255) (hc : 0 ≤ c ∧ c ≤ 255) (h : x8 c a = x8 c b) : a = b := by
  unfold x8 at h
  have := Crc.xor_left_cancel (Int.ofNat.inj h)
  omega
theorem g_set_same (z : List Int) (k : Nat) (y : Int) (h : k < z.length) : g (z.set k y) k = y := by simp [g, h]
theorem g_set_other (z : List Int) (k i : Nat) (y : Int) (h : k ≠ i) : g (z.set k y) i = g z i := by simp [g, h]
theorem le_set_ne : ∀ (z : List Int) (j : Nat) (y : Int), j < z.length → y ≠ g z j → le (z.set j y) ≠ le z
  | [], j, y, h, _ => by simp at h
  | x :: z, 0, y, _, hne => by
    have : y ≠ x := hne
    simp only [List.set_cons_zero, le]; omega
  | x :: z, j + 1, y, h, hne => by
    have ih := le_set_ne z j y (by simpa using h) (by simpa [g] using hne)
    simp only [List.set_cons_succ, le]; omega
theorem sum_turned (p : List Int) (j : Nat) (y : Int) (hp : Bytes p) (hy : 0 ≤ y ∧ y ≤ 255) (hj : j < p.length) (hne : y ≠ g p j) : more ent 0 (p.set j y) ≠ more ent 0 p := by
  have e1 : p = p.take j ++ g p j :: p.drop (j + 1) := by rw [Lz.g_lt _ _ hj, List.getElem_cons_drop, List.take_append_drop]
  have e2 : p.set j y = p.take j ++ y :: p.drop (j + 1) := by rw [List.set_eq_take_append_cons_drop, if_pos hj]
  have := Crc.more_turned (p.take j) (p.drop (j + 1)) (g p j) y (hp.g j) hy (fun h => hne h.symm)
  rw [← e1, ← e2] at this
  exact this
theorem plain_turned (n : Int) (p : List Int) (j : Nat) (y : Int) (hp : Bytes p) (hy : 0 ≤ y ∧ y ≤ 255) (hj : j < 4 + p.length) (hne : y ≠ g (by' 4 (more ent 0 p) ++ p) j) : plain ent n ((by' 4 (more ent 0 p) ++ p).set j y) = [] := by
  have hm := more_bd small_ent p
  have hle : le (by' 4 (more ent 0 p)) = (more ent 0 p : Int) := Cur.le_by 4 _ (by omega) (by show (more ent 0 p : Int) < 4294967296; omega)
  have hl4 := by_length 4 (more ent 0 p : Int)
  have hb4 : 4 = (by' 4 (more ent 0 p : Int)).length := hl4.symm
  generalize hB : by' 4 (more ent 0 p : Int) = B at *
  unfold plain
  by_cases h4 : j < 4
  · have e : (B ++ p).set j y = B.set j y ++ p := by rw [List.set_append_left _ _ (by omega)]
    have e1 : (B.set j y ++ p).take 4 = B.set j y := by rw [List.take_append_of_le_length (by simp; omega), List.take_of_length_le (by simp; omega)]
    have e2 : (B.set j y ++ p).drop 4 = p := by rw [List.drop_append, List.length_set, hl4, List.drop_eq_nil_of_le (by simp; omega)]; simp
    rw [e, e1, e2, ← hle]
    rw [Lz.g_append_left _ _ _ (by omega)] at hne
    rw [if_pos (le_set_ne B j y (by omega) hne)]
  · obtain ⟨i, rfl⟩ : ∃ i, j = 4 + i := ⟨j - 4, by omega⟩
    have e : (B ++ p).set (4 + i) y = B ++ p.set i y := by rw [List.set_append_right _ _ (by omega), hl4, Nat.add_sub_cancel_left]
    have e1 : (B ++ p.set i y).take 4 = B := by rw [List.take_append_of_le_length (by omega), List.take_of_length_le (by omega)]
    have e2 : (B ++ p.set i y).drop 4 = p.set i y := by rw [List.drop_append, hl4, List.drop_eq_nil_of_le (by omega)]; simp
    rw [g_app_r hl4] at hne
    rw [e, e1, e2, hle]
    rw [if_pos]
    intro h
    exact sum_turned p i y hp hy (by omega) hne (Int.ofNat.inj h).symm
/-- A frame of which a byte is turned into another one is none. -/
theorem turned_none {b : List Int} (h : b.length ≤ 128) (hb : Bytes b) (k : Nat) (y : Int) (hk : k < (put ent b).length) (hy : 0 ≤ y ∧ y ≤ 255) (hne : y ≠ g (put ent b) k) : (take ent ((put ent b).set k y) 0).2.2 = 2 := by
  obtain ⟨n, rest, e, hs, hn, hc⟩ := put_shape (T := ent) h
  rw [e] at hk hne ⊢
  have hln : (hd n ++ rest).length = 3 + rest.length := by rw [List.length_append, hd_length]
  have f0 : g (hd n ++ rest) 0 = n % 256 := rfl
  have f1 : g (hd n ++ rest) 1 = n / 256 % 256 := rfl
  have f2 : g (hd n ++ rest) 2 = 255 - x8 (n % 256) (n / 256 % 256) := rfl
  by_cases h3 : k < 3
  · have hsp : spot ((hd n ++ rest).set k y) 0 = none := by
      unfold spot
      rw [if_neg (by rw [List.length_set, hln]; omega)]
      rw [if_pos]
      refine .inr ?_
      rw [Int.toNat_zero, Nat.zero_add, Nat.zero_add]
      rcases (show k = 0 ∨ k = 1 ∨ k = 2 by omega) with rfl | rfl | rfl
      · rw [g_set_same _ _ _ hk, g_set_other _ _ _ _ (by omega), g_set_other _ _ _ _ (by omega), f1, f2]
        rw [f0] at hne
        intro h9
        exact hne (x8_left (a := y) (b := n % 256) (c := n / 256 % 256) hy (by omega) (by omega) (by omega))
      · rw [g_set_same _ _ _ hk, g_set_other _ _ _ _ (by omega), g_set_other _ _ _ _ (by omega), f0, f2]
        rw [f1] at hne
        intro h9
        exact hne (x8_right (a := y) (b := n / 256 % 256) (c := n % 256) hy (by omega) (by omega) (by omega))
      · rw [g_set_same _ _ _ hk, g_set_other _ _ _ _ (by omega), g_set_other _ _ _ _ (by omega), f0, f1]
        rw [f2] at hne
        exact hne
    unfold take; rw [hsp]
  · obtain ⟨j, rfl⟩ : ∃ j, k = 3 + j := ⟨k - 3, by omega⟩
    have e9 : (hd n ++ rest).set (3 + j) y = hd n ++ rest.set j y := by rw [List.set_append_right _ _ (by rw [hd_length]; omega), hd_length, Nat.add_sub_cancel_left]
    rw [g_app_r (hd_length n)] at hne
    rw [e9]
    have hsp := spot_frame hn hs [] (rest.set j y) (by simp)
    have hbd := body_frame (n := n) [] (rest.set j y) rest.length
    rw [List.nil_append] at hsp hbd
    have hbd2 : body (hd n ++ rest.set j y) 0 rest.length = rest.set j y := by
      rw [show (0 : Nat) = ([] : List Int).length from rfl, hbd, List.take_of_length_le (by simp)]
    have hsp2 : spot (hd n ++ rest.set j y) 0 = some (n, rest.length) := hsp
    unfold take
    rw [hsp2]
    simp only [Int.toNat_zero, hbd2]
    rcases hc with ⟨rfl, rfl⟩ | ⟨h0, p, rfl, h1, h2, hc⟩
    · simp at hln hk; omega
    · have hpb : Bytes p := by
        rcases hc with ⟨_, rfl⟩ | ⟨_, rfl⟩
        · exact hb
        · exact hb.pack
      rw [if_neg (by simp [by_length]), plain_turned n p j y hpb hy (by rw [hln, List.length_append, by_length] at hk; omega) hne, if_pos rfl]
end Go.Proofs.Ytgmkldfjbjnkcaa.Frm

/- The walks of plain, and of the two functions that are handed to pass. -/
namespace Go.Proofs.Ytgmkldfjbjnkcaa
set_option linter.unusedVariables false
open Go.RowKit Go.Maps
open Lz (g pack unpack)
open Crc (ent more)
open Cur
open Frm

/-- Bytes in blocks that are new since w, or none. -/
structure Fresh (w w' : World) (ao : Option Addr) (n c : Nat) (zs : List Int) : Prop where
  bs : Bs w' ao n zs
  cap : n ≤ c
  max : c ≤ 9223372036854775807
  nil : ao = none → c = 0
  bel : Below w.heap.size w w'
  new : ∀ a, ao = some a → w.heap.size ≤ a.block
theorem New.fresh {w w' : World} {ao : Option Addr} {n c : Nat} {zs : List Int} (h : New w w' ao n c zs) : Fresh w w' ao n c zs := ⟨h.bs, h.cap, h.max, h.nil, h.bel, fun a ha => (h.own a ha).1⟩
theorem Fresh.none {w w' : World} (h : Below w.heap.size w w') : Fresh w w' none 0 0 [] := ⟨⟨rfl, fun i => by simp [g], .inl rfl⟩, Nat.le_refl _, by omega, fun _ => rfl, h, fun a h => by simp at h⟩
theorem Fresh.from {w0 w w' : World} {ao : Option Addr} {n c : Nat} {zs : List Int} (h : Fresh w w' ao n c zs) (hb : Below w0.heap.size w0 w) : Fresh w0 w' ao n c zs :=
  ⟨h.bs, h.cap, h.max, h.nil, hb.trans (h.bel.mono hb.size), fun a ha => Nat.le_trans hb.size (h.new a ha)⟩
theorem Fresh.on {w w' w2 : World} {ao : Option Addr} {n c : Nat} {zs : List Int} (h : Fresh w w' ao n c zs) (hb : Below w'.heap.size w' w2) : Fresh w w2 ao n c zs :=
  ⟨h.bs.below hb, h.cap, h.max, h.nil, h.bel.trans (hb.mono h.bel.size), h.new⟩
/-- What a call that tells bytes answers. -/
def Tells (w w' : World) (zs : List Int) (r : Ending) : Prop := ∃ ao c, r = .returned (.slice ao zs.length c) ∧ Fresh w w' ao zs.length c zs
theorem up_err (most : Int) : ∀ (f : Nat) (b out : List Int), (Lz.upF most f b out).2 ≠ 0 → (Lz.upF most f b out).1 = []
  | 0, b, out, h => by simp [Lz.upF] at h
  | f + 1, b, out, h => by
    rw [Lz.upF_succ] at h ⊢
    split at h
    · simp at h
    · rename_i h1; rw [if_neg h1]
      split at h
      · rename_i h2; rw [if_pos h2]
        split at h
        · rename_i h3; rw [if_pos h3]
        · rename_i h3; rw [if_neg h3]
          split at h
          · rename_i h4; rw [if_pos h4]
          · rename_i h4; rw [if_neg h4]; exact up_err most f _ _ h
      · rename_i h2; rw [if_neg h2]
        split at h
        · rename_i h3; rw [if_pos h3]
        · rename_i h3; rw [if_neg h3]
          split at h
          · rename_i h4; rw [if_pos h4]
          · rename_i h4; rw [if_neg h4]; exact up_err most f _ _ h
theorem unpack_err (b : List Int) (most : Int) (h : (unpack b most).2 ≠ 0) : (unpack b most).1 = [] := by
  unfold Lz.unpack at h ⊢
  split
  · rfl
  · rename_i h1; rw [if_neg h1] at h; exact up_err most _ _ _ h
theorem num4 (zs : List Int) (h : 4 ≤ zs.length) : numA 4 (zs, 0) = le (zs.take 4) ∧ numS 4 (zs, 0) = (zs.drop 4, 0) := by
  unfold numA numS
  rw [if_pos (by omega), if_pos (by omega)]
  unfold pa ps
  rw [if_neg (by show ¬ zs.length < 4; omega), if_neg (by show ¬ zs.length < 4; omega)]
  exact ⟨rfl, rfl⟩
theorem byt_all (zs : List Int) : bytA zs.length (zs, 0) = zs ∧ bytS zs.length (zs, 0) = ([], 0) := by
  unfold bytA bytS
  rw [if_neg (by omega), if_neg (by omega)]
  unfold pa ps
  simp

set_option maxRecDepth 100000 in
set_option maxHeartbeats 1000000 in
theorem plain_any (tb len cap : Nat) (n : Int) (T : Nat → Nat) (ao : Option Addr) (zs : List Int) (w : World) (hT : Tb w tb T) (htb : tb < w.heap.size) (hS : Small T) (hn : 0 ≤ n ∧ n ≤ 65535) (hB : Bs w ao len zs) (hc : len ≤ cap) (hnil : ao = none → cap = 0) (h4 : 4 ≤ len) (hl : len ≤ 1000) :
    Calls Try.prog 27 #[.pointer (some ⟨tb, 0, none⟩), .int .i64 n, .slice ao len cap] w fun r w' => Tells w w' (plain T n zs) r := by
  have hz := hB.1
  obtain ⟨a1, a2⟩ := num4 zs (by omega)
  obtain ⟨b1, b2⟩ := byt_all (zs.drop 4)
  have hpl : (zs.drop 4).length = len - 4 := by simp [hz]
  have HA : Hid (numA 4 (zs, 0) = le (zs.take 4) ∧ numS 4 (zs, 0) = (zs.drop 4, 0)) := ⟨a1, a2⟩
  have HP : Hid (plain T n zs = if le (zs.take 4) ≠ (more T 0 (zs.drop 4) : Int) then [] else if 32768 ≤ n then zs.drop 4 else (unpack (zs.drop 4) 128).1) := rfl
  have hble := le_bound (hB.bytes.take 4)
  have hble2 : 0 ≤ le (zs.take 4) ∧ le (zs.take 4) < 4294967296 := by
    have e : (zs.take 4).length = 4 := by simp; omega
    rw [e] at hble; exact hble
  clear hble a1 a2
  generalize zs.drop 4 = py at *
  generalize le (zs.take 4) = sm at *
  obtain ⟨m, hpm⟩ : ∃ m, py.length = m := ⟨_, rfl⟩
  rw [hpm] at b1 b2 hpl
  have HPM : Hid (py.length = m) := hpm
  have HB' : Hid (bytA (m : Int) (py, 0) = py ∧ bytS (m : Int) (py, 0) = ([], 0)) := ⟨b1, b2⟩
  have hm := more_bd hS py
  have HT : Hid (Tb w tb T) := hT
  have HB : Hid (Bs w ao len zs) := hB
  have HN : Hid (ao = none → cap = 0) := hnil
  have HS : Hid (Small T) := hS
  have hm9 : m ≤ 1000 := by omega
  clear hT hB hnil hS b1 b2 hpm hz hpl
  go_enter Try.func27, Try.ntmps27
  go_wp2_with fail
  refine (Read_any len cap ao zs w HB.out hc HN.out (by omega)).mono ?_
  rintro r w1 ⟨p, rfl, hp, hR1, hb1⟩
  have HB1 : Hid (Below w.heap.size w w1) := hb1
  have HP1 : Hid (w.heap.size ≤ p) := hp
  have HR1 : Hid (RdP w1 p w1.heap.size (zs, 0)) := hR1
  clear hb1 hp hR1
  generalize hL : w1.heap.size = L at HR1
  have HL : Hid (w1.heap.size = L) := hL
  clear hL
  go_wp2_with fail
  refine (Num_any p L 4 (zs, 0) w1 HR1.out (by omega)).mono ?_
  rintro r w2 ⟨rfl, hR2, hF2⟩
  rw [HA.out.1]
  rw [HA.out.2] at hR2
  have HB2 : Hid (Below w.heap.size w w2) := HB1.out.trans (hF2.one_below HB1.out.size HP1.out)
  have HR2 : Hid (RdP w2 p L (py, 0)) := hR2
  clear hR2 hF2
  go_wp2_with fail
  refine (rLeft_any p L (py, 0) w2 HR2.out).mono ?_
  rintro r wx ⟨rfl, rfl⟩
  rw [HPM.out]
  go_wp2_with fail
  refine (Bytes_full p L (m : Int) (py, 0) wx HR2.out (by omega)).mono ?_
  rintro r w3 ⟨⟨ao3, c3, rfl, hb3, hn3, hc3, hm3, hnew3⟩, hR3, hF3⟩
  rw [HB'.out.1, HPM.out] at hb3 hc3
  rw [HB'.out.1, HPM.out]
  have HF : Hid (Fresh w w3 ao3 m c3 py) := ⟨hb3, hc3, hm3, hn3, HB2.out.trans (hF3.one_below HB2.out.size HP1.out), fun a ha => Nat.le_trans HB2.out.size (hnew3 a ha)⟩
  clear hb3 hn3 hc3 hm3 hnew3 hR3 hF3
  go_wp2_with fail
  refine (Sum_any tb m c3 T ao3 py w3 (HT.out.below HF.out.bel htb) HS.out HF.out.bs (by omega)).mono ?_
  rintro r wy ⟨rfl, rfl⟩
  obtain ⟨mm, hmm⟩ : ∃ mm, more T 0 py = mm := ⟨_, rfl⟩
  rw [hmm]
  rw [hmm] at hm
  have HMM : Hid (more T 0 py = mm) := hmm
  clear hmm
  by_cases h1 : sm = (mm : Int)
  · subst h1
    have hq : ((mm : Int) == (mm : Int)) = true := by simp
    by_cases h2 : 32768 ≤ n
    · have e : plain T n zs = py := by rw [HP.out, HMM.out, if_neg (by simp), if_pos h2]
      have HX : Hid (Tells w wy (plain T n zs) (.returned (.slice ao3 m c3))) := by
        rw [e]; exact ⟨ao3, c3, by rw [HPM.out], by rw [HPM.out]; exact HF.out⟩
      clear e
      go_wp2_with fail
      go_ret
      exact HX.out
    · have e : plain T n zs = (unpack py 128).1 := by rw [HP.out, HMM.out, if_neg (by simp), if_neg h2]
      have HE : Hid (plain T n zs = (unpack py 128).1) := e
      clear e
      go_wp2_with fail
      refine (Unpack_any m c3 128 ao3 py wy HF.out.bs HF.out.cap (by omega) (by omega)).mono ?_
      rintro r w4 ⟨ao4, n4, c4, rfl, ho4, hb4⟩
      have hn4 : (unpack py 128).1.length = n4 := by have := ho4.1; rw [bv_length] at this; omega
      have HX : Hid (Tells w w4 (plain T n zs) (.returned (.slice ao4 n4 c4))) := by
        rw [HE.out]
        refine ⟨ao4, c4, by rw [hn4], ?_⟩
        rw [hn4]
        exact (New.of_owns ho4 (HF.out.bs.bytes.unpack 128) (Nat.le_refl _) hb4).fresh.from HF.out.bel
      have HB4 : Hid (Below wy.heap.size wy w4) := hb4
      have HU : Hid ((unpack py 128).2 ≠ 0 → plain T n zs = []) := fun h => by rw [HE.out]; exact unpack_err _ _ h
      clear ho4 hb4
      by_cases h5 : (unpack py 128).2 = 0
      · rw [h5]
        go_wp2_with fail
        go_ret
        exact HX.out
      · have HX2 : Hid (Tells w w4 (plain T n zs) (.returned (.slice none 0 0))) := by
          rw [HU.out h5]; exact ⟨none, 0, rfl, Fresh.none (HF.out.bel.trans (HB4.out.mono HF.out.bel.size))⟩
        generalize (unpack py 128).2 = uu at *
        go_wp2_with fail
        go_ret
        exact HX2.out
  · have e : plain T n zs = [] := by rw [HP.out, HMM.out, if_pos h1]
    have HX : Hid (Tells w wy (plain T n zs) (.returned (.slice none 0 0))) := by
      rw [e]; exact ⟨none, 0, rfl, Fresh.none HF.out.bel⟩
    clear e
    have hq : (sm == (mm : Int)) = false := by simp; exact h1
    go_wp2_with fail
    go_ret
    exact HX.out
end Go.Proofs.Ytgmkldfjbjnkcaa

/- Two arrays of three bytes, held against each other. -/
namespace Go.Proofs.Ytgmkldfjbjnkcaa
set_option linter.unusedVariables false
open Go.RowKit Go.Maps

def a3 (x y z : Int) : Array Value := #[.int .u8 x, .int .u8 y, .int .u8 z]
theorem part3 (w : World) (x y z : Int) (i : Nat) (v : Int) (hv : (a3 x y z)[i]? = some (.int .u8 v)) : (part 5 (a3 x y z) i).run Try.prog w = .ok (.int .u8 v) w := by
  simp [part, isAgg, run_underlying Try.underlying5, hv]
theorem equalIn3 (w : World) (d : Nat) (x y z x' y' z' : Int) : (Op.equalIn (d + 2) 60 (.agg (a3 x y z)) (.agg (a3 x' y' z'))).run Try.prog w = .ok (decide (x = x' ∧ y = y' ∧ z = z')) w := by
  have pe : ∀ a b : Int, (Op.equalIn (d + 1) 5 (.int .u8 a) (.int .u8 b)).run Try.prog w = .ok (a == b) w := fun a b => by
    rw [run_equalIn_int w d 5 .u8 .u8 _ _ Try.underlying5]
  rw [Op.equalIn]
  simp only [Sem.run_bind, run_underlying Try.underlying60, Result.andThen_ok, Try.sizeOf5, Std.Legacy.Range.forIn_eq_forIn_range', Std.Legacy.Range.size, Nat.sub_zero, Nat.add_sub_cancel, Nat.div_one]
  rw [show List.range' 0 3 1 = [0, 1, 2] from rfl]
  have q0 := fun w => part3 w x y z 0 x rfl
  have q1 := fun w => part3 w x y z 1 y rfl
  have q2 := fun w => part3 w x y z 2 z rfl
  have r0 := fun w => part3 w x' y' z' 0 x' rfl
  have r1 := fun w => part3 w x' y' z' 1 y' rfl
  have r2 := fun w => part3 w x' y' z' 2 z' rfl
  generalize a3 x y z = A at *
  generalize a3 x' y' z' = B at *
  simp only [List.forIn_cons, Sem.run_bind, Result.andThen_ok, Nat.mul_one, q0, r0, pe]
  by_cases h0 : x = x'
  · by_cases h1 : y = y'
    · by_cases h2 : z = z'
      · simp [h0, h1, h2, q1, q2, r1, r2, pe]
      · simp [h0, h1, h2, q1, q2, r1, r2, pe]
    · simp [h0, h1, q1, r1, pe]
  · simp [h0]
theorem neq3 (w : World) (x y z x' y' z' : Int) : (binOp .neq 60 (.agg #[.int .u8 x, .int .u8 y, .int .u8 z]) (.agg #[.int .u8 x', .int .u8 y', .int .u8 z'])).run Try.prog w = .ok (.bool (!decide (x = x' ∧ y = y' ∧ z = z'))) w := by
  have := equalIn3 w 9998 x y z x' y' z'
  unfold a3 at this
  rw [run_neq_struct, this]
  rfl
end Go.Proofs.Ytgmkldfjbjnkcaa

/- The walk of pass: the frame at a place, whatever function is handed to it. -/
namespace Go.Proofs.Ytgmkldfjbjnkcaa
set_option linter.unusedVariables false
open Go.RowKit Go.Maps
open Lz (g pack unpack)
open Crc (ent more)
open Cur
open Frm

/-- What pass answers; P tells what the function that was handed in leaves, where it is asked. -/
def Passes (z : List Int) (at' : Int) (P : Bool → World → Prop) (w w' : World) (r : Ending) : Prop :=
  (spot z at' = none ∧ r = .returned (.tuple #[.int .i64 0, .int .i64 2]) ∧ Below w.heap.size w w') ∨
  (∃ n, spot z at' = some (n, 0) ∧ r = .returned (.tuple #[.int .i64 (at' + 3), .int .i64 0]) ∧ Below w.heap.size w w') ∨
  (∃ n sz ok, spot z at' = some (n, sz) ∧ sz ≠ 0 ∧ P ok w' ∧ r = .returned (.tuple (if ok then #[.int .i64 (at' + 3 + sz), .int .i64 0] else #[.int .i64 0, .int .i64 2])))

theorem spot_at {zs : List Int} {len k : Nat} {x0 x1 x2 : Int} (hz : zs.length = len) (hk : k + 3 ≤ len) (h0 : x0 = g zs k) (h1 : x1 = g zs (k + 1)) (h2 : x2 = g zs (k + 2)) :
    spot zs k = if (bsz (x0 + 256 * x1)).2 = false ∨ x2 ≠ 255 - x8 x0 x1 then none else if (len : Int) - ((k : Int) + 3) < (bsz (x0 + 256 * x1)).1 then none else some (x0 + 256 * x1, (bsz (x0 + 256 * x1)).1.toNat) := by
  unfold spot num
  rw [if_neg (by rw [hz]; omega), Int.toNat_natCast, ← h0, ← h1, ← h2, hz]

set_option maxRecDepth 100000 in
set_option maxHeartbeats 2000000 in
theorem framePass_any (len cap : Nat) (at' : Int) (fn : Nat) (caps : Array Value) (P : Bool → World → Prop) (ao : Option Addr) (zs : List Int) (w : World) (hB : Bs w ao len zs) (hc : len ≤ cap) (hnil : ao = none → cap = 0) (hl : len ≤ 1000000) (hcm : cap ≤ 9223372036854775807)
    (ha : -9223372036854775808 ≤ at' ∧ at' ≤ 9223372036854775807) (hen : ∀ (args : Array Value) (w : World), (callFunc fn args).run Try.prog w = .ok (.enter fn args) w)
    (H : ∀ n sz, spot zs at' = some (n, sz) → sz ≠ 0 → ∀ (w1 : World) (ao' : Option Addr) (c' : Nat), Below w.heap.size w w1 → Bs w1 ao' sz (body zs at'.toNat sz) → sz ≤ c' → (ao' = none → c' = 0) →
      Calls Try.prog fn (#[.int .i64 n, .slice ao' sz c'] ++ caps) w1 fun r w2 => ∃ ok, r = .returned (.bool ok) ∧ P ok w2) :
    Calls Try.prog 25 #[.slice ao len cap, .int .i64 at', .func (.func fn) #[] caps] w fun r w' => Passes zs at' P w w' r := by
  have hz := hB.1
  by_cases h1 : at' < 0 ∨ (len : Int) - 3 < at'
  · have HX : Hid (Passes zs at' P w w (.returned (.tuple #[.int .i64 0, .int .i64 2]))) := .inl ⟨by unfold spot; rw [if_pos (by rw [hz]; exact h1)], rfl, Below.refl _ _⟩
    clear H hB hnil
    rcases h1 with h1 | h1
    · go_enter Try.func25, Try.ntmps25
      go_wp2
      go_ret2
      exact HX.out
    · by_cases h2 : at' < 0
      · go_enter Try.func25, Try.ntmps25
        go_wp2
        go_ret2
        exact HX.out
      · go_enter Try.func25, Try.ntmps25
        go_wp2
        go_ret2
        exact HX.out
  obtain ⟨k, rfl⟩ : ∃ k : Nat, at' = (k : Int) := ⟨at'.toNat, by omega⟩
  have hk : k + 3 ≤ len := by omega
  rcases hB.2.2 with h0 | ⟨b, off, rfl, hb, hs⟩
  · omega
  obtain ⟨x0, hx0⟩ : ∃ x, x = g zs k := ⟨_, rfl⟩
  obtain ⟨x1, hx1⟩ : ∃ x, x = g zs (k + 1) := ⟨_, rfl⟩
  obtain ⟨x2, hx2⟩ : ∃ x, x = g zs (k + 2) := ⟨_, rfl⟩
  have c0 := hs k (by omega)
  have c1 := hs (k + 1) (by omega)
  have c2 := hs (k + 2) (by omega)
  rw [← hx0] at c0
  rw [← hx1] at c1
  rw [← hx2] at c2
  have i0 : (0 : Int) ≤ (k : Int) := by omega
  have i1 : (k : Int) < (len : Int) := by omega
  have i2 : (k : Int) + 1 < (len : Int) := by omega
  have i3 : (k : Int) + 2 < (len : Int) := by omega
  have i4 : (len : Int) ≤ 1000000 := by omega
  have j1 : (0 : Int) ≤ (k : Int) + 1 := by omega
  have j2 : (0 : Int) ≤ (k : Int) + 2 := by omega
  have u2 : ((k : Int) + 2).toNat = k + 2 := by omega
  have u1 : ((k : Int) + 1).toNat = k + 1 := by omega
  have v1 : IntKind.i64.wrap ((k : Int) + 1) = (k : Int) + 1 := by simp [IntKind.wrap_i64]; omega
  have v2 : IntKind.i64.wrap ((k : Int) + 2) = (k : Int) + 2 := by simp [IntKind.wrap_i64]; omega
  have t1 : decide ((k : Int) < 0) = false := by simp
  have t2 : decide ((len : Int) - 3 < (k : Int)) = false := by simp; omega
  have HB : Hid (Bs w (some ⟨b, off, none⟩) len zs) := hB
  have HX0 : Hid (x0 = g zs k ∧ x1 = g zs (k + 1) ∧ x2 = g zs (k + 2)) := ⟨hx0, hx1, hx2⟩
  have HH := hide H
  clear hB hs hx0 hx1 hx2 H h1
  go_enter Try.func25, Try.ntmps25
  go_wp2_with fail
  go_region_held3 (fun wX => wX.cell? ⟨b, off + k, none⟩ = some (.int .u8 x0) ∧ wX.cell? ⟨b, off + (k + 1), none⟩ = some (.int .u8 x1) ∧ wX.cell? ⟨b, off + (k + 2), none⟩ = some (.int .u8 x2)) (go_keep) (fail)
  obtain ⟨wh, hwh⟩ : ∃ wh, wh = (w.alloc (.cells #[.int .u8 x0, .int .u8 x1, .int .u8 x2] 60)).drew := ⟨_, rfl⟩
  rw [← hwh]
  have HBh : Hid (Below w.heap.size w wh) := by rw [hwh]; exact ((Below.refl _ w).alloc (Nat.le_refl _) _).drew
  have hhp : wh.heap[w.heap.size]? = some (.cells #[.int .u8 x0, .int .u8 x1, .int .u8 x2] 60 (0, 0)) := by rw [hwh]; exact heap_alloc_new w _
  have hlt : w.heap.size < wh.heap.size := heap_lt hhp
  have d0 : wh.cell? ⟨w.heap.size, 0, none⟩ = some (.int .u8 x0) := by simp [World.cell?, hhp]
  have d1 : wh.cell? ⟨w.heap.size, 1, none⟩ = some (.int .u8 x1) := by simp [World.cell?, hhp]
  have d2 : wh.cell? ⟨w.heap.size, 2, none⟩ = some (.int .u8 x2) := by simp [World.cell?, hhp]
  clear hwh hhp c0 c1 c2
  have bx0 : 0 ≤ x0 ∧ x0 ≤ 255 := by rw [HX0.out.1]; exact HB.out.2.1 _
  have bx1 : 0 ≤ x1 ∧ x1 ≤ 255 := by rw [HX0.out.2.1]; exact HB.out.2.1 _
  have bx2 : 0 ≤ x2 ∧ x2 ≤ 255 := by rw [HX0.out.2.2]; exact HB.out.2.1 _
  have HSp := hide (spot_at hz hk HX0.out.1 HX0.out.2.1 HX0.out.2.2)
  have hhd := hd_of bx0 bx1
  obtain ⟨N, hN⟩ : ∃ N, N = x0 + 256 * x1 := ⟨_, rfl⟩
  rw [← hN] at HSp hhd
  have hNb : 0 ≤ N ∧ N ≤ 65535 := by omega
  obtain ⟨y2, hy2⟩ : ∃ y, y = 255 - x8 x0 x1 := ⟨_, rfl⟩
  rw [← hy2] at HSp hhd
  have HHd : Hid (hd N = [x0, x1, y2]) := hhd
  have HNN : Hid (N = x0 + 256 * x1) := hN
  clear hy2 hhd hN
  go_wp2_with fail
  refine (number_any x0 x1 x2 wh bx0 bx1).mono ?_
  rintro r w1 ⟨rfl, hb1⟩
  rw [← HNN.out]
  have e0 := (hb1.cell (p := ⟨w.heap.size, 0, none⟩) hlt).trans d0
  have e1 := (hb1.cell (p := ⟨w.heap.size, 1, none⟩) hlt).trans d1
  have e2 := (hb1.cell (p := ⟨w.heap.size, 2, none⟩) hlt).trans d2
  have hlt1 : w.heap.size < w1.heap.size := Nat.lt_of_lt_of_le hlt hb1.size
  have HB1 : Hid (Below w.heap.size w w1) := HBh.out.trans (hb1.mono HBh.out.size)
  clear hb1 d0 d1 d2 hlt
  go_wp2_with fail
  refine (bodySize_any N w1 hNb).mono ?_
  rintro r wx ⟨rfl, rfl⟩
  obtain ⟨s0, ok, hso⟩ : ∃ s0 ok, bsz N = (s0, ok) := ⟨_, _, rfl⟩
  have hbd := bsz_bd N
  rw [hso] at HSp hbd
  rw [hso]
  have HSO : Hid (bsz N = (s0, ok)) := hso
  clear hso
  obtain ⟨hs0, hs1⟩ : 0 ≤ s0 ∧ s0 ≤ 132 := hbd
  cases ok with
  | false =>
    have HX : Hid (∀ w2, Below w.heap.size w w2 → Passes zs k P w w2 (.returned (.tuple #[.int .i64 0, .int .i64 2]))) := fun w2 h => .inl ⟨by rw [HSp.out, if_pos (.inl rfl)], rfl, h⟩
    go_wp2_with fail
    go_quiet (fail)
    go_wp2
    go_ret2
    exact HX.out _ (below_drewN HB1.out _)
  | true =>
    have hgd : Try.prog.eqGuardType Try.prog.depth 60 = false := by kernel_rfl
    have hgd2 : ∀ (w : World) (x y : Operand) (a b : Array Value), (eqGuard .neq 60 x y (.agg a) (.agg b)).run Try.prog w = .ok () w := fun w x y a b => by simp [eqGuard, hgd]
    clear hgd
    by_cases hy : x2 = y2
    · subst hy
      have hq : ∀ w, (Op.equalIn 10000 60 (.agg #[.int .u8 x0, .int .u8 x1, .int .u8 x2]) (.agg #[.int .u8 x0, .int .u8 x1, .int .u8 x2])).run Try.prog w = .ok true w := fun w => by
        have := equalIn3 w 9998 x0 x1 x2 x0 x1 x2
        rw [decide_eq_true ⟨rfl, rfl, rfl⟩] at this; exact this
      go_wp2_with fail
      go_region_held3 (fun wX => wX.cell? ⟨w.heap.size, 0, none⟩ = some (.int .u8 x0) ∧ wX.cell? ⟨w.heap.size, 1, none⟩ = some (.int .u8 x1) ∧ wX.cell? ⟨w.heap.size, 2, none⟩ = some (.int .u8 x2)) (go_keep)
        (first | (go_at_call 22; refine (headOf_at N x0 x1 x2 _ hNb HHd.out).mono ?_; rintro r w2 ⟨rfl, hb2⟩; have f0 := (hb2.cell (p := ⟨w.heap.size, 0, none⟩) hlt1).trans e0; have f1 := (hb2.cell (p := ⟨w.heap.size, 1, none⟩) hlt1).trans e1; have f2 := (hb2.cell (p := ⟨w.heap.size, 2, none⟩) hlt1).trans e2; have HB2 : Hid (Below w.heap.size w w2) := HB1.out.drew.trans (hb2.mono HB1.out.size)))
      clear hb2 f0 f1 f2 e0 e1 e2 hq hgd2 v1 v2 u1 u2 i2 i3 j1 j2
      by_cases h3 : (len : Int) - ((k : Int) + 3) < s0
      · have HX : Hid (Passes zs k P w w2 (.returned (.tuple #[.int .i64 0, .int .i64 2]))) := .inl ⟨by rw [HSp.out, if_neg (by simp), if_pos h3], rfl, HB2.out⟩
        go_wp2_with fail
        go_ret2
        exact HX.out
      · by_cases h4 : s0 = 0
        · subst h4
          have HX : Hid (Passes zs k P w w2 (.returned (.tuple #[.int .i64 ((k : Int) + 3), .int .i64 0]))) := .inr (.inl ⟨N, by rw [HSp.out, if_neg (by simp), if_neg h3]; rfl, rfl, HB2.out⟩)
          go_wp2_with fail
          go_ret2
          exact HX.out
        · obtain ⟨sz, rfl⟩ : ∃ sz : Nat, s0 = (sz : Int) := ⟨s0.toNat, by omega⟩
          have hsp : spot zs k = some (N, sz) := by rw [HSp.out, if_neg (by simp), if_neg h3, Int.toNat_natCast]
          have h5 : sz ≠ 0 := by omega
          have hfit : k + 3 + sz ≤ len := by omega
          have hpos : (0 : Int) < (sz : Int) := by omega
          have HC := hide (HH.out N sz hsp h5 w2 (some ⟨b, off + (k + 3), none⟩) (cap - (k + 3)) HB2.out (by
            have := HB.out.below HB2.out
            refine ⟨by unfold body; simp; omega, ?_, ?_⟩
            · unfold body; exact bytes_take (bytes_drop HB.out.2.1 _) _
            · rcases this.2.2 with h | ⟨b', off', e, h6, h7⟩
              · omega
              · cases e
                refine .inr ⟨b, off + (k + 3), rfl, h6, ?_⟩
                have := h7.cut (k + 3) (k + 3 + sz)
                unfold body
                rw [Int.toNat_natCast, List.take_drop]
                exact this) (by omega) (fun h => by simp at h))
          have HX : Hid (∀ ok w3, P ok w3 → Passes zs k P w w3 (.returned (.tuple (if ok then #[.int .i64 ((k : Int) + 3 + sz), .int .i64 0] else #[.int .i64 0, .int .i64 2])))) := fun ok w3 h => .inr (.inr ⟨N, sz, ok, hsp, h5, h, rfl⟩)
          clear hsp
          go_wp2_with fail
          refine HC.out.mono ?_
          rintro r w3 ⟨ok, rfl, hP⟩
          have HP : Hid (P ok w3) := hP
          clear hP
          cases ok
          · go_wp2_with fail
            go_ret2
            exact HX.out false w3 HP.out
          · go_wp2_with fail
            go_ret2
            exact HX.out true w3 HP.out
    · have hq : ∀ w, (Op.equalIn 10000 60 (.agg #[.int .u8 x0, .int .u8 x1, .int .u8 x2]) (.agg #[.int .u8 x0, .int .u8 x1, .int .u8 y2])).run Try.prog w = .ok false w := fun w => by
        have := equalIn3 w 9998 x0 x1 x2 x0 x1 y2
        rw [decide_eq_false (fun h => hy h.2.2)] at this; exact this
      have HX : Hid (∀ w2, Below w.heap.size w w2 → Passes zs k P w w2 (.returned (.tuple #[.int .i64 0, .int .i64 2]))) := fun w2 h => .inl ⟨by rw [HSp.out, if_pos (.inr hy)], rfl, h⟩
      go_wp2_with fail
      go_region_held3 (fun wX => wX.cell? ⟨w.heap.size, 0, none⟩ = some (.int .u8 x0) ∧ wX.cell? ⟨w.heap.size, 1, none⟩ = some (.int .u8 x1) ∧ wX.cell? ⟨w.heap.size, 2, none⟩ = some (.int .u8 x2)) (go_keep)
        (first | (go_at_call 22; refine (headOf_at N x0 x1 y2 _ hNb HHd.out).mono ?_; rintro r w2 ⟨rfl, hb2⟩; have f0 := (hb2.cell (p := ⟨w.heap.size, 0, none⟩) hlt1).trans e0; have f1 := (hb2.cell (p := ⟨w.heap.size, 1, none⟩) hlt1).trans e1; have f2 := (hb2.cell (p := ⟨w.heap.size, 2, none⟩) hlt1).trans e2; have HB2 : Hid (Below w.heap.size w w2) := HB1.out.drew.trans (hb2.mono HB1.out.size)))
      clear hb2 f0 f1 f2 e0 e1 e2 hq hgd2 v1 v2 u1 u2 i2 i3 j1 j2
      go_wp2_with fail
      go_ret2
      exact HX.out _ HB2.out
end Go.Proofs.Ytgmkldfjbjnkcaa

/- The walks of Take and Skip, and of the functions that they hand to pass. -/
namespace Go.Proofs.Ytgmkldfjbjnkcaa
set_option linter.unusedVariables false
open Go.RowKit Go.Maps
open Lz (g pack unpack)
open Crc (ent more)
open Cur
open Frm

/-- What Skip answers. -/
def Skips (z : List Int) (at' : Int) (w w' : World) (r : Ending) : Prop := r = .returned (.tuple #[.int .i64 (skip z at').1, .int .i64 (skip z at').2]) ∧ Below w.heap.size w w'

theorem below_set1 {B p : Nat} {a w : World} (h : Below B a w) (hB : B ≤ w.heap.size) (hp : B ≤ p) (v : Value) : Below B a (w.setCell ⟨p, 0, none⟩ v) := by
  have hf : Fr (fun k => B ≤ k) w (w.setCell ⟨p, 0, none⟩ v) := (Fr.refl (fun k => B ≤ k) w).set (p := ⟨p, 0, none⟩) v (fun _ => hp)
  exact h.trans (hf.below B hB (fun k h => h))
/-- A variable that was captured: a block of one cell. -/
def One1 (t : TypeId) (w : World) (p : Nat) (v : Value) : Prop := w.heap[p]? = some (.cells #[v] t (0, 0))
theorem One1.c {t : TypeId} {w : World} {p : Nat} {v : Value} (h : One1 t w p v) : w.cell? ⟨p, 0, none⟩ = some v := by unfold One1 at h; simp [World.cell?, h]
theorem One1.f {t : TypeId} {w : World} {p : Nat} {v : Value} (h : One1 t w p v) : w.frozen? ⟨p, 0, none⟩ = false := by unfold One1 at h; simp [World.frozen?, h]
theorem One1.lt {t : TypeId} {w : World} {p : Nat} {v : Value} (h : One1 t w p v) : p < w.heap.size := heap_lt h
theorem One1.below {t : TypeId} {w w' : World} {p : Nat} {v : Value} (h : One1 t w p v) (hb : Below w.heap.size w w') : One1 t w' p v := (hb.block p h.lt).trans h
theorem One1.set {t : TypeId} {w : World} {p : Nat} {v : Value} (h : One1 t w p v) (u : Value) : One1 t (w.setCell ⟨p, 0, none⟩ u) p u := by
  unfold One1; rw [heap_setCell_self h]; rfl
/-- What Take's function leaves: the bytes in the variable q. -/
def Asked (t : TypeId) (q : Nat) (w w' : World) (zs : List Int) : Prop := ∃ ao c, One1 t w' q (.slice ao zs.length c) ∧ Fr (One q) w w' ∧ Bs w' ao zs.length zs ∧ zs.length ≤ c ∧ c ≤ 9223372036854775807 ∧ (ao = none → c = 0) ∧ ∀ a, ao = some a → w.heap.size ≤ a.block
set_option maxRecDepth 100000 in
theorem takeOne_any (tb tx q len cap : Nat) (n : Int) (T : Nat → Nat) (ao : Option Addr) (zs : List Int) (v0 : Value) (w : World) (hT : Tb w tb T) (htb : tb < w.heap.size) (hS : Small T) (hn : 0 ≤ n ∧ n ≤ 65535) (hB : Bs w ao len zs) (hc : len ≤ cap) (hnil : ao = none → cap = 0) (h4 : 4 ≤ len) (hl : len ≤ 1000)
    (hx : One1 44 w tx (.pointer (some ⟨tb, 0, none⟩))) (hq : One1 30 w q v0) :
    Calls Try.prog 26 #[.int .i64 n, .slice ao len cap, .pointer (some ⟨tx, 0, none⟩), .pointer (some ⟨q, 0, none⟩)] w fun r w' => r = .returned (.bool (decide (0 < (plain T n zs).length))) ∧ Asked 30 q w w' (plain T n zs) := by
  have HP := hide (plain_any tb len cap n T ao zs w hT htb hS hn hB hc hnil h4 hl)
  have x0 := hx.c
  have HQ : Hid (One1 30 w q v0) := hq
  clear hT hB hnil hx hq hS
  generalize plain T n zs = py at *
  obtain ⟨m, hm⟩ : ∃ m, py.length = m := ⟨_, rfl⟩
  have HM : Hid (py.length = m) := hm
  rw [hm]
  clear hm
  go_enter Try.func26, Try.ntmps26
  go_wp2_with fail
  refine HP.out.mono ?_
  clear HP
  rintro r w1 ⟨ao1, c1, rfl, hF⟩
  rw [HM.out] at hF
  rw [HM.out]
  have hq1 := HQ.out.below hF.bel
  have q0 := hq1.c
  have f0 := hq1.f
  have HX : Hid (Asked 30 q w (w1.setCell ⟨q, 0, none⟩ (.slice ao1 m c1)) py) := by
    refine ⟨ao1, c1, by rw [HM.out]; exact hq1.set _, (Fr.of_below hF.bel).set (p := ⟨q, 0, none⟩) _ (fun _ => rfl), ?_, by rw [HM.out]; exact hF.cap, hF.max, hF.nil, hF.new⟩
    rw [HM.out]
    refine hF.bs.fr ((Fr.refl (One q) w1).set (p := ⟨q, 0, none⟩) _ (fun _ => rfl)) (fun a ha _ he => ?_)
    have h1 := hF.new a ha
    have h2 := HQ.out.lt
    have : a.block = q := he
    omega
  have hcl := (hq1.set (.slice ao1 m c1)).c
  clear hF hq1
  go_wp2
  go_ret
  exact ⟨rfl, HX.out⟩
/-- Three results, the first of them in a variable of its own. -/
theorem results_c3 {fn : Func} {p u v : Tmp} (h : fn.results = #[.cell p 30, .tmp u, .tmp v]) (tmps : Array Value) (w : World) (q n c : Nat) (ao : Option Addr) (hp : tmps.getD p undef = .pointer (some ⟨q, 0, none⟩)) (hq : w.cell? ⟨q, 0, none⟩ = some (.slice ao n c)) :
    (results fn tmps).run Try.prog w = .ok (.tuple #[.slice ao n c, tmps.getD u undef, tmps.getD v undef]) w := by
  simp only [results, h]
  rw [Array.getD_eq_getD_getElem?] at hp
  go_simp
/-- What Take answers. -/
def Takes (T : Nat → Nat) (z : List Int) (at' : Int) (w w' : World) (r : Ending) : Prop :=
  ∃ ao c, r = .returned (.tuple #[.slice ao (take T z at').1.length c, .int .i64 (take T z at').2.1, .int .i64 (take T z at').2.2]) ∧ Fresh w w' ao (take T z at').1.length c (take T z at').1
theorem num_bd {z : List Int} (h : Bytes z) (k : Nat) : 0 ≤ num z k ∧ num z k ≤ 65535 := by
  have h0 := h.g k
  have h1 := h.g (k + 1)
  unfold num; omega
theorem spot_some {z : List Int} {at' : Int} {n : Int} {sz : Nat} (h : spot z at' = some (n, sz)) : 0 ≤ at' ∧ at'.toNat + 3 + sz ≤ z.length ∧ n = num z at'.toNat ∧ (sz : Int) = (bsz n).1 ∧ (bsz n).2 = true := by
  unfold spot at h
  split at h
  · simp at h
  · rename_i h1
    split at h
    · simp at h
    · rename_i h2
      split at h
      · simp at h
      · rename_i h3
        obtain ⟨rfl, rfl⟩ : num z at'.toNat = n ∧ (bsz (num z at'.toNat)).1.toNat = sz := by simpa using h
        have := (bsz_bd (num z at'.toNat)).1
        refine ⟨by omega, by omega, rfl, by omega, ?_⟩
        cases hb : (bsz (num z at'.toNat)).2
        · exact absurd (.inl hb) h2
        · rfl
theorem body_length {z : List Int} {k sz : Nat} (h : k + 3 + sz ≤ z.length) : (body z k sz).length = sz := by unfold body; simp; omega
set_option maxRecDepth 100000 in
set_option maxHeartbeats 1000000 in
theorem Take_any (tb len cap : Nat) (at' : Int) (T : Nat → Nat) (ao : Option Addr) (zs : List Int) (w : World) (hT : Tb w tb T) (htb : tb < w.heap.size) (hS : Small T) (hB : Bs w ao len zs) (hc : len ≤ cap) (hnil : ao = none → cap = 0) (hl : len ≤ 1000000) (hcm : cap ≤ 9223372036854775807)
    (ha : -9223372036854775808 ≤ at' ∧ at' ≤ 9223372036854775807) :
    Calls Try.prog 20 #[.pointer (some ⟨tb, 0, none⟩), .slice ao len cap, .int .i64 at'] w fun r w' => Takes T zs at' w w' r := by
  have hmf : ∀ (fn : Fn) (first cap : Array Value) (w : World), (Instr.makeFunc fn first cap).run Try.prog w = .ok (.func fn first cap) w := fun _ _ _ _ => rfl
  obtain ⟨o1, ho1⟩ : ∃ o, o = Obj.cells #[.pointer (some ⟨tb, 0, none⟩)] 44 := ⟨_, rfl⟩
  obtain ⟨o2, ho2⟩ : ∃ o, o = Obj.cells #[.slice none 0 0] 30 := ⟨_, rfl⟩
  have hb2 : Below w.heap.size w ((w.alloc o1).alloc o2) := ((Below.refl _ _).alloc (Nat.le_refl _) _).alloc (by simp) _
  have hx : One1 44 ((w.alloc o1).alloc o2) w.heap.size (.pointer (some ⟨tb, 0, none⟩)) := by
    rw [ho1]; exact heap_alloc2_old w _ _
  have hq : One1 30 ((w.alloc o1).alloc o2) (w.heap.size + 1) (.slice none 0 0) := by
    have := heap_alloc_new (w.alloc o1) o2
    rw [World.size_alloc] at this
    rw [ho2] at this ⊢; exact this
  have HP := hide (framePass_any len cap at' 26 #[.pointer (some ⟨w.heap.size, 0, none⟩), .pointer (some ⟨w.heap.size + 1, 0, none⟩)]
    (fun ok w' => ∀ n sz, spot zs at' = some (n, sz) → ok = decide (0 < (plain T n (body zs at'.toNat sz)).length) ∧ Asked 30 (w.heap.size + 1) ((w.alloc o1).alloc o2) w' (plain T n (body zs at'.toNat sz)))
    ao zs ((w.alloc o1).alloc o2) (hB.below hb2) hc hnil hl hcm ha (enters 26 Try.func26 (by kernel_rfl) rfl)
    (fun n sz hsp h0 w1 ao' c' hb hB' hc' hn' => by
      obtain ⟨s1, s2, s3, s4, s5⟩ := spot_some hsp
      have hnb := num_bd hB.bytes at'.toNat
      rw [← s3] at hnb
      have h5 := bsz_ge n (by omega)
      have h6 := bsz_bd n
      have htb1 : tb < w1.heap.size := Nat.lt_of_lt_of_le htb (Nat.le_trans hb2.size hb.size)
      refine (takeOne_any tb w.heap.size (w.heap.size + 1) sz c' n T ao' (body zs at'.toNat sz) (.slice none 0 0) w1 ((hT.below hb2 htb).below hb (Nat.lt_of_lt_of_le htb hb2.size)) htb1 hS hnb hB' hc' hn' (by omega) (by omega) (hx.below hb) (hq.below hb)).mono ?_
      rintro r w2 ⟨rfl, ao2, c2, k1, k2, k3, k4, k5, k6, k7⟩
      refine ⟨_, rfl, fun n' sz' h' => ?_⟩
      obtain ⟨rfl, rfl⟩ : n = n' ∧ sz = sz' := by rw [hsp] at h'; simpa using h'
      exact ⟨rfl, ao2, c2, k1, (Fr.of_below hb).then k2, k3, k4, k5, k6, fun a h => Nat.le_trans hb.size (k7 a h)⟩))
  have HB2 : Hid (Below w.heap.size w ((w.alloc o1).alloc o2)) := hb2
  have HQ : Hid (One1 30 ((w.alloc o1).alloc o2) (w.heap.size + 1) (.slice none 0 0)) := hq
  have HO : Hid (o1 = Obj.cells #[.pointer (some ⟨tb, 0, none⟩)] 44 ∧ o2 = Obj.cells #[.slice none 0 0] 30) := ⟨ho1, ho2⟩
  clear hT hB hnil hS hb2 hx hq ho1 ho2
  go_enter Try.func20, Try.ntmps20
  go_wp2_with fail
  rw [← HO.out.1, ← HO.out.2]
  refine HP.out.mono ?_
  clear HP
  rintro r w1 (⟨h1, rfl, h2⟩ | ⟨n, h1, rfl, h2⟩ | ⟨n, sz, ok, h1, h3, h2, rfl⟩)
  · have hq1 := HQ.out.below h2
    have q0 := hq1.c
    have f0 := hq1.f
    have q1 := (hq1.set (.slice none 0 0)).c
    have HX : Hid (Takes T zs at' w (w1.setCell ⟨w.heap.size + 1, 0, none⟩ (.slice none 0 0)) (.returned (.tuple #[.slice none 0 0, .int .i64 0, .int .i64 2]))) := by
      have e : take T zs at' = ([], 0, 2) := by unfold take; rw [h1]
      refine ⟨none, 0, by rw [e]; simp, ?_⟩
      rw [e]
      exact Fresh.none (below_set1 (HB2.out.trans (h2.mono HB2.out.size)) (Nat.le_trans HB2.out.size h2.size) (by omega) _)
    clear h1 h2 hq1
    go_wp2
    refine bodyPost_ret (results_c3 rfl _ _ (w.heap.size + 1) 0 0 none rfl q1) rfl ?_
    exact HX.out
  · have hq1 := HQ.out.below h2
    have q0 := hq1.c
    have f0 := hq1.f
    have q1 := (hq1.set (.slice none 0 0)).c
    have HX : Hid (Takes T zs at' w (w1.setCell ⟨w.heap.size + 1, 0, none⟩ (.slice none 0 0)) (.returned (.tuple #[.slice none 0 0, .int .i64 (at' + 3), .int .i64 0]))) := by
      have e : take T zs at' = ([], at' + 3, 0) := by unfold take; rw [h1]; simp
      refine ⟨none, 0, by rw [e]; simp, ?_⟩
      rw [e]
      exact Fresh.none (below_set1 (HB2.out.trans (h2.mono HB2.out.size)) (Nat.le_trans HB2.out.size h2.size) (by omega) _)
    clear h1 h2 hq1
    go_wp2
    refine bodyPost_ret (results_c3 rfl _ _ (w.heap.size + 1) 0 0 none rfl q1) rfl ?_
    exact HX.out
  · obtain ⟨hok, ao2, c2, k1, k2, k3, k4, k5, k6, k7⟩ := h2 n sz h1
    clear h2
    obtain ⟨py, hpy⟩ : ∃ py, py = plain T n (body zs at'.toNat sz) := ⟨_, rfl⟩
    rw [← hpy] at hok k1 k3 k4
    have e : take T zs at' = if py = [] then ([], 0, 2) else (py, at' + 3 + sz, 0) := by unfold take; rw [h1, hpy]; simp [h3]
    obtain ⟨m, hm⟩ : ∃ m, py.length = m := ⟨_, rfl⟩
    rw [hm] at hok k1 k3 k4
    have q0 := k1.c
    have f0 := k1.f
    have q1 := (k1.set (.slice ao2 m c2)).c
    have hb : Below w.heap.size w (w1.setCell ⟨w.heap.size + 1, 0, none⟩ (.slice ao2 m c2)) := HB2.out.trans (((k2.set (p := ⟨w.heap.size + 1, 0, none⟩) _ (fun _ => rfl)).mono (S' := fun k => w.heap.size ≤ k) (fun i _ (h : i = w.heap.size + 1) => by show w.heap.size ≤ i; omega)).below w.heap.size HB2.out.size (fun k h => h))
    have hbs : Bs (w1.setCell ⟨w.heap.size + 1, 0, none⟩ (.slice ao2 m c2)) ao2 m py := by
      refine k3.fr ((Fr.refl (One (w.heap.size + 1)) w1).set (p := ⟨w.heap.size + 1, 0, none⟩) _ (fun _ => rfl)) (fun a ha _ he => ?_)
      have g1 := k7 a ha
      simp at g1
      have : a.block = w.heap.size + 1 := he
      omega
    cases ok with
    | false =>
      have hm0 : m = 0 := by simpa using hok.symm
      subst hm0
      obtain rfl : py = [] := List.eq_nil_of_length_eq_zero hm
      rw [if_pos rfl] at e
      have HX : Hid (Takes T zs at' w (w1.setCell ⟨w.heap.size + 1, 0, none⟩ (.slice ao2 0 c2)) (.returned (.tuple #[.slice ao2 0 c2, .int .i64 0, .int .i64 2]))) := by
        refine ⟨ao2, c2, by rw [e]; simp, ?_⟩
        rw [e]; exact ⟨hbs, Nat.zero_le _, k5, k6, hb, fun a h => Nat.le_trans HB2.out.size (k7 a h)⟩
      clear h1 h3 k1 k2 k3 k4 k5 k6 k7 hb hbs hok e
      rw [if_neg (by simp)]
      go_wp2
      refine bodyPost_ret (results_c3 rfl _ _ (w.heap.size + 1) 0 c2 ao2 rfl q1) rfl ?_
      exact HX.out
    | true =>
      have hm0 : 0 < m := by simpa using hok.symm
      have hne : py ≠ [] := fun e => by rw [e] at hm; simp at hm; omega
      rw [if_neg hne] at e
      have HX : Hid (Takes T zs at' w (w1.setCell ⟨w.heap.size + 1, 0, none⟩ (.slice ao2 m c2)) (.returned (.tuple #[.slice ao2 m c2, .int .i64 (at' + 3 + sz), .int .i64 0]))) := by
        refine ⟨ao2, c2, by rw [e, hm], ?_⟩
        rw [e, hm]; exact ⟨hbs, k4, k5, k6, hb, fun a h => Nat.le_trans HB2.out.size (k7 a h)⟩
      clear h1 h3 k1 k2 k3 k4 k5 k6 k7 hb hbs hok e hne hm hpy
      rw [if_pos rfl]
      go_wp2
      refine bodyPost_ret (results_c3 rfl _ _ (w.heap.size + 1) m c2 ao2 rfl q1) rfl ?_
      exact HX.out
end Go.Proofs.Ytgmkldfjbjnkcaa

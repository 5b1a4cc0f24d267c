/- What the proof stands on, part 4 of 7: the texts FrmJoin, Own, DatPure, Ints, Nums, FrgPure, MetJoin, InoPure, CurApp, DirPure, CurRefW, TabNums, TreRefMay, TabXat, BldPure, BldLen, BldMap, DatWrite, BldState, BldXat, SupPure, SupLeaf, each with what the proof reaches of it. -/
import Derived.Test.YtchcejjoncihkaaGreatDoorJc
import Derived.Stop.BytesEq
import Derived.Deep.RegionHeld3
import Derived.Deep.CutRange
import Derived.Deep.CutBlock
import Derived.ArgAppend
import Derived.Deep.MidRow
import Derived.Deep.Upon
import Derived.ProofKit
import Derived.OpenShut
import Derived.Deep.RegionLaw
import Derived.Maps.OwnSet
import Derived.Deep.QuietTactic
import Derived.BigQuiet

/- FrmJoin: FrmPure, FrmLeaf, FrmPut, FrmRound, FrmPlain, FrmEq, FrmPass, FrmTake, as one text. -/

/- Frames, as pure functions over bytes: heads, what stands behind one, what a frame holds, its bytes. -/
namespace Go.Proofs.YtchcejjoncihkaaGreatDoor.Frm
set_option linter.unusedVariables false
open Lz (g pack)
open Crc (ent more)
open Cur (le by')

/-- The XOR of two bytes. -/
def x8 (a b : Int) : Int := ((a.toNat ^^^ b.toNat : Nat) : Int)
theorem x8_bd {a b : Int} (ha : 0 ≤ a ∧ a ≤ 255) (hb : 0 ≤ b ∧ b ≤ 255) : 0 ≤ x8 a b ∧ x8 a b ≤ 255 := by
  have := Nat.xor_lt_two_pow (n := 8) (x := a.toNat) (y := b.toNat) (by omega) (by omega)
  unfold x8; omega
/-- The head of a number. -/
def hd (n : Int) : List Int := [n % 256, n / 256 % 256, 255 - x8 (n % 256) (n / 256 % 256)]
theorem hd_length (n : Int) : (hd n).length = 3 := rfl
theorem hd_bytes (n : Int) : Bytes (hd n) := fun x hx => by
  have := x8_bd (a := n % 256) (b := n / 256 % 256) (by omega) (by omega)
  simp [hd] at hx
  rcases hx with rfl | rfl | rfl <;> omega
/-- The frame of a payload with bytes. -/
def whole (T : Nat → Nat) (n : Int) (p : List Int) : List Int := hd n ++ by' 4 (more T 0 p) ++ p
/-- The frame of bytes, 128 at most. -/
def put (T : Nat → Nat) (b : List Int) : List Int :=
  if b = [] then hd 0 else if (pack b).length < b.length then whole T (pack b).length (pack b) else whole T (b.length + 32768) b
end Go.Proofs.YtchcejjoncihkaaGreatDoor.Frm

/- The walks of the smallest functions of frames: headOf, number, bodySize, the reference's head. -/
namespace Go.Proofs.YtchcejjoncihkaaGreatDoor
set_option linter.unusedVariables false
open Go.RowKit Go.Maps
open Lz (g)
open Frm

theorem xor8 {a b : Int} (ha : 0 ≤ a ∧ a ≤ 255) (hb : 0 ≤ b ∧ b ≤ 255) : bits .xor .u8 a b = x8 a b := by
  obtain ⟨x, rfl⟩ : ∃ x : Nat, a = (x : Int) := ⟨a.toNat, by omega⟩
  obtain ⟨y, rfl⟩ : ∃ y : Nat, b = (y : Int) := ⟨b.toNat, by omega⟩
  rw [u8_xor_nat x y (by omega) (by omega)]; rfl
theorem hd_bits {n : Int} (hn : 0 ≤ n ∧ n ≤ 65535) : [n % 256, n / 256, (255 - bits .xor .u8 (n % 256) (n / 256)) % 256] = hd n := by
  have e : n / 256 % 256 = n / 256 := by omega
  rw [xor8 (by omega) (by omega)]
  unfold hd
  rw [e]
  have := x8_bd (a := n % 256) (b := n / 256) (by omega) (by omega)
  rw [show (255 - x8 (n % 256) (n / 256)) % 256 = 255 - x8 (n % 256) (n / 256) by omega]
/-- A head as the program has it. -/
def hv (n : Int) : Value := .agg (bv (hd n)).toArray
theorem infoHead : (Tryz.prog.info? 227).map (fun i => (i.zero, i.size)) = some (some (.agg #[.int .u8 0, .int .u8 0, .int .u8 0]), 3) := by kernel_rfl
set_option maxRecDepth 100000 in
theorem headOf_any (n : Int) (w : World) (hn : 0 ≤ n ∧ n ≤ 65535) :
    Calls Tryz.prog 165 #[.int .i64 n] w fun e w' => e = .returned (hv n) ∧ Below w.heap.size w w' := by
  have H : Hid (∀ x y z, x = n % 256 → y = n / 256 → z = (255 - bits .xor .u8 (n % 256) (n / 256)) % 256 → Value.agg #[.int .u8 x, .int .u8 y, .int .u8 z] = hv n) := by
    rintro x y z rfl rfl rfl
    unfold hv; rw [← hd_bits hn]; rfl
  obtain ⟨hz, hi'⟩ := zero_of_info infoHead
  go_enter Tryz.func165, Tryz.ntmps165
  go_wp2
  refine bodyPost_ret (v := hv n) ?_ rfl ⟨rfl, (Below.refl _ _).alloc (Nat.le_refl _) _⟩
  rw [← H.out _ _ _ rfl rfl rfl]
  exact results_cell_row rfl _ _ w.heap.size 227 _ (0, 0) _ rfl (heap_alloc_new w _) Tryz.underlying227 rfl hi'
theorem headOf_at (n a b c : Int) (w : World) (hn : 0 ≤ n ∧ n ≤ 65535) (h : hd n = [a, b, c]) :
    Calls Tryz.prog 165 #[.int .i64 n] w fun e w' => e = .returned (.agg #[.int .u8 a, .int .u8 b, .int .u8 c]) ∧ Below w.heap.size w w' := by
  refine (headOf_any n w hn).mono ?_
  rintro r w' ⟨rfl, hb⟩
  exact ⟨by unfold hv; rw [h]; rfl, hb⟩
end Go.Proofs.YtchcejjoncihkaaGreatDoor

/- The walks of the program's Put and of whole. -/
namespace Go.Proofs.YtchcejjoncihkaaGreatDoor
set_option linter.unusedVariables false
open Go.RowKit Go.Maps
open Lz (g pack)
open Crc (ent more)
open Cur
open Frm

theorem hd_three (n : Int) : ∃ a b c, hd n = [a, b, c] := ⟨_, _, _, rfl⟩
theorem more_bd {T : Nat → Nat} (hS : Small T) (p : List Int) : more T 0 p < 4294967296 := Crc.more_lt hS p (by omega)
theorem w_whole {T : Nat → Nat} (hS : Small T) (n : Int) (p : List Int) : wByt p (wNum (more T 0 p) 4 (wByt (hd n) ([], 0))) = (whole T n p, 0) := by
  have h := more_bd hS p
  have e : wByt (hd n) ([], 0) = (hd n, 0) := by unfold wByt; simp
  rw [e]
  have e2 : wNum (more T 0 p) 4 (hd n, 0) = (hd n ++ by' 4 (more T 0 p), 0) := by
    unfold wNum; rw [if_pos ⟨by omega, by omega, by omega, by show (more T 0 p : Int) < 4294967296; omega⟩]; rfl
  rw [e2]; rfl
theorem whole_length (T : Nat → Nat) (n : Int) (p : List Int) : (whole T n p).length = 7 + p.length := by
  unfold whole; rw [List.length_append, List.length_append, by_length, hd_length]

/-- Bytes that were just laid down, in cells of whatever type. -/
theorem bs_newT (w : World) (t : TypeId) (fz : Nat × Nat) (zs : List Int) (hb : Bytes zs) : Bs (w.alloc (.cells (bv zs).toArray t fz)) (some ⟨w.heap.size, 0, none⟩) zs.length zs := by
  refine ⟨rfl, hb.g, .inr ⟨w.heap.size, 0, rfl, by simp, fun i hi => ?_⟩⟩
  rw [Nat.zero_add, cell_of_row _ w.heap.size i _ _ _ (heap_alloc_new w _)]
  simp [bv, Lz.g_lt _ _ hi, hi]

set_option maxRecDepth 100000 in
set_option maxHeartbeats 4000000 in
theorem whole_any (tb len cap : Nat) (n : Int) (T : Nat → Nat) (ao : Option Addr) (zs : List Int) (w : World) (hT : Tb w tb T) (htb : tb < w.heap.size) (hS : Small T) (hn : 0 ≤ n ∧ n ≤ 65535) (hB : Bs w ao len zs) (hnil : ao = none → cap = 0) (hl : len ≤ 1000) :
    Calls Tryz.prog 167 #[.pointer (some ⟨tb, 0, none⟩), .int .i64 n, .slice ao len cap] w fun r w' => ∃ ao' c', r = .returned (.slice ao' (7 + len) c') ∧ New w w' ao' (7 + len) c' (whole T n zs) := by
  obtain ⟨x0, x1, x2, hx⟩ := hd_three n
  have HH : Hid (hd n = [x0, x1, x2]) := hx
  have HT : Hid (Tb w tb T) := hT
  have HB : Hid (Bs w ao len zs) := hB
  have HN : Hid (ao = none → cap = 0) := hnil
  have HW : Hid (wByt zs (wNum (more T 0 zs) 4 (wByt (hd n) ([], 0))) = (whole T n zs, 0)) := w_whole hS n zs
  have HL : Hid (zs.length = len) := hB.1
  have HS : Hid (Small T) := hS
  have hm := more_bd hS zs
  have hby := hd_bytes n
  rw [hx] at hby
  have HY : Hid (Bytes [x0, x1, x2]) := hby
  clear hx hT hB hS hby hnil
  go_enter Tryz.func167, Tryz.ntmps167
  go_wp2_with fail
  refine (headOf_at n x0 x1 x2 w hn HH.out).mono ?_
  rintro r w1 ⟨rfl, hb1⟩
  have HB1 : Hid (Below w.heap.size w w1) := hb1
  clear hb1
  go_wp2_with fail
  have HB2 : Hid (Below w.heap.size w ((w1.alloc (.cells #[.int .u8 x0, .int .u8 x1, .int .u8 x2] 227)).alloc (.cells #[.slice none 0 0, .int .i64 0] 156))) := (HB1.out.alloc HB1.out.size _).alloc (Nat.le_trans HB1.out.size (by simp)) _
  have HW2 : Hid (WrP ((w1.alloc (.cells #[.int .u8 x0, .int .u8 x1, .int .u8 x2] 227)).alloc (.cells #[.slice none 0 0, .int .i64 0] 156)) (w1.heap.size + 1) w.heap.size (.slice none 0 0) ([], 0)) := by
    have := WrP.new (w1.alloc (.cells #[.int .u8 x0, .int .u8 x1, .int .u8 x2] 227)) w.heap.size
    rw [World.size_alloc] at this; exact this
  have hx2 : Bs ((w1.alloc (.cells #[.int .u8 x0, .int .u8 x1, .int .u8 x2] 227)).alloc (.cells #[.slice none 0 0, .int .i64 0] 156)) (some ⟨w1.heap.size, 0, none⟩) 3 (hd n) := by
    rw [HH.out]; exact (bs_newT w1 227 (0, 0) _ HY.out).alloc _
  have hp : w.heap.size ≤ w1.heap.size + 1 := Nat.le_trans HB1.out.size (by omega)
  refine (wBytes_any (w1.heap.size + 1) w.heap.size 3 3 _ (.slice none 0 0) (hd n) ([], 0) _ HW2.out HB2.out.size hx2 (fun h => by simp at h) (by simp)).mono ?_
  rintro r w3 ⟨rfl, v3, hW3, hF3, hL3⟩
  have HB3 : Hid (Below w.heap.size w w3) := HB2.out.trans (hF3.two_below HB2.out.size hp (fun k hk => by simp [Value.ownBlock] at hk))
  have HW3 : Hid (WrP w3 (w1.heap.size + 1) w.heap.size v3 (wByt (hd n) ([], 0))) := hW3
  clear hW3 hF3 hL3 hx2 HB2 HW2
  have hl3 : (wByt (hd n) ([], 0)).1.length = 3 := by unfold wByt; simp [hd_length]
  generalize wByt (hd n) ([], 0) = s3 at *
  have hT3 := HT.out.below HB3.out htb
  go_wp2_with fail
  refine (Sum_any tb len cap T ao zs w3 hT3 HS.out (HB.out.below HB3.out) (by omega)).mono ?_
  rintro r wx ⟨rfl, rfl⟩
  clear hT3
  go_wp2_with fail
  refine (wNum_any (w1.heap.size + 1) w.heap.size v3 (more T 0 zs) 4 s3 wx HW3.out HB3.out.size (by omega) (by omega) (by omega)).mono ?_
  rintro r w4 ⟨rfl, v4, hW4, hF4, hL4⟩
  have HB4 : Hid (Below w.heap.size w w4) := HB3.out.trans (hF4.two_below HB3.out.size hp HW3.out.base)
  have HW4 : Hid (WrP w4 (w1.heap.size + 1) w.heap.size v4 (wNum (more T 0 zs) 4 s3)) := hW4
  clear hW4 hF4 hL4
  have hl4 : (wNum (more T 0 zs) 4 s3).1.length ≤ 7 := by
    unfold wNum; split
    · unfold wByt; split
      · rw [List.length_append, by_length]; simp; omega
      · omega
    · unfold fl; split
      · simp
      · omega
  generalize wNum (more T 0 zs) 4 s3 = s4 at *
  go_wp2_with fail
  refine (wBytes_any (w1.heap.size + 1) w.heap.size len cap ao v4 zs s4 w4 HW4.out HB4.out.size (HB.out.below HB4.out) HN.out (by omega)).mono ?_
  rintro r w5 ⟨rfl, v5, hW5, hF5, hL5⟩
  have HB5 : Hid (Below w.heap.size w w5) := HB4.out.trans (hF5.two_below HB4.out.size hp HW4.out.base)
  have HW5 : Hid (WrP w5 (w1.heap.size + 1) w.heap.size v5 (whole T n zs, 0)) := by rw [← HW.out]; exact hW5
  clear hW5 hF5 hL5
  have hlw : (whole T n zs).length = 7 + len := by rw [whole_length, HL.out]
  have HLW : Hid ((whole T n zs).length = 7 + len) := hlw
  go_wp2_with fail
  refine (DoneNew_any (w1.heap.size + 1) w.heap.size v5 (whole T n zs, 0) w5 HW5.out (by rw [HLW.out]; omega)).mono ?_
  rintro r w6 ⟨ao', c', rfl, hN⟩
  have HN6 : Hid (New w w6 ao' (7 + len) c' (whole T n zs)) := by
    have := hN.from HB5.out
    rw [HLW.out] at this; exact this
  clear hN hlw
  rw [HLW.out]
  go_wp2
  go_ret
  exact ⟨_, _, rfl, HN6.out⟩

theorem put_nil (T : Nat → Nat) : put T [] = [0, 0, 255] := by unfold put; rw [if_pos rfl]; decide
theorem put_packed (T : Nat → Nat) {zs : List Int} {len n1 : Nat} (hz : zs.length = len) (h0 : len ≠ 0) (hp : (pack zs).length = n1) (h : n1 < len) : put T zs = whole T n1 (pack zs) := by
  have : zs ≠ [] := fun e => h0 (by rw [← hz, e]; rfl)
  unfold put; rw [if_neg this, if_pos (by omega), hp]
theorem put_stored (T : Nat → Nat) {zs : List Int} {len n1 : Nat} (hz : zs.length = len) (h0 : len ≠ 0) (hp : (pack zs).length = n1) (h : ¬ n1 < len) : put T zs = whole T ((len : Int) + 32768) zs := by
  have : zs ≠ [] := fun e => h0 (by rw [← hz, e]; rfl)
  unfold put; rw [if_neg this, if_neg (by omega), hz]
/-- What Put answers. -/
def Puts (T : Nat → Nat) (w w' : World) (zs : List Int) (r : Ending) : Prop :=
  (128 < zs.length ∧ r = .returned (.tuple #[.slice none 0 0, .int .i64 3]) ∧ w' = w) ∨
  (zs.length ≤ 128 ∧ ∃ ao' c', r = .returned (.tuple #[.slice ao' (put T zs).length c', .int .i64 0]) ∧ New w w' ao' (put T zs).length c' (put T zs))
set_option maxRecDepth 100000 in
set_option maxHeartbeats 4000000 in
theorem Put_any (tb len cap : Nat) (T : Nat → Nat) (ao : Option Addr) (zs : List Int) (w : World) (hT : Tb w tb T) (htb : tb < w.heap.size) (hS : Small T) (hB : Bs w ao len zs) (hc : len ≤ cap) (hnil : ao = none → cap = 0) (hl : len ≤ 1000) :
    Calls Tryz.prog 113 #[.pointer (some ⟨tb, 0, none⟩), .slice ao len cap] w fun r w' => Puts T w w' zs r := by
  have hz := hB.1
  by_cases h1 : 128 < len
  · have H : Hid (Puts T w w zs (.returned (.tuple #[.slice none 0 0, .int .i64 3]))) := .inl ⟨by omega, rfl, rfl⟩
    clear hT hB hnil
    go_enter Tryz.func113, Tryz.ntmps113
    go_wp2
    go_ret2
    exact H.out
  by_cases h2 : len = 0
  · subst h2
    obtain rfl : zs = [] := List.eq_nil_of_length_eq_zero hz
    have HP : Hid (put T [] = [0, 0, 255]) := put_nil T
    have hh : hd 0 = [0, 0, 255] := by decide
    clear hT hB hnil hz
    go_enter Tryz.func113, Tryz.ntmps113
    go_wp2_with fail
    refine (headOf_at 0 0 0 255 w (by omega) hh).mono ?_
    rintro r w1 ⟨rfl, hb1⟩
    have HB1 : Hid (Below w.heap.size w w1) := hb1
    clear hb1 hh
    go_wp2
    go_ret2
    refine .inr ⟨by simp, _, 3, by rw [HP.out]; rfl, ?_⟩
    rw [HP.out]
    exact ⟨bs_newT w1 227 (0, 0) [0, 0, 255] (fun x hx => by simp at hx; omega), by simp, by omega, fun h => by simp at h, HB1.out.alloc HB1.out.size _, fun a ha => by cases ha; exact ⟨HB1.out.size, rfl, _, _, heap_alloc_new w1 _⟩⟩
  have HT : Hid (Tb w tb T) := hT
  have HB : Hid (Bs w ao len zs) := hB
  have HN : Hid (ao = none → cap = 0) := hnil
  have HS : Hid (Small T) := hS
  have HZ : Hid (zs.length = len) := hz
  clear hT hB hnil hS hz
  go_enter Tryz.func113, Tryz.ntmps113
  go_wp2_with fail
  refine (Pack_any len cap ao zs w HB.out hc (by omega)).mono ?_
  rintro r w1 (⟨h4, _⟩ | ⟨_, ao1, n1, c1, rfl, ho1, hb1⟩)
  · omega
  have HO1 : Hid (w1.ownsRow w.heap.size 5 1 (.slice ao1 n1 c1) n1 (bv (pack zs))) := ho1
  have HB1 : Hid (Below w.heap.size w w1) := hb1
  have hl1 : (pack zs).length = n1 := by have := ho1.1; rw [bv_length] at this; omega
  have HL1 : Hid ((pack zs).length = n1) := hl1
  have hsh := Lz.pack_short zs
  have hn1 : n1 ≤ 1000 := by rw [HZ.out] at hsh; omega
  have hbp : Bytes (pack zs) := HB.out.bytes.pack
  have HBP : Hid (Bytes (pack zs)) := hbp
  clear ho1 hb1 hsh hbp hl1
  by_cases h3 : n1 < len
  · have h3' : decide ((n1 : Int) < (len : Int)) = true := by simp; omega
    have HP : Hid (put T zs = whole T n1 (pack zs)) := put_packed T HZ.out h2 HL1.out h3
    go_wp2_with fail
    refine (whole_any tb n1 c1 n1 T ao1 (pack zs) w1 (HT.out.below HB1.out htb) (Nat.lt_of_lt_of_le htb HB1.out.size) HS.out (by omega) (bs_of_owns HO1.out HBP.out) (nil_cap HO1.out) hn1).mono ?_
    rintro r w2 ⟨ao2, c2, rfl, hN⟩
    have HX : Hid (Puts T w w2 zs (.returned (.tuple #[.slice ao2 (7 + n1) c2, .int .i64 0]))) := by
      refine .inr ⟨by rw [HZ.out]; omega, ao2, c2, ?_, ?_⟩
      · rw [HP.out, whole_length, HL1.out]
      · have := hN.from HB1.out
        rw [HP.out, whole_length, HL1.out]; exact this
    clear hN
    go_wp2
    go_ret2
    exact HX.out
  · have h3' : decide ((n1 : Int) < (len : Int)) = false := by simp; omega
    have HP : Hid (put T zs = whole T ((len : Int) + 32768) zs) := put_stored T HZ.out h2 HL1.out h3
    go_wp2_with fail
    refine (whole_any tb len cap ((len : Int) + 32768) T ao zs w1 (HT.out.below HB1.out htb) (Nat.lt_of_lt_of_le htb HB1.out.size) HS.out (by omega) (HB.out.below HB1.out) HN.out hl).mono ?_
    rintro r w2 ⟨ao2, c2, rfl, hN⟩
    have HX : Hid (Puts T w w2 zs (.returned (.tuple #[.slice ao2 (7 + len) c2, .int .i64 0]))) := by
      refine .inr ⟨by rw [HZ.out]; omega, ao2, c2, ?_, ?_⟩
      · rw [HP.out, whole_length, HZ.out]
      · have := hN.from HB1.out
        rw [HP.out, whole_length, HZ.out]; exact this
    clear hN
    go_wp2
    go_ret2
    exact HX.out
end Go.Proofs.YtchcejjoncihkaaGreatDoor

/- What was framed is read as it was, wherever it stands; a frame that is cut, or of which a byte is turned, is none; how long frames are. -/
namespace Go.Proofs.YtchcejjoncihkaaGreatDoor.Frm
set_option linter.unusedVariables false
open Lz (g pack)
open Crc (ent more)
open Cur (le by')

theorem g_app_right (a b : List Int) (i : Nat) : g (a ++ b) (a.length + i) = g b i := by simp [g, List.getElem?_append_right]
theorem g_app_r {a b : List Int} {k : Nat} (hk : a.length = k) (i : Nat) : g (a ++ b) (k + i) = g b i := by rw [← hk]; exact g_app_right a b i
theorem put_length {T : Nat → Nat} {b : List Int} (h : b.length ≤ 128) : 3 ≤ (put T b).length ∧ (put T b).length ≤ b.length + 7 ∧ (put T b).length ≤ 135 := by
  by_cases h0 : b = []
  · subst h0; rw [put_nil]; simp
  · unfold put; rw [if_neg h0]
    split
    · rw [whole_length]; omega
    · rw [whole_length]; omega
theorem put_bytes {T : Nat → Nat} {b : List Int} (h : Bytes b) : Bytes (put T b) := by
  unfold put whole
  split
  · exact hd_bytes 0
  · split
    · exact ((hd_bytes _).append (by_bytes 4 _)).append h.pack
    · exact ((hd_bytes _).append (by_bytes 4 _)).append h
end Go.Proofs.YtchcejjoncihkaaGreatDoor.Frm

/- The walks of plain, and of the two functions that are handed to pass. -/
namespace Go.Proofs.YtchcejjoncihkaaGreatDoor
set_option linter.unusedVariables false
open Go.RowKit Go.Maps
open Lz (g pack)
open Crc (ent more)
open Cur
open Frm

/-- Bytes in blocks that are new since w, or none. -/
structure Fresh (w w' : World) (ao : Option Addr) (n c : Nat) (zs : List Int) : Prop where
  bs : Bs w' ao n zs
  cap : n ≤ c
  max : c ≤ 9223372036854775807
  nil : ao = none → c = 0
  bel : Below w.heap.size w w'
  new : ∀ a, ao = some a → w.heap.size ≤ a.block
theorem Fresh.from {w0 w w' : World} {ao : Option Addr} {n c : Nat} {zs : List Int} (h : Fresh w w' ao n c zs) (hb : Below w0.heap.size w0 w) : Fresh w0 w' ao n c zs :=
  ⟨h.bs, h.cap, h.max, h.nil, hb.trans (h.bel.mono hb.size), fun a ha => Nat.le_trans hb.size (h.new a ha)⟩
end Go.Proofs.YtchcejjoncihkaaGreatDoor

/- Two arrays of three bytes, held against each other. -/
namespace Go.Proofs.YtchcejjoncihkaaGreatDoor
set_option linter.unusedVariables false
open Go.RowKit Go.Maps

end Go.Proofs.YtchcejjoncihkaaGreatDoor

/- The walk of pass: the frame at a place, whatever function is handed to it. -/
namespace Go.Proofs.YtchcejjoncihkaaGreatDoor
set_option linter.unusedVariables false
open Go.RowKit Go.Maps
open Lz (g pack)
open Crc (ent more)
open Cur
open Frm

end Go.Proofs.YtchcejjoncihkaaGreatDoor

/- The walks of Take and Skip, and of the functions that they hand to pass. -/
namespace Go.Proofs.YtchcejjoncihkaaGreatDoor
set_option linter.unusedVariables false
open Go.RowKit Go.Maps
open Lz (g pack)
open Crc (ent more)
open Cur
open Frm

end Go.Proofs.YtchcejjoncihkaaGreatDoor

/- A row of bytes of the call's own that does not begin at its block's head ('rest = rest[128:]'): what it is, that it is cut, and that bytes are appended to it; what is owned, and frames off it; a clone as such a row. And, of frames as pure functions: blocks of 128 bytes, what is taken is no longer, and where the next one stands. -/
namespace Go.Proofs.YtchcejjoncihkaaGreatDoor.Mtr
set_option linter.unusedVariables false
open Lz (g pack)
open Crc (ent more)
open Cur (le by')
open Frm

/-- The block k of a row. -/
def blk (z : List Int) (k : Nat) : List Int := (z.drop (128 * k)).take 128
theorem blk_length (z : List Int) (k : Nat) : (blk z k).length = min 128 (z.length - 128 * k) := by simp [blk]
theorem blk_le (z : List Int) (k : Nat) : (blk z k).length ≤ 128 := by rw [blk_length]; omega
theorem blk_bytes {z : List Int} (h : Bytes z) (k : Nat) : Bytes (blk z k) := (h.drop _).take _
theorem blk_append (z y : List Int) (k : Nat) (h : 128 * (k + 1) ≤ z.length) : blk (z ++ y) k = blk z k := by
  unfold blk
  rw [List.drop_append_of_le_length (by omega), List.take_append_of_le_length (by simp; omega)]
end Go.Proofs.YtchcejjoncihkaaGreatDoor.Mtr
namespace Go.Proofs.YtchcejjoncihkaaGreatDoor
set_option linter.unusedVariables false
open Go.RowKit Go.Maps
open Lz (g)
open Crc (ent)
open Frm

theorem heap_setCells_self {p : Nat} {t : TypeId} {fz : Nat × Nat} : ∀ (vs : List Value) (o : Nat) (w : World) (cur : Array Value), w.heap[p]? = some (.cells cur t fz) → ∃ cur', (w.setCells p o vs).heap[p]? = some (.cells cur' t fz)
  | [], _, _, cur, h => ⟨cur, h⟩
  | v :: r, o, w, cur, h => heap_setCells_self r (o + 1) _ _ (heap_setCell_self h v)
theorem size_setCells (b : Nat) : ∀ (vs : List Value) (o : Nat) (w : World), (w.setCells b o vs).heap.size = w.heap.size
  | [], _, _ => rfl
  | v :: r, o, w => by rw [World.setCells, size_setCells b r (o + 1)]; simp [World.setCell]
theorem setCells_other (b : Nat) : ∀ (vs : List Value) (o : Nat) (w : World) (k : Nat), k ≠ b → (w.setCells b o vs).heap[k]? = w.heap[k]?
  | [], _, _, _, _ => rfl
  | v :: r, o, w, k, h => by rw [World.setCells, setCells_other b r (o + 1) _ k h, Below.heap_setCell _ _ _ _ h]
theorem setCells_tape (b : Nat) : ∀ (vs : List Value) (o : Nat) (w : World), (w.setCells b o vs).tape = w.tape
  | [], _, _ => rfl
  | v :: r, o, w => by rw [World.setCells, setCells_tape b r (o + 1)]; simp [World.setCell]
theorem grown_setCells (w : World) (b o : Nat) (vs : List Value) : w.grownBy (w.setCells b o vs) (some b) :=
  ⟨World.os_setCells w b o vs, setCells_tape b vs o w, World.output_setCells w b o vs, by rw [size_setCells]; exact Nat.le_refl _, fun k _ hk => setCells_other b vs o w k (fun e => hk (by rw [e]))⟩
/-- A row of the call's own, wherever in its block it begins. -/
def Rw (w : World) (B : Nat) (ao : Option Addr) (n c : Nat) (zs : List Int) : Prop :=
  zs.length = n ∧ Bytes zs ∧ n ≤ c ∧ c ≤ maxLen ∧ ((ao = none ∧ c = 0) ∨ ∃ gb off, ao = some ⟨gb, off, none⟩ ∧ B ≤ gb ∧ (∃ cur, w.heap[gb]? = some (.cells cur 5 (0, 0))) ∧
    (∀ i, i < n → w.cell? ⟨gb, off + i, none⟩ = some (.int .u8 (g zs i))) ∧ ∀ i, i < c → (w.cell? ⟨gb, off + i, none⟩).isSome = true)
theorem Rw.none (w : World) (B : Nat) : Rw w B none 0 0 [] := ⟨rfl, Bytes.nil, Nat.le_refl _, Nat.zero_le _, .inl ⟨rfl, rfl⟩⟩
theorem Rw.bs {w : World} {B n c : Nat} {ao : Option Addr} {zs : List Int} (h : Rw w B ao n c zs) : Bs w ao n zs := by
  obtain ⟨h1, h2, h3, h4, h5⟩ := h
  refine ⟨h1, h2.g, ?_⟩
  rcases h5 with ⟨_, h5⟩ | ⟨gb, off, h5, h6, ⟨cur, h7⟩, h8, h9⟩
  · exact .inl (by omega)
  · exact .inr ⟨gb, off, h5, heap_lt h7, fun i hi => h8 i (by omega)⟩
theorem Rw.nil {w : World} {B n c : Nat} {ao : Option Addr} {zs : List Int} (h : Rw w B ao n c zs) : ao = Option.none → c = 0 := by
  intro e
  rcases h.2.2.2.2 with ⟨_, h5⟩ | ⟨gb, off, h5, _⟩
  · exact h5
  · rw [e] at h5; simp at h5
theorem Rw.own {w : World} {B n c : Nat} {ao : Option Addr} {zs : List Int} (h : Rw w B ao n c zs) {k : Nat} (hk : (Value.slice ao n c).ownBlock = some k) : B ≤ k ∧ k < w.heap.size ∧ ∃ cur, w.heap[k]? = some (.cells cur 5 (0, 0)) := by
  rcases h.2.2.2.2 with ⟨rfl, _⟩ | ⟨gb, off, rfl, h6, h7, _⟩
  · simp [Value.ownBlock] at hk
  · simp [Value.ownBlock] at hk
    subst hk
    obtain ⟨cur, h7⟩ := h7
    exact ⟨h6, heap_lt h7, cur, h7⟩
theorem Rw.fr {S : Nat → Prop} {w w' : World} {B n c : Nat} {ao : Option Addr} {zs : List Int} (h : Rw w B ao n c zs) (hf : Fr S w w') (hn : ∀ k, (Value.slice ao n c).ownBlock = some k → ¬ S k) : Rw w' B ao n c zs := by
  obtain ⟨h1, h2, h3, h4, h5⟩ := h
  refine ⟨h1, h2, h3, h4, ?_⟩
  rcases h5 with h5 | ⟨gb, off, rfl, h6, ⟨cur, h7⟩, h8, h9⟩
  · exact .inl h5
  · have hlt := heap_lt h7
    have hb := hf.block gb hlt (hn gb rfl)
    refine .inr ⟨gb, off, rfl, h6, ⟨cur, hb.trans h7⟩, fun i hi => (World.cell?_of_block (w := w) (a := ⟨gb, off + i, Option.none⟩) hb).trans (h8 i hi), fun i hi => ?_⟩
    rw [World.cell?_of_block (w := w) (a := ⟨gb, off + i, Option.none⟩) hb]; exact h9 i hi
theorem Rw.of_owns {w : World} {B n c : Nat} {ao : Option Addr} {zs : List Int} (h : w.ownsRow B 5 1 (.slice ao n c) n (bv zs)) (hb : Bytes zs) : Rw w B ao n c zs := by
  have hlen : zs.length = n := by have := h.1; rw [bv_length] at this; omega
  have h0 := h
  rcases h.2 with ⟨e, _⟩ | ⟨gb, cap, cur, e, h1, h2, h3, h4, h5, h6⟩
  · simp at e
    obtain ⟨rfl, rfl, rfl⟩ := e
    exact ⟨hlen, hb, Nat.le_refl _, Nat.zero_le _, .inl ⟨rfl, rfl⟩⟩
  · simp at e
    obtain ⟨rfl, rfl⟩ := e
    refine ⟨hlen, hb, h3, h4, .inr ⟨gb, 0, rfl, h1, ⟨cur, h2⟩, fun i hi => ?_, fun i hi => ?_⟩⟩
    · rw [Nat.zero_add, h0.cellAt i (by omega)]
      unfold bv
      rw [List.getElem?_map, List.getElem?_eq_getElem (by omega), Lz.g_lt _ _ (by omega)]; rfl
    · rw [Nat.zero_add, cell_of_row _ _ i _ _ _ h2]
      rw [Array.getElem?_eq_getElem (by omega)]; rfl
theorem Rw.mono {w : World} {B B' n c : Nat} {ao : Option Addr} {zs : List Int} (h : Rw w B ao n c zs) (hb : B' ≤ B) : Rw w B' ao n c zs := by
  obtain ⟨h1, h2, h3, h4, h5⟩ := h
  refine ⟨h1, h2, h3, h4, ?_⟩
  rcases h5 with h5 | ⟨gb, off, rfl, h6, h7⟩
  · exact .inl h5
  · exact .inr ⟨gb, off, rfl, Nat.le_trans hb h6, h7⟩
/-- The rest of it. -/
theorem Rw.drop {w : World} {B n c : Nat} {ao : Option Addr} {zs : List Int} (h : Rw w B ao n c zs) (k : Nat) (hk : k ≤ n) : Rw w B (if c = k then ao else Option.map (fun x => x.add k) ao) (n - k) (c - k) (zs.drop k) := by
  obtain ⟨h1, h2, h3, h4, h5⟩ := h
  refine ⟨by simp; omega, h2.drop k, by omega, by omega, ?_⟩
  rcases h5 with ⟨rfl, h5⟩ | ⟨gb, off, rfl, h6, h7, h8, h9⟩
  · exact .inl ⟨by simp, by omega⟩
  · by_cases e : c = k
    · rw [if_pos e]
      exact .inr ⟨gb, off, rfl, h6, h7, fun i hi => by omega, fun i hi => by omega⟩
    · rw [if_neg e]
      refine .inr ⟨gb, off + k, by simp [Addr.add_lit], h6, h7, fun i hi => ?_, fun i hi => ?_⟩
      · rw [Nat.add_assoc, Lz.g_drop]; exact h8 (k + i) (by omega)
      · rw [Nat.add_assoc]; exact h9 (k + i) (by omega)
theorem rw_own_drop (ao : Option Addr) (n c n' c' k : Nat) (j : Nat) (h : (Value.slice (if c = k then ao else Option.map (fun x => x.add k) ao) n' c').ownBlock = some j) : (Value.slice ao n c).ownBlock = some j := by
  cases ao with
  | none => simp [Value.ownBlock] at h
  | some a =>
    obtain ⟨b, o, s⟩ := a
    by_cases e : c = k
    · rw [if_pos e] at h; simpa [Value.ownBlock] using h
    · rw [if_neg e] at h
      simp only [Option.map_some] at h
      by_cases e0 : k = 0
      · cases s <;> simpa [Value.ownBlock, Addr.add, e0] using h
      · cases s <;> simpa [Value.ownBlock, Addr.add, e0] using h

set_option maxHeartbeats 1600000 in
/-- 'append' to such a row, of bytes wherever they lie. -/
theorem run_append_rw (w : World) (ty : TypeId) {B n vc m c : Nat} {vo ao : Option Addr} {xs zs : List Int} (h : Rw w B vo n vc xs) (hB : B ≤ w.heap.size) (hb : Bs w ao m zs) (hnil : ao = none → c = 0) (hbd : n + m ≤ 100000000) :
    ∃ ao' c' w', (Builtin.append_ #[25, 25] ty #[.slice vo n vc, .slice ao m c]).run Tryz.prog w = .ok (.slice ao' (n + m) c') w' ∧ Rw w' B ao' (n + m) c' (xs ++ zs) ∧ w.grownBy w' (Value.slice vo n vc).ownBlock ∧ Lie w (.slice vo n vc) (.slice ao' (n + m) c') := by
  obtain ⟨i0, hi, hz0, hz1, hz2⟩ := info_parts infoByte
  obtain ⟨hz, hby, h0⟩ := hb
  have hbz : Bytes zs := Bytes.of_g hby
  have hR := h
  obtain ⟨h1, h2, h3, h4, h5⟩ := h
  cases ao with
  | none =>
    obtain rfl : c = 0 := hnil rfl
    obtain rfl : m = 0 := by
      rcases h0 with h0 | ⟨b, off, h1, _⟩
      · exact h0
      · simp at h1
    obtain rfl : zs = [] := List.eq_nil_of_length_eq_zero hz
    refine ⟨vo, vc, w, ?_, by simpa using hR, World.grownBy.refl _ _, Lie.refl _ _⟩
    rcases h5 with ⟨rfl, rfl⟩ | ⟨gb, off, rfl, h6, h7, h8, h9⟩
    · obtain rfl : n = 0 := by omega
      simp [Builtin.append_, run_underlying Tryz.underlying25, sizeOf, typeInfo, hi, Builtin.lenOf, Builtin.firstCells]
    · simp [Builtin.append_, run_underlying Tryz.underlying25, sizeOf, typeInfo, hi, Builtin.lenOf, Builtin.firstCells, loadCells, storeCells, h3]
  | some ad =>
    have hnews : ∀ j u, (bv zs)[j]? = some u → w.cell? (ad.add j) = some u := by
      rcases h0 with h0 | ⟨b, off, e1, _, hseg⟩
      · have : zs = [] := List.eq_nil_of_length_eq_zero (by omega)
        subst this
        intro j u hu; simp [bv] at hu
      · obtain rfl := Option.some.inj e1
        have := news_seg hseg m
        rw [List.take_of_length_le (by omega)] at this
        exact this
    have hby2 : Bytes (xs ++ zs) := h2.append hbz
    have hlb : (bv zs).length = m * 1 := by rw [bv_length]; omega
    rcases h5 with ⟨rfl, rfl⟩ | ⟨gb, off, rfl, h6, h7, h8, h9⟩
    · obtain rfl : n = 0 := by omega
      obtain rfl : xs = [] := List.eq_nil_of_length_eq_zero h1
      obtain ⟨v', w', hrun, r1, r2, _⟩ := run_append_own (P := Tryz.prog) w w.heap.size 25 ty 5 i0 (.int .u8 0) 1 1 Tryz.underlying25 hi hz0 hz1 hz2 rfl (by decide) (.slice none 0 0) 0 [] (World.ownsRow_nil w _ _ _) ad m c (bv zs) hlb hnews (bv_one _) (by unfold maxLen; omega) (by omega) (Nat.le_refl _)
      obtain ⟨ao', c', rfl⟩ := owns_shape r1
      rw [show ([] : List Value) ++ bv zs = bv ([] ++ zs) by simp] at r1
      exact ⟨ao', c', w', hrun, (Rw.of_owns r1 hby2).mono hB, r2, fun k hk => .inr (r1.lt k hk).1⟩
    · by_cases hr : n + m ≤ vc
      · have hcs : ∀ j, j < (bv zs).length → (w.cell? ⟨gb, off + n * i0.size + j, none⟩).isSome = true := fun j hj => by
          rw [hz1, Nat.mul_one, Nat.add_assoc]; exact h9 (n + j) (by rw [bv_length] at hj; omega)
        obtain ⟨cur, h7'⟩ := h7
        have hfz : ∀ j, w.frozen? ⟨gb, j, none⟩ = false := fun j => by simp [World.frozen?, h7']
        have hrun := run_append_room_cells (P := Tryz.prog) w 25 ty 5 i0 Tryz.underlying25 hi gb off n vc ad m c (bv zs) (by rw [hz1]; exact hlb) hnews (bv_one _) hr hcs (fun j hj => hfz _)
        rw [hz1, Nat.mul_one] at hrun hcs
        refine ⟨some ⟨gb, off, none⟩, vc, _, hrun, ⟨by simp; omega, hby2, hr, h4, .inr ⟨gb, off, rfl, h6, heap_setCells_self _ _ _ _ h7', fun i hi' => ?_, fun i hi' => World.isSome_setCells gb _ _ _ _ (h9 i hi')⟩⟩, grown_setCells _ _ _ _, fun k hk => .inl hk⟩
        by_cases e : i < n
        · rw [World.cell?_setCells_out gb _ _ _ _ (fun _ _ => .inl (by show off + i < off + n; omega)), Lz.g_append_left _ _ _ (by omega)]
          exact h8 i e
        · have hj : i - n < (bv zs).length := by rw [bv_length]; omega
          have := World.cell?_setCells_in gb (bv zs) (off + n) w hcs (i - n) hj
          rw [show off + n + (i - n) = off + i by omega] at this
          rw [this]
          have hzl : i - n < zs.length := by omega
          have e1 : (bv zs)[i - n] = .int .u8 (g zs (i - n)) := by
            have hz' := Lz.g_lt zs (i - n) hzl
            rw [hz']; simp [bv]
          have e2 : g (xs ++ zs) i = g zs (i - n) := by
            have := Frm.g_app_r (a := xs) (b := zs) h1 (i - n)
            rw [show n + (i - n) = i by omega] at this
            exact this
          rw [e1, e2]
      · obtain ⟨v', w', hrun, r1, r2⟩ := run_append_arg_grows (P := Tryz.prog) w 25 ty 5 i0 (.int .u8 0) 1 1 Tryz.underlying25 hi hz0 hz1 hz2 rfl (by decide) ⟨gb, off, none⟩ n vc (bv xs) (by rw [bv_length]; omega) (fun j u hu => by
            rw [Addr.add_lit]
            have hj : j < xs.length := by have := (List.getElem?_eq_some_iff.1 hu).1; rwa [bv_length] at this
            rw [h8 j (by omega), ← hu]
            have hx' := Lz.g_lt xs j hj
            rw [hx']; simp [bv, hj]) ad m c (bv zs) hlb hnews (by omega) (by unfold maxLen; omega) (by omega)
        obtain ⟨ao', c', rfl⟩ := owns_shape r1
        rw [← bv_append] at r1
        refine ⟨ao', c', w', hrun, (Rw.of_owns r1 hby2).mono hB, ⟨r2.os, r2.tape, r2.output, r2.size, fun k hk _ => r2.block k hk (by simp)⟩, fun k hk => .inr (r1.lt k hk).1⟩
/-- .. for the walk. -/
theorem wpList_append_rw (w : World) {ops : Array Oper} {rest : List Oper} {o : Oper} {a : Act} {Q : Exit → Act → World → Prop} (hgd : o.guard = none) (s x : Operand)
    (ho : o.op = .call { callee := .builtin .append, args := #[s, x], argTypes := #[25, 25] })
    (B : Nat) (vo : Option Addr) (n vc : Nat) (xs : List Int) (hs : a.eval s = .slice vo n vc) (hR : Rw w B vo n vc xs)
    (ao : Option Addr) (m c : Nat) (zs : List Int) (hx : a.eval x = .slice ao m c) (hb : Bs w ao m zs) (hnil : ao = none → c = 0)
    (hbd : n + m ≤ 100000000) (hB : B ≤ w.heap.size)
    (h : ∀ ao' c' w', Rw w' B ao' (n + m) c' (xs ++ zs) → w.grownBy w' (Value.slice vo n vc).ownBlock → Lie w (.slice vo n vc) (.slice ao' (n + m) c') → wpList Tryz.prog ops Q rest (a.put o.dst (.slice ao' (n + m) c')) w') :
    wpList Tryz.prog ops Q (o :: rest) a w := by
  refine wpList_plain hgd fun K hK => ?_
  obtain ⟨ao', c', w', hrun, r1, r2, r3⟩ := run_append_rw w o.type hR hB hb hnil hbd
  unfold Oper.wp
  simp [execOp, ho, resolve, invoke, builtin, hs, hx, hrun, Result.andThen]
  exact hK _ _ (h ao' c' w' r1 r2 r3)
theorem Tb.fr {S : Nat → Prop} {w w' : World} {b : Nat} {T : Nat → Nat} (h : Tb w b T) (hf : Fr S w w') (hlt : b < w.heap.size) (hn : ¬ S b) : Tb w' b T := fun i hi => (hf.cell (q := ⟨b, i, none⟩) hlt hn).trans (h i hi)
/-- One append, as a step of a region that draws. -/
theorem step_append_rw (w : World) {ops : Array Oper} {o : Oper} {a : Act} {K : Act → World → Prop} {Q : Exit → Act → World → Prop} {E : Prop} (hgd : o.guard = none) (s x : Operand)
    (ho : o.op = .call { callee := .builtin .append, args := #[s, x], argTypes := #[25, 25] })
    (B : Nat) (vo : Option Addr) (n vc : Nat) (xs : List Int) (hs : a.eval s = .slice vo n vc) (hR : Rw w B vo n vc xs)
    (ao : Option Addr) (m c : Nat) (zs : List Int) (hx : a.eval x = .slice ao m c) (hb : Bs w ao m zs) (hnil : ao = none → c = 0)
    (hbd : n + m ≤ 100000000) (hB : B ≤ w.heap.size)
    (h : ∀ ao' c' w', Rw w' B ao' (n + m) c' (xs ++ zs) → w.grownBy w' (Value.slice vo n vc).ownBlock → Lie w (.slice vo n vc) (.slice ao' (n + m) c') → K (a.put o.dst (.slice ao' (n + m) c')) w') :
    if Region.wanted o (yielded ops a.tmps) = true then Oper.wp Tryz.prog o a w K Q else E := by
  have hw : Region.wanted o (yielded ops a.tmps) = true := by simp [Region.wanted, hgd]
  rw [if_pos hw]
  obtain ⟨ao', c', w', hrun, r1, r2, r3⟩ := run_append_rw w o.type hR hB hb hnil hbd
  unfold Oper.wp
  simp [execOp, ho, resolve, invoke, builtin, hs, hx, hrun, Result.andThen]
  exact h ao' c' w' r1 r2 r3
set_option maxRecDepth 100000 in
theorem CloneRw_any (n c : Nat) (ao : Option Addr) (zs : List Int) (w : World) (hb : Bs w ao n zs) (hc : n ≤ c) (hnil : ao = none → c = 0) (hn : n ≤ 100000000) :
    Calls Tryz.prog 67 #[.slice ao n c] w fun r w' => ∃ ao' c', r = .returned (.slice ao' n c') ∧ Rw w' w.heap.size ao' n c' zs ∧ Below w.heap.size w w' := by
  cases ao with
  | none =>
    obtain rfl : c = 0 := hnil rfl
    obtain rfl : n = 0 := by omega
    obtain rfl : zs = [] := List.eq_nil_of_length_eq_zero hb.1
    clear hnil hb
    have hq : ∀ w : World, (binOp .eql 25 (.slice none 0 0) (.slice none 0 0)).run Tryz.prog w = .ok (.bool true) w := fun w => eql_nil w none 0 0
    go_enter Tryz.func67, Tryz.ntmps67
    go_wp2
    go_ret
    exact ⟨_, _, rfl, Rw.none _ _, Below.refl _ _⟩
  | some a =>
    clear hnil
    have hq : ∀ w : World, (binOp .eql 25 (.slice (some a) n c) (.slice none 0 0)).run Tryz.prog w = .ok (.bool false) w := fun w => eql_nil w (some a) n c
    have ho := emptyB (w := w) (Nat.le_refl _)
    have hb2 := hb.alloc (.cells #[] 5)
    go_enter Tryz.func67, Tryz.ntmps67
    go_wp2_with (first
      | (at_builtin; refine wpList_append_bs _ rfl (.tmp 5) (.tmp 6) rfl w.heap.size _ _ _ _ rfl ho _ n c zs rfl hb2 (fun h => by simp at h) (by omega) (by simp) ?_; intro ao' c' w1 ho1 hg1))
    go_ret
    rw [Nat.zero_add, List.nil_append] at ho1
    refine ⟨ao', c', rfl, Rw.of_owns ho1 hb.bytes, (((Below.refl _ w).alloc (Nat.le_refl _) _)).grown hg1 (by simp) (fun k e => (ho.lt k e).1)⟩

/-- What is its own is new, or was. -/
def Gr (O O' : Nat → Prop) (w : World) : Prop := ∀ k, O' k → O k ∨ w.heap.size ≤ k
theorem Gr.refl (O : Nat → Prop) (w : World) : Gr O O w := fun k h => .inl h
theorem Gr.trans {O O' O'' : Nat → Prop} {w w' : World} (h : Gr O O' w) (h' : Gr O' O'' w') (hs : w.heap.size ≤ w'.heap.size) : Gr O O'' w := fun k hk => by
  rcases h' k hk with h1 | h1
  · exact h k h1
  · exact .inr (by omega)
theorem Fr.gr {O O' : Nat → Prop} {a b c : World} (h : Fr O a b) (hg : Gr O O' a) (h' : Fr O' b c) : Fr O a c := h.trans h' fun i hi hx => by
  rcases hg i hx with h1 | h1
  · exact h1
  · omega
theorem New.undrew {w w' : World} {ao : Option Addr} {n c : Nat} {zs : List Int} (h : New w.drew w' ao n c zs) : New w w' ao n c zs := ⟨h.bs, h.cap, h.max, h.nil, ⟨h.bel.os, h.bel.tape, h.bel.output, h.bel.size, h.bel.block⟩, h.own⟩
theorem Fr.undrewN {S : Nat → Prop} {a b : World} {n : Nat} (h : Fr S (a.drewN n) b) : Fr S a b := ⟨h.os, h.tape, h.output, h.size, h.block⟩
end Go.Proofs.YtchcejjoncihkaaGreatDoor

/- Layer 12: files' blocks, as pure functions: their frames, what a writer has, what is passed and read; and that what was laid down is read as it was. -/
namespace Go.Proofs.YtchcejjoncihkaaGreatDoor.Dat
set_option linter.unusedVariables false
open Lz (g)
open Frm Mtr

/-- Noughts alone. -/
def hol (b : List Int) : Bool := b.all (fun x => x == 0)
/-- What of a block is framed. -/
def eb (b : List Int) : List Int := if hol b = true then [] else b
/-- A block's frame. -/
def bf (T : Nat → Nat) (b : List Int) : List Int := put T (eb b)
theorem eb_le {b : List Int} (h : b.length ≤ 128) : (eb b).length ≤ 128 := by
  unfold eb; split
  · simp
  · exact h
theorem eb_bytes {b : List Int} (h : Bytes b) : Bytes (eb b) := by
  unfold eb; split
  · exact Bytes.nil
  · exact h
theorem bf_length (T : Nat → Nat) {b : List Int} (h : b.length ≤ 128) : 3 ≤ (bf T b).length ∧ (bf T b).length ≤ 135 := by
  have := put_length (T := T) (eb_le h)
  unfold bf; exact ⟨this.1, this.2.2⟩
theorem bf_bytes (T : Nat → Nat) {b : List Int} (h : Bytes b) : Bytes (bf T b) := put_bytes (eb_bytes h)
/-- The frames of the first k blocks. -/
def frs (T : Nat → Nat) (z : List Int) : Nat → List Int
  | 0 => []
  | k + 1 => frs T z k ++ bf T (blk z k)
theorem frs_succ (T : Nat → Nat) (z : List Int) (k : Nat) : frs T z (k + 1) = frs T z k ++ bf T (blk z k) := rfl
theorem frs_length (T : Nat → Nat) (z : List Int) : ∀ k, 3 * k ≤ (frs T z k).length ∧ (frs T z k).length ≤ 135 * k
  | 0 => by simp [frs]
  | k + 1 => by
    have := frs_length T z k
    have := bf_length T (blk_le z k)
    rw [frs_succ, List.length_append]; omega
theorem frs_bytes (T : Nat → Nat) {z : List Int} (h : Bytes z) : ∀ k, Bytes (frs T z k)
  | 0 => Bytes.nil
  | k + 1 => (frs_bytes T h k).append (bf_bytes T (blk_bytes h k))
theorem frs_append (T : Nat → Nat) (z y : List Int) : ∀ k, 128 * k ≤ z.length → frs T (z ++ y) k = frs T z k
  | 0, _ => rfl
  | k + 1, h => by rw [frs_succ, frs_succ, frs_append T z y k (by omega), blk_append z y k h]
/-- The frames of all blocks, and what is left. -/
def run (T : Nat → Nat) (z : List Int) : List Int := frs T z (z.length / 128)
def tl (z : List Int) : List Int := z.drop (128 * (z.length / 128))
theorem tl_length (z : List Int) : (tl z).length = z.length % 128 := by unfold tl; rw [List.length_drop]; omega
theorem run_nil (T : Nat → Nat) (z : List Int) : run T z = [] ↔ z.length / 128 = 0 := by
  have := frs_length T z (z.length / 128)
  unfold run
  refine ⟨fun h => ?_, fun h => by rw [h]; rfl⟩
  rw [h] at this; simp at this; omega
theorem run_bytes (T : Nat → Nat) {z : List Int} (h : Bytes z) : Bytes (run T z) := frs_bytes T h _
theorem run_length (T : Nat → Nat) (z : List Int) : 3 * (z.length / 128) ≤ (run T z).length ∧ (run T z).length ≤ 135 * (z.length / 128) := frs_length T z _
/-- Files' frames that are there, each with its place, the first ones first. -/
abbrev Wm := List (List Int × Nat)
def look (M : Wm) (r : List Int) : Option Nat := (M.find? (fun p => decide (p.1 = r))).map (·.2)
theorem look_mem {M : Wm} {r : List Int} {a : Nat} (h : look M r = some a) : (r, a) ∈ M := by
  unfold look at h
  cases hf : M.find? (fun p => decide (p.1 = r)) with
  | none => rw [hf] at h; simp at h
  | some p =>
    rw [hf] at h
    have h1 := List.find?_some hf
    have h2 := List.mem_of_find?_eq_some hf
    simp at h h1
    rw [← h1, ← h]; exact h2
theorem look_app_none {M : Wm} {r : List Int} {a : Nat} (h : look M r = none) : look (M ++ [(r, a)]) r = some a := by
  unfold look at h ⊢
  rw [List.find?_append]
  cases hf : M.find? (fun p => decide (p.1 = r)) with
  | none => simp
  | some p => rw [hf] at h; simp at h
theorem look_app_other {M : Wm} {r s : List Int} {a : Nat} (h : s ≠ r) : look (M ++ [(r, a)]) s = look M s := by
  unfold look
  rw [List.find?_append]
  cases hf : M.find? (fun p => decide (p.1 = s)) with
  | none => simp [Ne.symm h]
  | some p => simp
/-- What a writer has: all that was laid down, and the files' frames. -/
abbrev Ws := List Int × Wm
/-- Add, of frames: the place, and what the writer has behind it. -/
def addA (first : Nat) (s : Ws) (r : List Int) : Nat := if r = [] then 0 else match look s.2 r with
  | some a => a
  | none => first + s.1.length
def addS (first : Nat) (s : Ws) (r : List Int) : Ws := if r = [] then s else match look s.2 r with
  | some _ => s
  | none => (s.1 ++ r, s.2 ++ [(r, first + s.1.length)])
theorem add_nil (first : Nat) (s : Ws) : addA first s [] = 0 ∧ addS first s [] = s := ⟨by simp [addA], by simp [addS]⟩
theorem add_some {first : Nat} {s : Ws} {r : List Int} {a : Nat} (hr : r ≠ []) (h : look s.2 r = some a) : addA first s r = a ∧ addS first s r = s := ⟨by simp [addA, hr, h], by simp [addS, hr, h]⟩
theorem add_none {first : Nat} {s : Ws} {r : List Int} (hr : r ≠ []) (h : look s.2 r = none) : addA first s r = first + s.1.length ∧ addS first s r = (s.1 ++ r, s.2 ++ [(r, first + s.1.length)]) := ⟨by simp [addA, hr, h], by simp [addS, hr, h]⟩
theorem hol_all {b : List Int} (h : hol b = true) : b = List.replicate b.length 0 := by
  refine List.eq_replicate_iff.2 ⟨rfl, fun x hx => ?_⟩
  have := List.all_eq_true.1 h x hx
  simpa using this
theorem blk_full {z : List Int} {k : Nat} (h : 128 * (k + 1) ≤ z.length) : (blk z k).length = 128 := by rw [blk_length]; omega
end Go.Proofs.YtchcejjoncihkaaGreatDoor.Dat

/- Ints in memory that came in. Nothing here speaks of one function of the program. -/
namespace Go.Proofs.YtchcejjoncihkaaGreatDoor
set_option linter.unusedVariables false
set_option maxRecDepth 100000
open Go.RowKit Go.Maps Go.ChangeShapes Go.WideShapes Go.ChangeAt

/-- A slice of ints in memory. -/
def IntsB (w : World) (a : Option Addr) (len cap : Nat) (Z : Nat → Int) : Prop :=
  len ≤ 9223372036854775807 ∧ (len = 0 ∨ ∃ b off, a = some ⟨b, off, none⟩ ∧ b < w.heap.size ∧ ∀ i, i < len → w.cell? ⟨b, off + i, none⟩ = some (.int .i64 (Z i)) ∧ In64 (Z i))
theorem IntsB.below {w w' : World} {a : Option Addr} {len cap : Nat} {Z : Nat → Int} (h : IntsB w a len cap Z) (hb : Below w.heap.size w w') : IntsB w' a len cap Z := by
  refine ⟨h.1, ?_⟩
  rcases h.2 with h0 | ⟨b, off, h1, h2, h3⟩
  · exact .inl h0
  · exact .inr ⟨b, off, h1, Nat.lt_of_lt_of_le h2 hb.size, fun i hi => ⟨(hb.cell (by exact h2)).trans (h3 i hi).1, (h3 i hi).2⟩⟩
theorem open_ints' {H : Type} {enc : TypeId × Value → H} {W : World} {base : Nat} {v : Value} {d : DataW H} {p : List MemPlace} (hok : Value.okWide Tryz.prog W .any base 31 v)
    (h : DataW.Trod enc Tryz.prog W 0 (fun _ => true) true 31 v d p) : ∃ a len cap Z, v = .slice a len cap ∧ IntsB W a len cap Z := by
  obtain ⟨a, len, cap, rfl⟩ := okWide_slice Tryz.underlying31 hok
  obtain ⟨fuel, hf⟩ := h
  rcases open_ints Tryz.underlying31 Tryz.underlying3 (by kernel_rfl) hf with ⟨hcs, _⟩ | ⟨x, l, c, zs, hcs, _, hl, hm, hz, _, hcell, hwz⟩
  · simp [Value.cells] at hcs
    obtain ⟨rfl, rfl, rfl⟩ := hcs
    exact ⟨none, 0, 0, fun _ => 0, rfl, by omega, .inl rfl⟩
  · simp [Value.cells] at hcs
    obtain ⟨rfl, rfl, rfl⟩ := hcs
    have hz' : zs.length = cap := by simpa using hz
    refine ⟨_, len, cap, fun i => zs.getD i 0, rfl, by unfold maxLen at hm; omega, ?_⟩
    by_cases e : len = 0
    · exact .inl e
    · obtain ⟨b, off, spot⟩ := x
      have h00 := hcell 0 (by omega)
      have hspot : spot = none := by simpa [Addr.add] using World.cell?_spot h00
      subst hspot
      have hlt : b < W.heap.size := by
        have := World.block_lt_of_cell? W _ h00
        simpa [Addr.add] using this
      refine .inr ⟨b, off, rfl, hlt, fun i hi => ?_⟩
      have h1 := hcell i (by omega)
      rw [Addr.add_lit] at h1
      refine ⟨h1, wf_i64_bd (hwz _ ?_)⟩
      have hi2 : i < zs.length := by omega
      simp only [List.getD, List.getElem?_eq_getElem hi2, Option.getD_some]
      exact List.getElem_mem hi2
end Go.Proofs.YtchcejjoncihkaaGreatDoor

/- Rows of ints: of the call's own, and to be read. Nothing here speaks of one function of the program. -/
namespace Go.Proofs.YtchcejjoncihkaaGreatDoor
set_option linter.unusedVariables false
open Go.RowKit Go.Maps
open Lz (g)

/-- Numbers as cells. -/
def zv (l : List Int) : List Value := l.map (Value.int .i64)
theorem zv_length (l : List Int) : (zv l).length = l.length := by simp [zv]
theorem zv_append (l m : List Int) : zv (l ++ m) = zv l ++ zv m := by simp [zv]
theorem zv_set (l : List Int) (i : Nat) (x : Int) : (zv l).set i (.int .i64 x) = zv (l.set i x) := by simp [zv, List.map_set]
/-- A slice of ints that may be read. -/
def Zs (w : World) (ao : Option Addr) (n : Nat) (l : List Int) : Prop :=
  l.length = n ∧ (n = 0 ∨ ∃ b off, ao = some ⟨b, off, none⟩ ∧ b < w.heap.size ∧ ∀ i, i < n → w.cell? ⟨b, off + i, none⟩ = some (.int .i64 (g l i)))
theorem Zs.below {w w' : World} {ao : Option Addr} {n : Nat} {l : List Int} (h : Zs w ao n l) (hb : Below w.heap.size w w') : Zs w' ao n l := by
  refine ⟨h.1, ?_⟩
  rcases h.2 with h0 | ⟨b, off, h1, h2, h3⟩
  · exact .inl h0
  · exact .inr ⟨b, off, h1, Nat.lt_of_lt_of_le h2 hb.size, fun i hi => (hb.cell (by exact h2)).trans (h3 i hi)⟩
theorem Zs.at {w : World} {ao : Option Addr} {n : Nat} {l : List Int} (h : Zs w ao n l) (hn : 0 < n) : ∃ b off, ao = some ⟨b, off, none⟩ ∧ b < w.heap.size ∧ ∀ i, i < n → w.cell? ⟨b, off + i, none⟩ = some (.int .i64 (g l i)) := by
  rcases h.2 with h0 | h1
  · omega
  · exact h1
theorem g_get (l : List Int) (i : Nat) (h : i < l.length) : g l i = l[i] := by simp [g, h]
theorem Zs.of {w : World} {B n c : Nat} {ao : Option Addr} {l : List Int} (h : w.ownsRow B 3 1 (.slice ao n c) n (zv l)) : Zs w ao n l := by
  have hl : l.length = n := by have := h.1; simpa [zv] using this
  refine ⟨hl, ?_⟩
  by_cases hm0 : n = 0
  · exact .inl hm0
  · obtain ⟨b, c', hv, hg, _⟩ := h.form (by omega)
    obtain ⟨rfl, rfl⟩ : ao = some ⟨b, 0, none⟩ ∧ c = c' := by simpa using hv
    refine .inr ⟨b, 0, rfl, (h.lt b rfl).2, fun i hi => ?_⟩
    rw [Nat.zero_add, h.cellAt i (by omega)]
    simp [zv, g, hl, hi]
theorem infoNum : (Tryz.prog.info? 3).map (fun i => (i.zero, i.size, i.bytes)) = some (some (.int .i64 0), 1, 8) := by kernel_rfl
/-- 'append' of one number to a row of the call's own, and where the row lies. -/
theorem wpList_append_num_at (w : World) {ops : Array Oper} {rest : List Oper} {o : Oper} {a : Act} {Q : Exit → Act → World → Prop} (hgd : o.guard = none) (s x : Operand)
    (ho : o.op = .call { callee := .builtin .append, args := #[s, x], argTypes := #[31, 31] })
    (base : Nat) (vo : Option Addr) (n vc : Nat) (l : List Int) (hs : a.eval s = .slice vo n vc) (hown : w.ownsRow base 3 1 (.slice vo n vc) n (zv l))
    (p : Nat) (t : Int) (hx : a.eval x = .slice (some ⟨p, 0, none⟩) 1 1) (hp : w.cell? ⟨p, 0, none⟩ = some (.int .i64 t))
    (hbd : n + 1 ≤ 100000000) (hbase : base ≤ w.heap.size)
    (h : ∀ b' c' w', w'.ownsRow base 3 1 (.slice (some ⟨b', 0, none⟩) (n + 1) c') (n + 1) (zv (l ++ [t])) → w.grownBy w' (Value.slice vo n vc).ownBlock → ((Value.slice vo n vc).ownBlock = some b' ∨ b' = w.heap.size) → wpList Tryz.prog ops Q rest (a.put o.dst (.slice (some ⟨b', 0, none⟩) (n + 1) c')) w') :
    wpList Tryz.prog ops Q (o :: rest) a w := by
  obtain ⟨i0, hi, hz0, hz1, hz2⟩ := info_parts infoNum
  refine wpList_append_own_at w hgd s x _ ho base 3 i0 (.int .i64 0) 1 8 Tryz.underlying31 hi hz0 hz1 hz2 rfl (by decide) _ n _ hs hown ⟨p, 0, none⟩ 1 1 [.int .i64 t] hx (by simp) ?_ (by simp; rfl) (by unfold maxLen; omega) (by omega) hbase ?_
  · intro j u hj
    match j, hj with
    | 0, hj => simp at hj; subst hj; simpa [Addr.add] using hp
  · intro v' w' h2 h3 _ h5
    obtain ⟨g', c', rfl, _⟩ := h2.form (by omega)
    refine h g' c' w' (by rw [zv_append]; exact h2) h3 ?_
    rcases h5 with h5 | h5
    · exact .inl h5.symm
    · exact .inr (by simpa [Value.ownBlock] using h5)
end Go.Proofs.YtchcejjoncihkaaGreatDoor

/- Layer 13: tails that are packed into blocks, as pure functions: what Add answers and leaves; what was added stands there; what Read answers. -/
namespace Go.Proofs.YtchcejjoncihkaaGreatDoor.Frg
set_option linter.unusedVariables false
open Lz (g)
open Frm

/-- The blocks. -/
abbrev Bl := List (List Int)
/-- How many bytes each block has. -/
def szs (L : Bl) : List Int := L.map fun b => (b.length : Int)
theorem szs_length (L : Bl) : (szs L).length = L.length := by simp [szs]
theorem szs_append (A B : Bl) : szs (A ++ B) = szs A ++ szs B := by simp [szs]
theorem szs_one (b : List Int) : szs [b] = [(b.length : Int)] := rfl
theorem szs_at (L : Bl) (i : Nat) (h : i < L.length) : g (szs L) i = (L[i].length : Int) := by simp [szs, g, h]
/-- The last block. -/
def top (L : Bl) : List Int := L.getLastD []
theorem top_app (K : Bl) (t : List Int) : top (K ++ [t]) = t := by simp [top]
/-- Add: the blocks behind it, the number, the place. -/
def add (L : Bl) (z : List Int) : Bl × Nat × Nat :=
  if z.length < 1 ∨ 128 ≤ z.length then (L, 0, 0)
  else if L.length = 0 ∨ 128 < (top L).length + z.length then (L ++ [z], L.length + 1, 0)
  else (L.dropLast ++ [top L ++ z], L.length, (top L).length)
theorem split_last (L : Bl) (h : L.length ≠ 0) : ∃ K t, L = K ++ [t] :=
  ⟨L.dropLast, L.getLast (fun e => h (by rw [e]; rfl)), (List.dropLast_concat_getLast _).symm⟩
theorem add_bad {L : Bl} {z : List Int} (h : z.length < 1 ∨ 128 ≤ z.length) : add L z = (L, 0, 0) := by unfold add; rw [if_pos h]
theorem add_new {L : Bl} {z : List Int} (h : ¬ (z.length < 1 ∨ 128 ≤ z.length)) (h2 : L.length = 0 ∨ 128 < (top L).length + z.length) : add L z = (L ++ [z], L.length + 1, 0) := by unfold add; rw [if_neg h, if_pos h2]
theorem add_in {K : Bl} {t z : List Int} (h : ¬ (z.length < 1 ∨ 128 ≤ z.length)) (h2 : t.length + z.length ≤ 128) : add (K ++ [t]) z = (K ++ [t ++ z], K.length + 1, t.length) := by
  unfold add
  rw [if_neg h, if_neg (by rw [top_app]; simp; omega), top_app]
  simp
theorem add_cases (L : Bl) (z : List Int) : ((z.length < 1 ∨ 128 ≤ z.length) ∧ add L z = (L, 0, 0)) ∨
    (¬ (z.length < 1 ∨ 128 ≤ z.length) ∧ (L = [] ∨ ∃ K t, L = K ++ [t] ∧ 128 < t.length + z.length) ∧ add L z = (L ++ [z], L.length + 1, 0)) ∨
    (¬ (z.length < 1 ∨ 128 ≤ z.length) ∧ ∃ K t, L = K ++ [t] ∧ t.length + z.length ≤ 128 ∧ add L z = (K ++ [t ++ z], K.length + 1, t.length)) := by
  by_cases h : z.length < 1 ∨ 128 ≤ z.length
  · exact .inl ⟨h, add_bad h⟩
  · by_cases h0 : L.length = 0
    · exact .inr (.inl ⟨h, .inl (List.eq_nil_of_length_eq_zero h0), add_new h (.inl h0)⟩)
    · obtain ⟨K, t, rfl⟩ := split_last L h0
      by_cases h2 : 128 < t.length + z.length
      · exact .inr (.inl ⟨h, .inr ⟨K, t, rfl, h2⟩, add_new h (.inr (by rw [top_app]; exact h2))⟩)
      · exact .inr (.inr ⟨h, K, t, rfl, by omega, add_in h (by omega)⟩)
/-- Each block has bytes, 128 at most. -/
def Ok (L : Bl) : Prop := ∀ b ∈ L, 1 ≤ b.length ∧ b.length ≤ 128
theorem ok_nil : Ok [] := fun b hb => by simp at hb
theorem ok_add {L : Bl} (h : Ok L) (z : List Int) : Ok (add L z).1 := by
  rcases add_cases L z with ⟨_, e⟩ | ⟨h1, _, e⟩ | ⟨h1, K, t, rfl, h2, e⟩
  · rw [e]; exact h
  · rw [e]
    intro b hb
    rcases List.mem_append.1 hb with hb | hb
    · exact h b hb
    · obtain rfl : b = z := by simpa using hb
      omega
  · rw [e]
    intro b hb
    rcases List.mem_append.1 hb with hb | hb
    · exact h b (by simp [hb])
    · obtain rfl : b = t ++ z := by simpa using hb
      rw [List.length_append]; omega
theorem add_length (L : Bl) (z : List Int) : L.length ≤ (add L z).1.length ∧ (add L z).1.length ≤ L.length + 1 := by
  rcases add_cases L z with ⟨_, e⟩ | ⟨h1, _, e⟩ | ⟨h1, K, t, rfl, h2, e⟩
  · rw [e]; simp
  · rw [e]; simp
  · rw [e]; simp
theorem add_flat (L : Bl) (z : List Int) : (add L z).1.flatten.length ≤ L.flatten.length + z.length := by
  rcases add_cases L z with ⟨_, e⟩ | ⟨h1, _, e⟩ | ⟨h1, K, t, rfl, h2, e⟩
  · rw [e]; simp
  · rw [e]; simp
  · rw [e]; simp; omega
end Go.Proofs.YtchcejjoncihkaaGreatDoor.Frg

/- MetJoin: MetPure, MetWrite, MetAdd, MetReader, MetOpen, MetTake, MetMiss, MetPart, MetRead, as one text. -/

/- Rows of bytes in frames, as pure functions: the frames of what was added, refs, what is read at a ref. -/
namespace Go.Proofs.YtchcejjoncihkaaGreatDoor.Mtr
set_option linter.unusedVariables false
open Lz (g pack)
open Crc (ent more)
open Cur (le by')
open Frm

/-- The frames of the first k blocks. -/
def fr (T : Nat → Nat) (z : List Int) : Nat → List Int
  | 0 => []
  | k + 1 => fr T z k ++ put T (blk z k)
theorem fr_succ (T : Nat → Nat) (z : List Int) (k : Nat) : fr T z (k + 1) = fr T z k ++ put T (blk z k) := rfl
theorem fr_append (T : Nat → Nat) (z y : List Int) : ∀ k, 128 * k ≤ z.length → fr T (z ++ y) k = fr T z k
  | 0, _ => rfl
  | k + 1, h => by rw [fr_succ, fr_succ, fr_append T z y k (by omega), blk_append z y k h]
theorem fr_length (T : Nat → Nat) (z : List Int) : ∀ k, (fr T z k).length ≤ 135 * k
  | 0 => by simp [fr]
  | k + 1 => by
    have := fr_length T z k
    have := (put_length (T := T) (blk_le z k)).2.2
    rw [fr_succ, List.length_append]; omega
/-- What is not framed yet. -/
def rest (z : List Int) : List Int := z.drop (128 * (z.length / 128))
theorem rest_length (z : List Int) : (rest z).length = z.length % 128 := by unfold rest; rw [List.length_drop]; omega
theorem rest_blk (z : List Int) : blk z (z.length / 128) = rest z := by
  have := rest_length z
  unfold blk; rw [List.take_of_length_le]
  · rfl
  · unfold rest at this; omega
/-- The frames of all. -/
def done (T : Nat → Nat) (z : List Int) : List Int := fr T z ((z.length + 127) / 128)
theorem done_full (T : Nat → Nat) {z : List Int} (h : rest z = []) : done T z = fr T z (z.length / 128) := by
  have h1 := rest_length z
  rw [h] at h1
  simp at h1
  unfold done; rw [show (z.length + 127) / 128 = z.length / 128 by omega]
theorem done_part (T : Nat → Nat) {z : List Int} (h : rest z ≠ []) : done T z = fr T z (z.length / 128) ++ put T (rest z) := by
  have h1 := rest_length z
  have h2 : 0 < (rest z).length := List.length_pos_iff.2 h
  unfold done; rw [show (z.length + 127) / 128 = z.length / 128 + 1 by omega, fr_succ, rest_blk]
/-- The ref of the byte j. -/
def rf (T : Nat → Nat) (z : List Int) (j : Nat) : Int := 256 * ((fr T z (j / 128)).length : Nat) + ((j % 128 : Nat) : Int)
end Go.Proofs.YtchcejjoncihkaaGreatDoor.Mtr

/- The program's writer of rows: its state in memory, and the walks of New, refOf, split, frameOf, Add and Done. -/
namespace Go.Proofs.YtchcejjoncihkaaGreatDoor
set_option linter.unusedVariables false
open Go.RowKit Go.Maps
open Lz (g)
open Crc (ent)
open Frm Mtr

theorem refOf_any (p n : Int) (w : World) (hp : 0 ≤ p ∧ p ≤ 1000000000000) (hn : 0 ≤ n ∧ n ≤ 1000000000000) :
    Calls Tryz.prog 124 #[.int .i64 p, .int .i64 n] w fun r w' => r = .returned (.int .i64 (256 * p + n)) ∧ w' = w := by
  go_enter Tryz.func124, Tryz.ntmps124
  go_wp2
  go_ret
  refine ⟨ret_int ?_, rfl⟩
  omega
/-- The writer's block. -/
def Wd (w : World) (p tb : Nat) (fo : Option Addr) (fn fc : Nat) (ro : Option Addr) (rn rc : Nat) : Prop := w.heap[p]? = some (.cells #[.pointer (some ⟨tb, 0, none⟩), .slice fo fn fc, .slice ro rn rc] 124 (0, 0))
section
variable {w w' : World} {p tb fn fc rn rc : Nat} {fo ro : Option Addr}
theorem Wd.lt (h : Wd w p tb fo fn fc ro rn rc) : p < w.heap.size := heap_lt h
theorem Wd.c0 (h : Wd w p tb fo fn fc ro rn rc) : w.cell? ⟨p, 0, none⟩ = some (.pointer (some ⟨tb, 0, none⟩)) := by unfold Wd at h; simp [World.cell?, h]
theorem Wd.c1 (h : Wd w p tb fo fn fc ro rn rc) : w.cell? ⟨p, 1, none⟩ = some (.slice fo fn fc) := by unfold Wd at h; simp [World.cell?, h]
theorem Wd.c2 (h : Wd w p tb fo fn fc ro rn rc) : w.cell? ⟨p, 2, none⟩ = some (.slice ro rn rc) := by unfold Wd at h; simp [World.cell?, h]
theorem Wd.f (h : Wd w p tb fo fn fc ro rn rc) (i : Nat) : w.frozen? ⟨p, i, none⟩ = false := by unfold Wd at h; simp [World.frozen?, h]
theorem Wd.set1 (h : Wd w p tb fo fn fc ro rn rc) (fo' : Option Addr) (fn' fc' : Nat) : Wd (w.setCell ⟨p, 1, none⟩ (.slice fo' fn' fc')) p tb fo' fn' fc' ro rn rc := by
  unfold Wd; rw [heap_setCell_self h]; rfl
theorem Wd.set2 (h : Wd w p tb fo fn fc ro rn rc) (ro' : Option Addr) (rn' rc' : Nat) : Wd (w.setCell ⟨p, 2, none⟩ (.slice ro' rn' rc')) p tb fo fn fc ro' rn' rc' := by
  unfold Wd; rw [heap_setCell_self h]; rfl
theorem Wd.fr {S : Nat → Prop} (h : Wd w p tb fo fn fc ro rn rc) (hf : Fr S w w') (hn : ¬ S p) : Wd w' p tb fo fn fc ro rn rc := (hf.block p h.lt hn).trans h
theorem Wd.ne {t : TypeId} {cur : Array Value} {k : Nat} (h : Wd w p tb fo fn fc ro rn rc) (hk : w.heap[k]? = some (.cells cur t (0, 0))) (ht : t ≠ 124) : k ≠ p := fun e => by
  subst e; unfold Wd at h; rw [h] at hk; simp at hk; exact ht hk.2.symm
end
/-- The writer: what it has framed, and what it has not; O: the blocks that are its own. -/
def WrM (w : World) (p : Nat) (O : Nat → Prop) (tb : Nat) (F R : List Int) : Prop :=
  ∃ fo fn fc ro rn rc, Wd w p tb fo fn fc ro rn rc ∧ O p ∧ Rw w 0 fo fn fc F ∧ Rw w 0 ro rn rc R ∧
    (∀ k, (Value.slice fo fn fc).ownBlock = some k → O k ∧ (Value.slice ro rn rc).ownBlock ≠ some k) ∧ (∀ k, (Value.slice ro rn rc).ownBlock = some k → O k) ∧ (∀ k, O k → k < w.heap.size)
theorem WrM.fr {S : Nat → Prop} {w w' : World} {p tb : Nat} {O : Nat → Prop} {F R : List Int} (h : WrM w p O tb F R) (hf : Fr S w w') (hn : ∀ k, O k → ¬ S k) : WrM w' p O tb F R := by
  obtain ⟨fo, fn, fc, ro, rn, rc, h1, h2, h3, h4, h5, h6, h7⟩ := h
  exact ⟨fo, fn, fc, ro, rn, rc, h1.fr hf (hn _ h2), h2, h3.fr hf (fun k hk => hn _ (h5 k hk).1), h4.fr hf (fun k hk => hn _ (h6 k hk)), h5, h6, fun k hk => Nat.lt_of_lt_of_le (h7 k hk) hf.size⟩
theorem WrM.below {w w' : World} {p tb : Nat} {O : Nat → Prop} {F R : List Int} (h : WrM w p O tb F R) (hb : Below w.heap.size w w') : WrM w' p O tb F R := h.fr (Fr.of_below (S := fun _ => False) hb) (fun _ _ h => h)
theorem WrM.lt {w : World} {p tb : Nat} {O : Nat → Prop} {F R : List Int} (h : WrM w p O tb F R) : p < w.heap.size ∧ O p := by
  obtain ⟨fo, fn, fc, ro, rn, rc, h1, h2, _⟩ := h
  exact ⟨h1.lt, h2⟩
theorem WrM.olt {w : World} {p tb : Nat} {O : Nat → Prop} {F R : List Int} (h : WrM w p O tb F R) : ∀ k, O k → k < w.heap.size := by
  obtain ⟨fo, fn, fc, ro, rn, rc, h1, h2, h3, h4, h5, h6, h7⟩ := h
  exact h7

theorem metaNew_any (tb : Nat) (w : World) : Calls Tryz.prog 55 #[.pointer (some ⟨tb, 0, none⟩)] w fun r w' => r = .returned (.pointer (some ⟨w.heap.size, 0, none⟩)) ∧ WrM w' w.heap.size (fun k => k = w.heap.size) tb [] [] ∧ Below w.heap.size w w' ∧ w'.heap.size = w.heap.size + 1 := by
  go_enter Tryz.func55, Tryz.ntmps55
  go_wp2
  go_ret
  refine ⟨rfl, ⟨none, 0, 0, none, 0, 0, heap_alloc_new w _, rfl, Rw.none _ _, Rw.none _ _, fun k hk => by simp [Value.ownBlock] at hk, fun k hk => by simp [Value.ownBlock] at hk, fun k hk => by subst hk; simp⟩, (Below.refl _ _).alloc (Nat.le_refl _) _, by simp⟩

set_option maxRecDepth 100000 in
theorem frameOf_any (p tb n c fn fc rn rc : Nat) (fo ro ao : Option Addr) (T : Nat → Nat) (zs : List Int) (w : World) (h : Wd w p tb fo fn fc ro rn rc) (hT : Tb w tb T) (htb : tb < w.heap.size) (hS : Small T) (hb : Bs w ao n zs) (hc : n ≤ c) (hnil : ao = none → c = 0) (hn : n ≤ 128) :
    Calls Tryz.prog 68 #[.pointer (some ⟨p, 0, none⟩), .slice ao n c] w fun r w' => ∃ ao' c', r = .returned (.slice ao' (put T zs).length c') ∧ New w w' ao' (put T zs).length c' (put T zs) := by
  have h0 := h.c0
  have H := hide (Put_any tb n c T ao zs w hT htb hS hb hc hnil (by omega))
  have HZ := hide hb.1
  clear h hT hS hb hnil
  go_enter Tryz.func68, Tryz.ntmps68
  go_wp2_with fail
  refine H.out.mono ?_
  rintro r w1 (⟨h, _⟩ | ⟨_, ao', c', rfl, hN⟩)
  · rw [HZ.out] at h; omega
  have HN := hide hN
  clear hN H
  go_wp2
  go_ret
  exact ⟨_, _, rfl, HN.out⟩
end Go.Proofs.YtchcejjoncihkaaGreatDoor

/- The walks of the writer's Add and Done. -/
namespace Go.Proofs.YtchcejjoncihkaaGreatDoor
set_option linter.unusedVariables false
open Go.RowKit Go.Maps
open Lz (g)
open Crc (ent)
open Frm Mtr

/-- How long the rest is. -/
def lenAt (w : World) (p : Nat) : Nat := match w.cell? ⟨p, 2, none⟩ with | some (.slice _ n _) => n | _ => 0
theorem Wd.len {w : World} {p tb fn fc rn rc : Nat} {fo ro : Option Addr} (h : Wd w p tb fo fn fc ro rn rc) : lenAt w p = rn := by unfold lenAt; rw [h.c2]
/-- Behind one frame more. -/
theorem wr_frame {w w1 w2 : World} {p tb fn fc rn rc m c2 c3 : Nat} {fo ro ao2 ao3 : Option Addr} {O : Nat → Prop} {F R P : List Int}
    (hd : Wd w p tb fo fn fc ro rn rc) (hO : O p) (hF : Rw w 0 fo fn fc F) (hR : Rw w 0 ro rn rc R) (h5 : ∀ k, (Value.slice fo fn fc).ownBlock = some k → O k ∧ (Value.slice ro rn rc).ownBlock ≠ some k) (h6 : ∀ k, (Value.slice ro rn rc).ownBlock = some k → O k)
    (hN : New w w1 ao2 m c2 P) (hA : Rw w2 0 ao3 (fn + m) c3 (F ++ P)) (hg : w1.grownBy w2 (Value.slice fo fn fc).ownBlock) (hl : Lie w1 (.slice fo fn fc) (.slice ao3 (fn + m) c3)) (h128 : 128 ≤ rn) (h7 : ∀ k, O k → k < w.heap.size) :
    ∃ O', WrM ((w2.setCell ⟨p, 1, none⟩ (.slice ao3 (fn + m) c3)).setCell ⟨p, 2, none⟩ (.slice (if rc = 128 then ro else Option.map (fun x => x.add 128) ro) (rn - 128) (rc - 128))) p O' tb (F ++ P) (R.drop 128) ∧
      Fr O w ((w2.setCell ⟨p, 1, none⟩ (.slice ao3 (fn + m) c3)).setCell ⟨p, 2, none⟩ (.slice (if rc = 128 then ro else Option.map (fun x => x.add 128) ro) (rn - 128) (rc - 128))) ∧ Gr O O' w := by
  have f1 : Fr (fun _ => False) w w1 := Fr.of_below hN.bel
  have hd1 : Wd w1 p tb fo fn fc ro rn rc := hd.fr f1 id
  have hR1 : Rw w1 0 ro rn rc R := hR.fr f1 (fun _ _ => id)
  have hF1 : Rw w1 0 fo fn fc F := hF.fr f1 (fun _ _ => id)
  have f2 : Fr (fun k => (Value.slice fo fn fc).ownBlock = some k) w1 w2 := Fr.of_grown hg (fun k hk => hk)
  have hd2 : Wd w2 p tb fo fn fc ro rn rc := hd1.fr f2 (fun hk => by
    obtain ⟨_, _, cur, hc⟩ := hF1.own hk
    exact hd1.ne hc (by decide) rfl)
  have hR2 : Rw w2 0 ro rn rc R := hR1.fr f2 (fun k hk hx => (h5 k hx).2 hk)
  have hd4 := (hd2.set1 ao3 (fn + m) c3).set2 (if rc = 128 then ro else Option.map (fun x => x.add 128) ro) (rn - 128) (rc - 128)
  have fs : Fr (One p) w2 ((w2.setCell ⟨p, 1, none⟩ (.slice ao3 (fn + m) c3)).setCell ⟨p, 2, none⟩ (.slice (if rc = 128 then ro else Option.map (fun x => x.add 128) ro) (rn - 128) (rc - 128))) :=
    ((Fr.refl (One p) _).set (p := ⟨p, 1, none⟩) _ (fun _ => rfl)).set (p := ⟨p, 2, none⟩) _ (fun _ => rfl)
  have hn3 : ∀ k, (Value.slice ao3 (fn + m) c3).ownBlock = some k → ¬ One p k := fun k hk hx => by
    obtain ⟨_, _, cur, hc⟩ := hA.own hk
    exact hd2.ne hc (by decide) hx
  have hn4 : ∀ k, (Value.slice ro rn rc).ownBlock = some k → ¬ One p k := fun k hk hx => by
    obtain ⟨_, _, cur, hc⟩ := hR2.own hk
    exact hd2.ne hc (by decide) hx
  have hR3 := (hR2.fr fs hn4).drop 128 (by have := hR.1; omega)
  have hs1 := hN.bel.size
  have hs2 := hg.size
  refine ⟨fun k => O k ∨ (w.heap.size ≤ k ∧ k < w2.heap.size), ⟨ao3, fn + m, c3, _, _, _, hd4, .inl hO, hA.fr fs hn3, hR3, fun k hk => ⟨?_, fun hx => ?_⟩, fun k hk => .inl (h6 k (rw_own_drop ro rn rc _ _ 128 k hk)), fun k hk => ?_⟩, ?_, fun k hk => hk.imp id (fun h => h.1)⟩
  · rcases hl k hk with h | h
    · exact .inl (h5 k h).1
    · exact .inr ⟨Nat.le_trans hN.bel.size h, (hA.own hk).2.1⟩
  · have hx' := rw_own_drop ro rn rc _ _ 128 k hx
    rcases hl k hk with h | h
    · exact (h5 k h).2 hx'
    · have := (hR1.own hx').2.1; omega
  · have hs4 := fs.size
    rcases hk with hk | hk
    · have := h7 k hk; omega
    · omega
  · have fO : Fr O w w2 := (f1.mono (S' := O) (fun _ _ h => h.elim)).trans f2 (fun i _ hi => (h5 i hi).1)
    exact fO.trans fs (fun i _ (hi : i = p) => by rw [hi]; exact hO)

/-- Behind what was added to the rest. -/
theorem wr_rest {w w1 : World} {p tb fn fc rn rc m c1 : Nat} {fo ro ao1 : Option Addr} {O : Nat → Prop} {F R Z : List Int}
    (hd : Wd w p tb fo fn fc ro rn rc) (hO : O p) (hF : Rw w 0 fo fn fc F) (hR : Rw w 0 ro rn rc R) (h5 : ∀ k, (Value.slice fo fn fc).ownBlock = some k → O k ∧ (Value.slice ro rn rc).ownBlock ≠ some k) (h6 : ∀ k, (Value.slice ro rn rc).ownBlock = some k → O k)
    (hA : Rw w1 0 ao1 m c1 (R ++ Z)) (hg : w.grownBy w1 (Value.slice ro rn rc).ownBlock) (hl : Lie w (.slice ro rn rc) (.slice ao1 m c1)) (h7 : ∀ k, O k → k < w.heap.size) :
    Wd w1 p tb fo fn fc ro rn rc ∧ ∃ O', WrM (w1.setCell ⟨p, 2, none⟩ (.slice ao1 m c1)) p O' tb F (R ++ Z) ∧ Fr O w (w1.setCell ⟨p, 2, none⟩ (.slice ao1 m c1)) ∧ Gr O O' w := by
  have f2 : Fr (fun k => (Value.slice ro rn rc).ownBlock = some k) w w1 := Fr.of_grown hg (fun k hk => hk)
  have hd2 : Wd w1 p tb fo fn fc ro rn rc := hd.fr f2 (fun hk => by
    obtain ⟨_, _, cur, hc⟩ := hR.own hk
    exact hd.ne hc (by decide) rfl)
  have hF2 : Rw w1 0 fo fn fc F := hF.fr f2 (fun k hk hx => (h5 k hk).2 hx)
  have hd4 := hd2.set2 ao1 m c1
  have fs : Fr (One p) w1 (w1.setCell ⟨p, 2, none⟩ (.slice ao1 m c1)) := (Fr.refl (One p) _).set (p := ⟨p, 2, none⟩) _ (fun _ => rfl)
  have hn3 : ∀ k, (Value.slice ao1 m c1).ownBlock = some k → ¬ One p k := fun k hk hx => by
    obtain ⟨_, _, cur, hc⟩ := hA.own hk
    exact hd2.ne hc (by decide) hx
  have hn4 : ∀ k, (Value.slice fo fn fc).ownBlock = some k → ¬ One p k := fun k hk hx => by
    obtain ⟨_, _, cur, hc⟩ := hF2.own hk
    exact hd2.ne hc (by decide) hx
  have hs2 := hg.size
  refine ⟨hd2, fun k => O k ∨ (w.heap.size ≤ k ∧ k < w1.heap.size), ⟨fo, fn, fc, ao1, m, c1, hd4, .inl hO, hF2.fr fs hn4, hA.fr fs hn3, fun k hk => ⟨.inl (h5 k hk).1, fun hx => ?_⟩, fun k hk => ?_, fun k hk => ?_⟩, ?_, fun k hk => hk.imp id (fun h => h.1)⟩
  · rcases hl k hx with h | h
    · exact (h5 k hk).2 h
    · have := (hF.own hk).2.1; omega
  · rcases hl k hk with h | h
    · exact .inl (h6 k h)
    · exact .inr ⟨h, (hA.own hk).2.1⟩
  · have hs4 := fs.size
    rcases hk with hk | hk
    · have := h7 k hk; omega
    · omega
  · have fO : Fr O w w1 := f2.mono (fun i _ hi => h6 i hi)
    exact fO.trans fs (fun i _ (hi : i = p) => by rw [hi]; exact hO)
set_option maxRecDepth 100000 in
set_option maxHeartbeats 4000000 in
theorem Add_any (p tb n c : Nat) (O : Nat → Prop) (ao : Option Addr) (T : Nat → Nat) (z zs : List Int) (w : World) (h : WrM w p O tb (fr T z (z.length / 128)) (rest z)) (hT : Tb w tb T) (htb : tb < w.heap.size) (hOt : ¬ O tb) (hS : Small T)
    (hb : Bs w ao n zs) (hnil : ao = none → c = 0) (hz : z.length ≤ 100000) (hn : n ≤ 100000) :
    Calls Tryz.prog 63 #[.pointer (some ⟨p, 0, none⟩), .slice ao n c] w fun r w' => r = .returned (.int .i64 (rf T z z.length)) ∧ ∃ O', WrM w' p O' tb (fr T (z ++ zs) ((z ++ zs).length / 128)) (rest (z ++ zs)) ∧ Fr O w w' ∧ Gr O O' w := by
  obtain ⟨fo, fn, fc, ro, rn, rc, hd, hO, hF, hR, h5, h6, h7⟩ := h
  have H7 := hide h7
  have hfl := fr_length T z (z.length / 128)
  have hfn := hF.1
  have hrn := hR.1
  have hrl := rest_length z
  have hzl := hb.1
  have HRF : Hid (rf T z z.length = 256 * (fn : Int) + rn) := by
    show rf T z z.length = _
    unfold rf; omega
  have hfb : fn ≤ 110000 := by omega
  have hrb : rn < 128 := by omega
  have HF := hide hF
  have HR := hide hR
  have HD := hide hd
  have H5 := hide h5
  have H6 := hide h6
  have HT := hide hT
  have HO := hide hO
  have HOt := hide hOt
  have HS := hide hS
  have HB := hide hb
  have HN := hide hnil
  have c1 := hd.c1
  have c2 := hd.c2
  rw [HRF.out]
  clear hF hR hd h5 h6 h7 hT hO hOt hS hb hnil hfl hfn hrn hrl HRF
  go_enter Tryz.func63, Tryz.ntmps63
  go_wp2_with fail
  go_quiet ((first
    | (go_at_call 124; refine Calls.quiet_of_same (refOf_any fn rn _ (by omega) (by omega)))))
  have HRq : Hid (Rw (w.drewN nq) 0 ro rn rc (rest z)) := HR.out
  have HBq : Hid (Bs (w.drewN nq) ao n zs) := HB.out
  have c2q : (w.drewN nq).cell? ⟨p, 2, none⟩ = some (.slice ro rn rc) := c2
  clear c1 c2
  go_wp2_with (first
    | (at_builtin; refine wpList_append_rw _ rfl (.tmp 21) (.tmp 22) rfl 0 ro rn rc (rest z) rfl HRq.out ao n c zs rfl HBq.out HN.out (by omega) (Nat.zero_le _) ?_
       intro ao1 k1 w1 hA hg hl
       have HX := hide (wr_rest (w := w.drewN nq) HD.out HO.out HF.out HR.out H5.out H6.out hA hg hl H7.out)
       have c21 := HX.out.1.c2
       have f21 := HX.out.1.f 2
       clear hA hg hl))
  obtain ⟨_, O1, hW1, hF1, hG1⟩ := HX.out
  have hlz : (z ++ zs).length = z.length + n := by rw [List.length_append, hzl]
  have HL : Hid (∃ k O', WrM (w1.setCell ⟨p, 2, none⟩ (.slice ao1 (rn + n) k1)) p O' tb (fr T (z ++ zs) k) ((z ++ zs).drop (128 * k)) ∧ Fr O w (w1.setCell ⟨p, 2, none⟩ (.slice ao1 (rn + n) k1)) ∧ Gr O O' w ∧ 128 * k ≤ (z ++ zs).length) := by
    refine ⟨z.length / 128, O1, ?_, hF1.undrewN, hG1, by omega⟩
    rw [fr_append T z zs _ (by omega), List.drop_append_of_le_length (by omega)]
    exact hW1
  clear hW1 hF1 hG1 HX HF HR HD H5 H6 HRq HBq HB c2q c21 f21
  go_loopw [] (fun wr => ∃ k O', WrM wr p O' tb (fr T (z ++ zs) k) ((z ++ zs).drop (128 * k)) ∧ Fr O w wr ∧ Gr O O' w ∧ 128 * k ≤ (z ++ zs).length) (fun wr => lenAt wr p)
  case atStart => exact HL.out
  case round =>
    clear HL
    obtain ⟨k, O2, hW, hFr, hG, hk⟩ := hrel
    have hW0 := hW
    obtain ⟨fo2, fn2, fc2, ro2, rn2, rc2, hd, hO2, hF, hR, h5, h6, h7⟩ := hW
    have c1 := hd.c1
    have c2 := hd.c2
    have hlen := hd.len
    have HD := hide hd
    have HF := hide hF
    have HR := hide hR
    have H5 := hide h5
    have H6 := hide h6
    have HO2 := hide hO2
    have HFr := hide hFr
    have HG := hide hG
    have hrl := hR.1
    have hrc : rn2 ≤ rc2 := hR.2.2.1
    have hrm : rc2 ≤ maxLen := hR.2.2.2.1
    unfold maxLen at hrm
    have hfl := fr_length T (z ++ zs) k
    have hfn := hF.1
    have hfb : fn2 ≤ 1000000 := by omega
    rw [List.length_drop] at hrl
    by_cases hgo : 128 ≤ rn2
    · have hg1 : (128 : Int) ≤ (rn2 : Int) := by omega
      have hg2 : (128 : Int) ≤ (rc2 : Int) := by omega
      have htw : tb < wr.heap.size := Nat.lt_of_lt_of_le htb hFr.size
      have hTw : Tb wr tb T := HT.out.fr hFr htb HOt.out
      have hBs : Bs wr ro2 128 (blk (z ++ zs) k) := hR.bs.take 128 hgo
      have HC := hide (fun wx (e : wx = wr.drew) => frameOf_any p tb 128 rc2 fn2 fc2 rn2 rc2 fo2 ro2 ro2 T (blk (z ++ zs) k) wx (by rw [e]; exact hd) (by rw [e]; exact hTw) (by rw [e]; exact htw) HS.out (by rw [e]; exact hBs) (by omega) hR.nil (by omega))
      have hpl := (put_length (T := T) (blk_le (z ++ zs) k)).2.2
      have HFk := hide (fr_succ T (z ++ zs) k)
      have HRk := hide (show ((z ++ zs).drop (128 * k)).drop 128 = (z ++ zs).drop (128 * (k + 1)) by rw [List.drop_drop, Nat.mul_add])
      generalize put T (blk (z ++ zs) k) = P at *
      obtain ⟨m, hm⟩ : ∃ m, P.length = m := ⟨_, rfl⟩
      rw [hm] at hpl HC
      have HX := hide (fun (w3 w4 : World) (ao3 ao4 : Option Addr) (k3 k4 : Nat) hN hA hg hl => wr_frame (w1 := w3) (w2 := w4) (m := m) (P := P) (ao2 := ao3) (c2 := k3) (ao3 := ao4) (c3 := k4) hd hO2 hF hR h5 h6 hN hA hg hl hgo h7)
      have HY := hide (fun (w3 : World) (ao3 : Option Addr) (k3 : Nat) (hN : New wr w3 ao3 m k3 P) => And.intro (hd.fr (Fr.of_below (S := fun _ => False) (b := w3) hN.bel) id) (hF.fr (Fr.of_below (S := fun _ => False) (b := w3) hN.bel) (fun _ _ => id)))
      have HZ := hide (fun (w3 w4 : World) (hd3 : Wd w3 p tb fo2 fn2 fc2 ro2 rn2 rc2) (hF3 : Rw w3 0 fo2 fn2 fc2 (fr T (z ++ zs) k)) (hg : w3.grownBy w4 (Value.slice fo2 fn2 fc2).ownBlock) => hd3.fr (Fr.of_grown (S := fun j => (Value.slice fo2 fn2 fc2).ownBlock = some j) hg (fun j hj => hj)) (fun hj => by
        obtain ⟨_, _, cur, hc⟩ := hF3.own hj
        exact hd3.ne hc (by decide) rfl))
      clear hd hF hR h5 h6 h7 hO2 hFr hG hTw hBs hW0 hm
      go_wp2_with fail
      go_region_law ((first
        | (refine step_append_rw w3 (by rfl) (.tmp 36) (.tmp 43) (by rfl) 0 fo2 fn2 fc2 (fr T (z ++ zs) k) (by rfl) HF3.out ao3 m k3 P (by rfl) HN3.out.bs HN3.out.nil (by omega) (Nat.zero_le _) ?_; intro ao4 k4 w4 hA hg hl; have HX4 := hide (HX.out w3 w4 ao3 ao4 k3 k4 HN3.out hA hg hl); have hd4 := HZ.out w3 w4 HD3.out HF3.out hg; have c14 := hd4.c1; have f14 := hd4.f 1; have HD4 := hide hd4; clear hA hg hl hd4)
        | (go_simp; go_at_call 68; refine (HC.out wr.drew rfl).mono ?_; rintro r w3 ⟨ao3, k3, rfl, hN⟩; have HN3 := hide hN.undrew; have hY := HY.out w3 ao3 k3 hN.undrew; have c13 := hY.1.c1; have HD3 := hide hY.1; have HF3 := hide hY.2; clear hN hY; dsimp only)))
      all_goals (
        have hd5 := HD4.out.set1 ao4 (fn2 + m) k4
        have c25 := hd5.c2
        have f25 := hd5.f 2
        have HL5 := hide ((hd5.set2 (if rc2 = 128 then ro2 else Option.map (fun x => x.add 128) ro2) (rn2 - 128) (rc2 - 128)).len)
        clear hd5 c1 c2 c13 c14 f14 HX HY HZ HC HN3 HD3 HF3 HD4 HD HF HR H5 H6
        go_wp2
        go_roundw
        case rel =>
          obtain ⟨O3, x1, x2, x3⟩ := HX4.out
          refine ⟨k + 1, O3, ?_, HFr.out.gr HG.out x2, HG.out.trans x3 HFr.out.size, by omega⟩
          rw [HFk.out, ← HRk.out]
          exact x1
        case measure =>
          exact Nat.lt_of_le_of_lt (Nat.le_of_eq HL5.out) (by rw [hlen]; omega))
    · have hg1 : (rn2 : Int) < 128 := by omega
      have hg2 : decide ((128 : Int) ≤ (rn2 : Int)) = false := by simp; omega
      have hke : k = (z ++ zs).length / 128 := by omega
      have HFin : Hid (∃ O', WrM wr p O' tb (fr T (z ++ zs) ((z ++ zs).length / 128)) (rest (z ++ zs)) ∧ Fr O w wr ∧ Gr O O' w) := by
        refine ⟨O2, ?_, hFr, hG⟩
        unfold rest
        rw [← hke]; exact hW0
      clear hd hF hR h5 h6 h7 hO2 hFr hG hW0 HD HF HR H5 H6 hke
      go_wp2
      go_ret
      exact ⟨rfl, HFin.out⟩

set_option maxRecDepth 100000 in
set_option maxHeartbeats 1600000 in
theorem metaDone_any (p tb : Nat) (O : Nat → Prop) (T : Nat → Nat) (z : List Int) (w : World) (h : WrM w p O tb (fr T z (z.length / 128)) (rest z)) (hT : Tb w tb T) (htb : tb < w.heap.size) (hS : Small T) (hz : z.length ≤ 100000) :
    Calls Tryz.prog 23 #[.pointer (some ⟨p, 0, none⟩)] w fun r w' => ∃ ao c, r = .returned (.slice ao (done T z).length c) ∧ Fresh w w' ao (done T z).length c (done T z) := by
  obtain ⟨fo, fn, fc, ro, rn, rc, hd, hO, hF, hR, h5, h6, h7⟩ := h
  have hfl := fr_length T z (z.length / 128)
  have hfn := hF.1
  have hrn := hR.1
  have hrl := rest_length z
  have hfb : fn ≤ 110000 := by omega
  have hrb : rn < 128 := by omega
  have c1 := hd.c1
  have c2 := hd.c2
  have HR := hide hR
  have HC := hide (CloneRw_any fn fc fo (fr T z (z.length / 128)) w hF.bs hF.2.2.1 hF.nil (by omega))
  have HQ := hide (fun (w1 : World) (hb1 : Below w.heap.size w w1) => frameOf_any p tb rn rc fn fc rn rc fo ro ro T (rest z) w1 (hd.fr (Fr.of_below (S := fun _ => False) hb1) id) (hT.below hb1 htb) (Nat.lt_of_lt_of_le htb hb1.size) hS (hR.bs.below hb1) hR.2.2.1 hR.nil (by omega))
  have HW := hide (fun (w1 : World) (hb1 : Below w.heap.size w w1) => hd.fr (Fr.of_below (S := fun _ => False) hb1) id)
  by_cases h0 : rn = 0
  · subst h0
    have hnil : rest z = [] := List.eq_nil_of_length_eq_zero hrn
    have HD : Hid (done T z = fr T z (z.length / 128)) := done_full T hnil
    have HL : Hid ((fr T z (z.length / 128)).length = fn) := hfn
    clear hd hF hR h5 h6 h7 hT hS hO hfn hrn hrl hfl hnil
    go_enter Tryz.func23, Tryz.ntmps23
    go_wp2_with fail
    refine HC.out.mono ?_
    rintro r w1 ⟨ao1, k1, rfl, hA, hb1⟩
    have c21 := (HW.out w1 hb1).c2
    have HA := hide hA
    have HB1 := hide hb1
    clear hA hb1 HC
    go_wp2
    go_ret
    refine ⟨ao1, k1, by rw [HD.out, HL.out]; rfl, ?_⟩
    rw [HD.out, HL.out]
    have hm := HA.out.2.2.2.1
    unfold maxLen at hm
    exact ⟨HA.out.bs, HA.out.2.2.1, by omega, HA.out.nil, HB1.out, fun a ha => (HA.out.own (k := a.block) (by rw [ha]; rfl)).1⟩
  · have hne : rest z ≠ [] := fun e => by rw [e] at hrn; simp at hrn; omega
    have HD : Hid (done T z = fr T z (z.length / 128) ++ put T (rest z)) := done_part T hne
    have hpl := (put_length (T := T) (b := rest z) (by omega)).2.2
    have HL : Hid ((fr T z (z.length / 128)).length = fn) := hfn
    have h0' : ((rn : Int) == 0) = false := by simp; omega
    clear hd hF hR h5 h6 h7 hT hS hO hfn hrn hrl hfl hne
    generalize put T (rest z) = P at *
    obtain ⟨m, hm⟩ : ∃ m, P.length = m := ⟨_, rfl⟩
    have HM := hide hm
    rw [hm] at hpl HQ
    clear hm
    go_enter Tryz.func23, Tryz.ntmps23
    go_wp2_with fail
    refine HC.out.mono ?_
    rintro r w1 ⟨ao1, k1, rfl, hA, hb1⟩
    have c21 := (HW.out w1 hb1).c2
    have HA := hide hA
    have HB1 := hide hb1
    clear hA HC
    go_wp2_with fail
    refine (HQ.out w1 hb1).mono ?_
    rintro r w2 ⟨ao2, k2, rfl, hN⟩
    have HN := hide hN
    have HA2 := hide (HA.out.fr (Fr.of_below (S := fun _ => False) hN.bel) (fun _ _ => id))
    clear hN HQ hb1 c21
    go_wp2_with (first
      | (at_builtin; refine wpList_append_rw _ rfl (.tmp 16) (.tmp 22) rfl w.heap.size ao1 fn k1 (fr T z (z.length / 128)) rfl HA2.out ao2 m k2 P rfl HN.out.bs HN.out.nil (by omega) (Nat.le_trans HB1.out.size HN.out.bel.size) ?_; intro ao3 k3 w3 hA3 hg3 hl3))
    go_ret
    have hb3 : Below w.heap.size w w3 := (HB1.out.trans (HN.out.bel.mono HB1.out.size)).trans ((Fr.of_grown (S := fun k => w.heap.size ≤ k) hg3 (fun k hk => (HA2.out.own hk).1)).below w.heap.size (Nat.le_trans HB1.out.size HN.out.bel.size) (fun k h => h))
    have hm3 := hA3.2.2.2.1
    unfold maxLen at hm3
    have hlm : (done T z).length = fn + m := by rw [HD.out, List.length_append, HL.out, HM.out]
    refine ⟨ao3, k3, by rw [hlm]; rfl, ?_⟩
    rw [hlm, HD.out]
    exact ⟨hA3.bs, hA3.2.2.1, by omega, hA3.nil, hb3, fun a ha => (hA3.own (k := a.block) (by rw [ha]; rfl)).1⟩
end Go.Proofs.YtchcejjoncihkaaGreatDoor

/- The program's reader of rows in memory: its block (260 cells, a table among them), its map of frames that were taken, and what these calls leave of it; tables held against each other; Open. -/
namespace Go.Proofs.YtchcejjoncihkaaGreatDoor
set_option linter.unusedVariables false
open Go.RowKit Go.Maps
open Go.ChangeMaps Go.MapKept
open Lz (g)
open Crc (ent)
open Frm Mtr

section
variable {w w' : World} {p tb fn fc m : Nat} {fo : Option Addr} {U : Nat → Nat}
end
section
variable {w w' : World} {p tb N fn fc m : Nat} {O : Nat → Prop} {T U : Nat → Nat} {X : List Int} {fo : Option Addr} {D : DataW Value}
end
end Go.Proofs.YtchcejjoncihkaaGreatDoor

/- The walk of Open. -/
namespace Go.Proofs.YtchcejjoncihkaaGreatDoor
set_option linter.unusedVariables false
open Go.RowKit Go.Maps
open Lz (g)
open Crc (ent)
open Frm Mtr

end Go.Proofs.YtchcejjoncihkaaGreatDoor

/- The walk of the reader's take: what frame.Take tells of a place, out of the map or asked. -/
namespace Go.Proofs.YtchcejjoncihkaaGreatDoor
set_option linter.unusedVariables false
open Go.RowKit Go.Maps
open Lz (g)
open Crc (ent)
open Frm Mtr

section
variable {ops : Array Oper} {C : World → Prop} {Q : Act → Prop} {a : Act} {o : Oper} {rest : List Oper}
end
end Go.Proofs.YtchcejjoncihkaaGreatDoor

/- The walk of the reader's take where the frame was not taken yet, or the table has changed since. -/
namespace Go.Proofs.YtchcejjoncihkaaGreatDoor
set_option linter.unusedVariables false
open Go.RowKit Go.Maps
open Lz (g)
open Crc (ent)
open Frm Mtr

end Go.Proofs.YtchcejjoncihkaaGreatDoor

/- The walk of the reader's part: what the frame of a ref has of the bytes from there on. -/
namespace Go.Proofs.YtchcejjoncihkaaGreatDoor
set_option linter.unusedVariables false
open Go.RowKit Go.Maps
open Lz (g)
open Crc (ent)
open Frm Mtr

end Go.Proofs.YtchcejjoncihkaaGreatDoor

/- The walks of the reader's Read and Next. -/
namespace Go.Proofs.YtchcejjoncihkaaGreatDoor
set_option linter.unusedVariables false
open Go.RowKit Go.Maps
open Lz (g)
open Crc (ent)
open Frm Mtr

end Go.Proofs.YtchcejjoncihkaaGreatDoor

/- Layer 9 as numbers and bytes: whether a record may be, its bytes, what is read of bytes; what follows. -/
namespace Go.Proofs.YtchcejjoncihkaaGreatDoor.Ino
set_option linter.unusedVariables false
open Cur
open Lz (g)

/-- A record: its fields in the order of their declaration. -/
structure Rec where
  kind : Int
  mode : Int
  uid : Int
  gid : Int
  links : Int
  xattr : Int
  start : Int
  size : Int
  frag : Int
  off : Int
  target : ByteArray
def inn (n a b : Int) : Bool := decide (a ≤ n ∧ n ≤ b)
/-- No text. -/
def emp (t : ByteArray) : Bool := t.toList.isEmpty
/-- A text has no byte 0. -/
def nz (t : ByteArray) : Bool := decide (∀ x ∈ sb t, x ≠ 0)
def Rec.headOk (s : Rec) : Bool := inn s.mode 0 511 && inn s.uid 0 2047 && inn s.gid 0 2047 && inn s.links 1 1024 && inn s.xattr 0 4294967295
def Rec.dirOk (s : Rec) : Bool := (s.links == 1) && inn s.start 0 4294967295 && inn s.size 0 1048576 && (s.frag == 0) && (s.off == 0) && emp s.target
def Rec.fileOk (s : Rec) : Bool := inn s.start 0 4294967295 && inn s.size 0 4096 && inn s.frag 0 1024 && ((s.size.tmod 128 != 0) == (s.frag != 0)) && inn s.off 0 127 && ((s.off == 0) || (s.frag != 0)) && emp s.target
def Rec.linkOk (s : Rec) : Bool := inn s.target.size 1 200 && nz s.target && (s.start == 0) && (s.size == 0) && (s.frag == 0) && (s.off == 0)
/-- What a kind has of its own. -/
def Rec.ownOk (s : Rec) : Bool := if s.kind = 1 then s.dirOk else if s.kind = 2 then s.fileOk else if s.kind = 3 then s.linkOk else false
def isKind (k : Int) : Bool := decide (k = 1 ∨ k = 2 ∨ k = 3)
def Rec.may (s : Rec) : Bool := s.headOk && s.ownOk
theorem may_kind {s : Rec} (h : isKind s.kind = false) : s.may = false := by
  unfold isKind at h
  simp only [decide_eq_false_iff_not, not_or] at h
  unfold Rec.may Rec.ownOk
  rw [if_neg h.1, if_neg h.2.1, if_neg h.2.2, Bool.and_false]
theorem kind_may {s : Rec} (h : s.may = true) : isKind s.kind = true := by
  cases hk : isKind s.kind with
  | true => rfl
  | false => rw [may_kind hk] at h; cases h

/-- What all have: the first 13 bytes. -/
def headB (s : Rec) : List Int := by' 1 s.kind ++ (by' 2 s.mode ++ (by' 2 s.uid ++ (by' 2 s.gid ++ (by' 2 s.links ++ by' 4 s.xattr))))
/-- What a kind has of its own. -/
def ownB (s : Rec) : List Int :=
  if s.kind = 1 then by' 4 s.start ++ by' 4 s.size
  else if s.kind = 2 then by' 4 s.start ++ (by' 2 s.size ++ (by' 2 s.frag ++ by' 1 s.off))
  else if s.kind = 3 then (s.target.size : Int) :: sb s.target
  else []
def putB (s : Rec) : List Int := headB s ++ ownB s
theorem headB_length (s : Rec) : (headB s).length = 13 := by simp [headB, by_length]
/-- What may be, as facts. -/
theorem may_facts {s : Rec} (h : s.may = true) : isKind s.kind = true ∧ (0 ≤ s.mode ∧ s.mode ≤ 511) ∧ (0 ≤ s.uid ∧ s.uid ≤ 2047) ∧ (0 ≤ s.gid ∧ s.gid ≤ 2047) ∧ (1 ≤ s.links ∧ s.links ≤ 1024) ∧ (0 ≤ s.xattr ∧ s.xattr ≤ 4294967295) ∧ s.ownOk = true := by
  have hk := kind_may h
  unfold Rec.may Rec.headOk inn at h
  simp only [Bool.and_eq_true, decide_eq_true_eq] at h
  obtain ⟨⟨⟨⟨⟨h1, h2⟩, h3⟩, h4⟩, h5⟩, h6⟩ := h
  exact ⟨hk, h1, h2, h3, h4, h5, h6⟩
theorem emp_iff {t : ByteArray} : emp t = true ↔ t = ⟨#[]⟩ := by
  unfold emp
  constructor
  · intro h
    have h1 : t.toList = [] := by simpa using h
    have h2 : t.data.toList = [] := by rw [← ByteArray.toList_eq] at *; exact h1
    obtain ⟨d⟩ := t
    simp at h2
    rw [h2]
  · rintro rfl; simp [ByteArray.toList_eq]
theorem dir_facts {s : Rec} (hk : s.kind = 1) (h : s.ownOk = true) : s.links = 1 ∧ (0 ≤ s.start ∧ s.start ≤ 4294967295) ∧ (0 ≤ s.size ∧ s.size ≤ 1048576) ∧ s.frag = 0 ∧ s.off = 0 ∧ s.target = ⟨#[]⟩ := by
  unfold Rec.ownOk at h
  rw [if_pos hk] at h
  unfold Rec.dirOk inn at h
  simp only [Bool.and_eq_true, decide_eq_true_eq, beq_iff_eq, emp_iff] at h
  obtain ⟨⟨⟨⟨⟨h1, h2⟩, h3⟩, h4⟩, h5⟩, h6⟩ := h
  exact ⟨h1, h2, h3, h4, h5, h6⟩
theorem file_facts {s : Rec} (hk : s.kind = 2) (h : s.ownOk = true) : (0 ≤ s.start ∧ s.start ≤ 4294967295) ∧ (0 ≤ s.size ∧ s.size ≤ 4096) ∧ (0 ≤ s.frag ∧ s.frag ≤ 1024) ∧ (0 ≤ s.off ∧ s.off ≤ 127) ∧ s.target = ⟨#[]⟩ := by
  unfold Rec.ownOk at h
  rw [if_neg (by omega), if_pos hk] at h
  unfold Rec.fileOk inn at h
  simp only [Bool.and_eq_true, decide_eq_true_eq, emp_iff] at h
  obtain ⟨⟨⟨⟨⟨⟨h1, h2⟩, h3⟩, h4⟩, h5⟩, h6⟩, h7⟩ := h
  exact ⟨h1, h2, h3, h5, h7⟩
theorem link_facts {s : Rec} (hk : s.kind = 3) (h : s.ownOk = true) : (1 ≤ s.target.size ∧ s.target.size ≤ 200) ∧ s.start = 0 ∧ s.size = 0 ∧ s.frag = 0 ∧ s.off = 0 := by
  unfold Rec.ownOk at h
  rw [if_neg (by omega), if_neg (by omega), if_pos hk] at h
  unfold Rec.linkOk inn at h
  simp only [Bool.and_eq_true, decide_eq_true_eq, beq_iff_eq] at h
  obtain ⟨⟨⟨⟨⟨h1, h2⟩, h3⟩, h4⟩, h5⟩, h6⟩ := h
  exact ⟨by omega, h3, h4, h5, h6⟩
theorem ownB_length {s : Rec} (h : s.may = true) : (s.kind = 1 → (ownB s).length = 8) ∧ (s.kind = 2 → (ownB s).length = 9) ∧ (s.kind = 3 → (ownB s).length = 1 + s.target.size) := by
  refine ⟨fun hk => ?_, fun hk => ?_, fun hk => ?_⟩
  · unfold ownB; rw [if_pos hk]; simp [by_length]
  · unfold ownB; rw [if_neg (by omega), if_pos hk]; simp [by_length]
  · unfold ownB; rw [if_neg (by omega), if_neg (by omega), if_pos hk]; simp [sb_length]; omega
theorem kinds {k : Int} (h : isKind k = true) : k = 1 ∨ k = 2 ∨ k = 3 := by unfold isKind at h; simpa using h
theorem putB_least {s : Rec} (h : s.may = true) : 15 ≤ (putB s).length ∧ (putB s).length ≤ 214 := by
  have hl := ownB_length h
  have e : (putB s).length = 13 + (ownB s).length := by simp [putB, headB_length]
  rw [e]
  rcases kinds (kind_may h) with hk | hk | hk
  · rw [hl.1 hk]; omega
  · rw [hl.2.1 hk]; omega
  · have := (link_facts hk (may_facts h).2.2.2.2.2.2).1
    rw [hl.2.2 hk]; omega
end Go.Proofs.YtchcejjoncihkaaGreatDoor.Ino

/- Cursors as lists alone: what was written is read as it was; what is read without an error is what stood there. -/
namespace Go.Proofs.YtchcejjoncihkaaGreatDoor.Cap
set_option linter.unusedVariables false
open Cur
open Lz (g)

theorem sb_str {zs : List Int} (h : Bytes zs) : sb (strOfNums zs) = zs := by
  unfold sb
  rw [strOfNums_data, List.map_map]
  have : ∀ x ∈ zs, ((fun b : UInt8 => (b.toNat : Int)) ∘ fun n : Int => UInt8.ofNat n.toNat) x = x := fun x hx => by
    have := h x hx
    simp only [Function.comp, UInt8.toNat_ofNat']
    omega
  rw [List.map_congr_left this, List.map_id']
end Go.Proofs.YtchcejjoncihkaaGreatDoor.Cap

/- Layer 10 on lists alone: lists of entries that may be, their bytes, what bytes are read as, what is found. Nothing here speaks of the program. -/
namespace Go.Proofs.YtchcejjoncihkaaGreatDoor.Dir
set_option linter.unusedVariables false
open Cur Cap Nam
open Lz (g)

/-- An entry: its fields in the order of their declaration. -/
structure Ent where
  name : ByteArray
  kind : Int
  ref : Int
/-- No entry. -/
def z0 : Ent := ⟨⟨#[]⟩, 0, 0⟩
/-- The entry at a place. -/
def gl (L : List Ent) (i : Nat) : Ent := L.getD i z0
theorem gl_lt (L : List Ent) (i : Nat) (h : i < L.length) : gl L i = L[i] := by simp [gl, h]
theorem drop_gl (L : List Ent) (i : Nat) (h : i < L.length) : L.drop i = gl L i :: L.drop (i + 1) := by rw [List.drop_eq_getElem_cons h, gl_lt L i h]
theorem take_gl (L : List Ent) (i : Nat) (h : i < L.length) : L.take (i + 1) = L.take i ++ [gl L i] := by rw [List.take_succ_eq_append_getElem h, gl_lt L i h]
def ok (E : Ent) : Bool := decide (valid E.name.toList = 0 ∧ (1 ≤ E.kind ∧ E.kind ≤ 3) ∧ 0 ≤ E.ref ∧ E.ref ≤ 4294967295)
/-- Whether an entry may stand behind the name s. -/
def nx (s : ByteArray) (E : Ent) : Bool := Op.bytesLess s.toList E.name.toList && ok E
def rise : ByteArray → List Ent → Bool
  | _, [] => true
  | s, E :: L => nx s E && rise E.name L
def em : ByteArray := ⟨#[]⟩
def may (L : List Ent) : Bool := rise em L
/-- An entry's bytes. -/
def entB (E : Ent) : List Int := ((E.name.size : Int) :: sb E.name) ++ (by' 1 E.kind ++ by' 4 E.ref)
def putB (L : List Ent) : List Int := (L.map entB).flatten
theorem putB_nil : putB [] = [] := rfl
theorem putB_cons (E : Ent) (L : List Ent) : putB (E :: L) = entB E ++ putB L := by simp [putB]
theorem putB_append (A B : List Ent) : putB (A ++ B) = putB A ++ putB B := by simp [putB]
theorem putB_one (E : Ent) : putB [E] = entB E := by simp [putB]
/-- What bytes can tell. -/
def fit (E : Ent) : Prop := E.name.size ≤ 255 ∧ (0 ≤ E.kind ∧ E.kind < 256) ∧ 0 ≤ E.ref ∧ E.ref < 4294967296
theorem ok_iff {E : Ent} : ok E = true ↔ valid E.name.toList = 0 ∧ (1 ≤ E.kind ∧ E.kind ≤ 3) ∧ 0 ≤ E.ref ∧ E.ref ≤ 4294967295 := by unfold ok; rw [decide_eq_true_eq]
theorem ok_fit {E : Ent} (h : ok E = true) : fit E := by
  obtain ⟨h1, h2, h3⟩ := ok_iff.1 h
  have := (valid_zero h1).1
  rw [toList_length] at this
  exact ⟨this, by omega, by omega⟩
theorem entB_length (E : Ent) : (entB E).length = E.name.size + 6 := by unfold entB; simp [by_length, sb_length]
theorem putB_length {L : List Ent} (h : ∀ E ∈ L, fit E) : (putB L).length ≤ 261 * L.length := by
  induction L with
  | nil => simp [putB]
  | cons E L ih =>
    have h1 := ih (fun X hX => h X (List.mem_cons_of_mem _ hX))
    have h2 := (h E (by simp)).1
    rw [putB_cons, List.length_append, List.length_cons, entB_length]; omega
theorem rise_cons {s : ByteArray} {E : Ent} {L : List Ent} : rise s (E :: L) = (nx s E && rise E.name L) := rfl
/-- The name ahead of a place. -/
def pv (L : List Ent) (i : Nat) : ByteArray := if i = 0 then em else (gl L (i - 1)).name
theorem pv_succ (L : List Ent) (i : Nat) : pv L (i + 1) = (gl L i).name := by simp [pv]
theorem rise_drop (L : List Ent) (i : Nat) (h : i < L.length) : rise (pv L i) (L.drop i) = (nx (pv L i) (gl L i) && rise (pv L (i + 1)) (L.drop (i + 1))) := by
  rw [drop_gl L i h, rise_cons, pv_succ]

/-! ### Bytes read as entries -/

/-! ### A function asked of one entry after the other -/

end Go.Proofs.YtchcejjoncihkaaGreatDoor.Dir

/- The walks of the reference's writer: Bytes, Num, Text, Done. -/
namespace Go.Proofs.YtchcejjoncihkaaGreatDoor
set_option linter.unusedVariables false
open Go.RowKit Go.Maps
open Lz (g)
open Cur

end Go.Proofs.YtchcejjoncihkaaGreatDoor

/- Layer 11: numbers written, by the program and by the document's answer. -/
namespace Go.Proofs.YtchcejjoncihkaaGreatDoor
set_option linter.unusedVariables false
open Go.RowKit Go.Maps
open Lz (g)
open Cur

namespace Tab
/-- A writer since w, of the call's own. -/
structure TW (w : World) (p : Nat) (s : St) (wX : World) : Prop where
  wr : ∃ v, WrP wX p w.heap.size v s
  bel : Below w.heap.size w wX
  up : w.heap.size ≤ p
section
variable {w wX wY : World} {p : Nat} {s : St}
theorem TW.below (h : TW w p s wX) (hb : Below wX.heap.size wX wY) : TW w p s wY := by
  obtain ⟨v, hv⟩ := h.wr
  exact ⟨⟨v, hv.below hb⟩, h.bel.trans (hb.mono h.bel.size), h.up⟩
theorem TW.new (hw : Below w.heap.size w wX) : TW w wX.heap.size ([], 0) (wX.alloc (.cells #[.slice none 0 0, .int .i64 0] 156)) :=
  ⟨⟨_, WrP.new wX w.heap.size⟩, hw.trans ((below_one _ _).mono hw.size), hw.size⟩
theorem TW.done {v : Value} {s' : St} (h : TW w p s wX) (hv : WrP wX p w.heap.size v s) (hd : WrDone wX wY p w.heap.size v s') : TW w p s' wY := by
  obtain ⟨v', h1, h2, _⟩ := hd
  exact ⟨⟨v', h1⟩, h.bel.trans (h2.two_below h.bel.size h.up hv.base), h.up⟩
end
/-- Blocks that hold no bytes stay, the writer's aside. -/
def KeptB (p : Nat) (wX w' : World) : Prop := ∀ b cs t, wX.heap[b]? = some (.cells cs t (0, 0)) → t ≠ 5 → b ≠ p → w'.heap[b]? = some (.cells cs t (0, 0))
theorem kept_row {wX w' : World} {p B n : Nat} {v : Value} {xs : List Value} (ho : wX.ownsRow B 5 1 v n xs) (hf : Fr (Two p v) wX w') : KeptB p wX w' := fun b cs t hb ht hp => by
  refine (hf.block b (heap_lt hb) (fun hx => ?_)).trans hb
  rcases hx with hx | hx
  · exact hp hx
  · obtain ⟨cur, hc⟩ := owns_obj ho hx
    rw [hb] at hc
    cases hc
    exact ht rfl
theorem WrP.kept {wX w' : World} {p B : Nat} {v : Value} {s : St} (h : WrP wX p B v s) (hf : Fr (Two p v) wX w') : KeptB p wX w' := by
  obtain ⟨ao, n, c, rfl, _, ho, _⟩ := h
  exact kept_row ho hf
theorem tw_num {w wX : World} {p : Nat} {s : St} (h : TW w p s wX) (x n : Int) (hs : s.1.length ≤ 10000000) (hx : In64 x) (hn : In64 n) :
    Calls Tryz.prog 91 #[.pointer (some ⟨p, 0, none⟩), .int .i64 x, .int .i64 n] wX fun r w' => r = .returned (.tuple #[]) ∧ TW w p (wNum x n s) w' := by
  obtain ⟨v, hv⟩ := h.wr
  refine (wNum_any p _ v x n s wX hv h.bel.size hs hx hn).mono ?_
  rintro r w' ⟨rfl, hd⟩
  exact ⟨rfl, h.done hv hd⟩
theorem tw_text {w wX : World} {p : Nat} {s : St} (h : TW w p s wX) (b : ByteArray) (hs : s.1.length ≤ 1000000) (hb : b.size ≤ 1000000) :
    Calls Tryz.prog 176 #[.pointer (some ⟨p, 0, none⟩), .string b] wX fun r w' => r = .returned (.tuple #[]) ∧ TW w p (wTxt (sb b) s) w' ∧ KeptB p wX w' := by
  obtain ⟨v, hv⟩ := h.wr
  refine (wText_any p _ v b s wX hv h.bel.size hs hb).mono ?_
  rintro r w' ⟨rfl, hd⟩
  obtain ⟨v', h1, h2, h3⟩ := hd
  exact ⟨rfl, h.done hv ⟨v', h1, h2, h3⟩, WrP.kept hv h2⟩
theorem tw_done {w wX : World} {p : Nat} {s : St} (h : TW w p s wX) (hs : s.1.length ≤ 10000000) :
    Calls Tryz.prog 93 #[.pointer (some ⟨p, 0, none⟩)] wX fun r w' => ∃ ao c, r = .returned (.slice ao s.1.length c) ∧ New w w' ao s.1.length c s.1 ∧ TW w p s w' := by
  obtain ⟨v, hv⟩ := h.wr
  refine (DoneNew_any p _ v s wX hv (by omega)).mono ?_
  rintro r w' ⟨ao, c, rfl, hN⟩
  exact ⟨ao, c, rfl, hN.from h.bel, h.below hN.bel⟩
theorem tw_err {w wX : World} {p : Nat} {s : St} (h : TW w p s wX) :
    Calls Tryz.prog 123 #[.pointer (some ⟨p, 0, none⟩)] wX fun r w' => r = .returned (.int .i64 s.2) ∧ w' = wX := by
  obtain ⟨v, ao, n, c, _, hd, _⟩ := h.wr
  exact Err_any _ p n c ao s.2 wX hd
/-- Numbers written one behind the other. -/
def pn (wide : Int) (l : List Int) : St := l.foldl (fun s x => wNum x wide s) ([], 0)
theorem pn_snoc (wide : Int) (l : List Int) (x : Int) : pn wide (l ++ [x]) = wNum x wide (pn wide l) := by simp [pn]
theorem pn_take (wide : Int) (l : List Int) (i : Nat) (h : i < l.length) : pn wide (l.take (i + 1)) = wNum (g l i) wide (pn wide (l.take i)) := by
  rw [List.take_succ_eq_append_getElem h, pn_snoc, g_get l i h]
theorem pn_fold_length (wide : Int) : ∀ (l : List Int) (s : St), (l.foldl (fun s x => wNum x wide s) s).1.length ≤ s.1.length + 4 * l.length
  | [], s => by simp
  | x :: r, s => by
    have := pn_fold_length wide r (wNum x wide s)
    have := wNum_length x wide s
    simp only [List.foldl_cons, List.length_cons]
    omega
theorem pn_length (wide : Int) (l : List Int) : (pn wide l).1.length ≤ 4 * l.length := by
  have := pn_fold_length wide l ([], 0)
  simpa [pn] using this
/-- What PutNums answers. -/
def putN (wide : Int) (l : List Int) : St := if wide = 2 ∨ wide = 4 then pn wide l else ([], 1)
end Tab
open Tab
theorem isWide_any (x : Int) (w : World) (q : Bool) (hq : decide (x = 2 ∨ x = 4) = q) :
    Calls Tryz.prog 125 #[.int .i64 x] w fun e w' => e = .returned (.bool q) ∧ w' = w := by
  by_cases h2 : x = 2
  · have e2 : (x == 2) = true := by simpa using h2
    go_enter Tryz.func125, Tryz.ntmps125
    go_wp2
    go_ret
    exact ⟨ret_bool (by rw [← hq]; simp [h2]), rfl⟩
  · have e2 : (x == 2) = false := by simpa using h2
    go_enter Tryz.func125, Tryz.ntmps125
    go_wp2
    go_ret
    exact ⟨ret_bool (by rw [← hq, Bool.eq_iff_iff]; simp [h2]), rfl⟩
/-- What a put of bytes answers. -/
def PutsA (A : St) (w : World) (r : Ending) (w' : World) : Prop := ∃ ao c, r = .returned (.tuple #[.slice ao A.1.length c, .int .i64 A.2]) ∧ New w w' ao A.1.length c A.1
set_option maxRecDepth 100000 in
set_option maxHeartbeats 4000000 in
theorem PutNums_any (a : Option Addr) (n c : Nat) (l : List Int) (wide : Int) (w : World) (h : Zs w a n l) (hn : n ≤ 10000) (hl : ∀ x ∈ l, In64 x) (hw : In64 wide) :
    Calls Tryz.prog 69 #[.slice a n c, .int .i64 wide] w fun r w' => PutsA (putN wide l) w r w' := by
  have hlen := h.1
  have HZ := hide h
  clear h
  by_cases hq : wide = 2 ∨ wide = 4
  · have e : putN wide l = pn wide l := by unfold putN; rw [if_pos hq]
    rw [e]
    obtain ⟨w1, hw1⟩ : ∃ w1, w1 = w.alloc (.cells #[.slice none 0 0, .int .i64 0] 156) := ⟨_, rfl⟩
    have HT0 : Hid (TW w w.heap.size ([], 0) w1) := by rw [hw1]; exact TW.new (Below.refl _ _)
    have HW1 := hide hw1
    clear hw1 e
    go_enter Tryz.func69, Tryz.ntmps69
    go_wp2_with fail
    refine (isWide_any wide w true (decide_eq_true hq)).mono ?_
    rintro r wx ⟨rfl, hwx⟩
    obtain rfl := hwx.symm
    go_wp2_with fail
    rw [← HW1.out]
    go_loopw [14] (fun r wr => ∃ i : Nat, r = .int .i64 i ∧ i ≤ n ∧ TW w w.heap.size (pn wide (l.take i)) wr) (fun r _ => n - (intOf r).toNat)
    case atStart => exact ⟨0, rfl, Nat.zero_le _, HT0.out⟩
    case round =>
      clear HT0 HW1
      obtain ⟨i, rfl, hi, hT⟩ := hrel
      have HT := hide hT
      have hpl := pn_length wide (l.take i)
      have hpl2 : (l.take i).length ≤ 10000 := by simp; omega
      clear hT
      by_cases hp : i < n
      · obtain ⟨b, off, rfl, hb, hc⟩ := (HZ.out.below HT.out.bel).at (by omega)
        have ci := hc i hp
        have hd : (i : Int) < (n : Int) := by omega
        have hgx := hl (g l i) (by rw [g_get l i (by omega)]; exact List.getElem_mem _)
        have HS := hide (pn_take wide l i (by omega))
        clear hc
        go_wp2_with fail
        refine (tw_num HT.out (g l i) wide (by omega) hgx hw).mono ?_
        rintro r w2 ⟨rfl, hT2⟩
        rw [← HS.out] at hT2
        have HT2 := hide hT2
        clear hT2 HT
        go_wp2_with fail
        go_roundw
        case rel => exact ⟨i + 1, rfl, by omega, HT2.out⟩
        case measure => simp [intOf]; omega
      · obtain rfl : i = n := by omega
        rw [List.take_of_length_le (by omega)] at HT hpl
        go_wp2_with fail
        refine (tw_done HT.out (by omega)).mono ?_
        rintro r w2 ⟨ao, c', rfl, hN, hT2⟩
        have HN := hide hN
        clear hN
        go_wp2_with fail
        refine (tw_err hT2).mono ?_
        rintro r w3 ⟨rfl, hw3⟩
        obtain rfl := hw3.symm
        go_wp2
        go_ret2
        exact ⟨ao, c', rfl, HN.out⟩
  · have e : putN wide l = ([], 1) := by unfold putN; rw [if_neg hq]
    rw [e]
    clear e
    go_enter Tryz.func69, Tryz.ntmps69
    go_wp2_with fail
    refine (isWide_any wide w false (decide_eq_false hq)).mono ?_
    rintro r wx ⟨rfl, hwx⟩
    obtain rfl := hwx.symm
    go_wp2_with fail
    go_ret2
    exact ⟨none, 0, rfl, New.none _⟩
end Go.Proofs.YtchcejjoncihkaaGreatDoor

/- Layer 7: the reference's nul, Xattrs and May. -/
namespace Go.Proofs.YtchcejjoncihkaaGreatDoor
set_option linter.unusedVariables false
open Go.RowKit Go.Maps
open Nam Tre
open Lz (g)

end Go.Proofs.YtchcejjoncihkaaGreatDoor

/- Layer 11: further attributes: which may be, and how they are written. -/
namespace Go.Proofs.YtchcejjoncihkaaGreatDoor
set_option linter.unusedVariables false
open Go.RowKit Go.Maps
open Nam Tre Tab
open Lz (g)
open Cur

namespace Tab
/-- A root that has attributes. -/
def rootV (a : Option Addr) (n c : Nat) : Nv := ⟨none, 0, 0, 0, 1, 0, 0, 0, none, 0, 0, ⟨#[]⟩, a, n, c, false⟩
def rootN (xs : List (ByteArray × List Int)) : Nod := ⟨[], 0, 1, 0, 0, 0, [], ⟨#[]⟩, xs, false⟩
theorem check_rootN (xs : List (ByteArray × List Int)) : check [rootN xs] = if xsOk xs = true then 0 else 7 := by
  have h1 : ¬ 1024 < [rootN xs].length := by simp
  have h2 : wrong [rootN xs] = 0 := rfl
  have h3 : [rootN xs].any deep = false := rfl
  have h4 : ([rootN xs].map Nod.names).Nodup := by simp
  have h5 : isDir [rootN xs] [] = true := by simp [isDir, rootN]
  have h6 : [rootN xs].all (inDir [rootN xs]) = true := by simp [inDir, rootN]
  have h8 : [rootN xs].Pairwise Tre.one := by simp
  have hm : [rootN xs].all may = xsOk xs := by
    simp [may, kdOk, attrOk, rootN]
  by_cases h : xsOk xs = true
  · rw [if_pos h]
    exact check_ok h1 h2 h3 h4 h5 h6 (by rw [hm]; exact h) h8
  · rw [if_neg h]
    exact check_kind h1 h2 h3 h4 h5 h6 (by rw [hm]; simpa using h)
theorem xs1_mem : ∀ (xs : List (ByteArray × List Int)) (a : List UInt8), xs1 a xs = true → ∀ x ∈ xs, x.1.size ≤ 40 ∧ x.2.length ≤ 200
  | [], _, _, x, hx => by simp at hx
  | y :: r, a, h, x, hx => by
    rw [xs1] at h
    simp only [Bool.and_eq_true, decide_eq_true_eq] at h
    obtain ⟨⟨⟨_, h1⟩, h2⟩, h3⟩ := h
    rcases List.mem_cons.1 hx with rfl | hx
    · refine ⟨?_, h2⟩
      unfold txt at h1
      simp only [Bool.and_eq_true, decide_eq_true_eq] at h1
      have := h1.1.2
      rwa [toList_length] at this
    · exact xs1_mem r _ h3 x hx
theorem xsOk_mem {xs : List (ByteArray × List Int)} (h : xsOk xs = true) : xs.length ≤ 8 ∧ ∀ x ∈ xs, x.1.size ≤ 40 ∧ x.2.length ≤ 200 := by
  unfold xsOk at h
  simp only [Bool.and_eq_true, decide_eq_true_eq] at h
  exact ⟨h.1, xs1_mem xs _ h.2⟩
/-- An attribute's bytes. -/
def xB (x : ByteArray × List Int) : List Int := ((x.1.size : Int) :: sb x.1) ++ ((x.2.length : Int) :: x.2)
/-- Attributes' bytes, how many there are ahead. -/
def xsB (n : Nat) (xs : List (ByteArray × List Int)) : List Int := (n : Int) :: xs.flatMap xB
theorem xB_length (x : ByteArray × List Int) : (xB x).length = x.1.size + x.2.length + 2 := by simp [xB, sb_length]; omega
theorem xsB_snoc (n : Nat) (xs : List (ByteArray × List Int)) (x : ByteArray × List Int) : xsB n (xs ++ [x]) = (xsB n xs ++ ((x.1.size : Int) :: sb x.1)) ++ ((x.2.length : Int) :: x.2) := by simp [xsB, xB]
theorem xsB_take (n : Nat) (xs : List (ByteArray × List Int)) (i : Nat) (h : i < xs.length) : xsB n (xs.take (i + 1)) = (xsB n (xs.take i) ++ (((gx xs i).1.size : Int) :: sb (gx xs i).1)) ++ (((gx xs i).2.length : Int) :: (gx xs i).2) := by
  rw [List.take_succ_eq_append_getElem h, xsB_snoc, gx_lt xs i h]
theorem flat_length {xs : List (ByteArray × List Int)} (h : ∀ x ∈ xs, x.1.size ≤ 40 ∧ x.2.length ≤ 200) : (xs.flatMap xB).length ≤ 242 * xs.length := by
  induction xs with
  | nil => simp
  | cons x r ih =>
    have := ih (fun y hy => h y (List.mem_cons_of_mem _ hy))
    have h1 := h x (List.mem_cons_self ..)
    have := xB_length x
    simp only [List.flatMap_cons, List.length_append, List.length_cons]
    omega
/-- What PutXattrs answers. -/
def putX (xs : List (ByteArray × List Int)) : St := if xs ≠ [] ∧ xsOk xs = true then (xsB xs.length xs, 0) else ([], 1)
theorem strN_size (zs : List Int) : (strOfNums zs).size = zs.length := by
  show (strOfNums zs).data.size = _
  simp [strOfNums]
theorem xs_bytes {w : World} {ao : Option Addr} {n : Nat} {xs : List (ByteArray × List Int)} (h : XsR w ao n xs) : ∀ x ∈ xs, Bytes x.2 := by
  intro x hx
  obtain ⟨i, hi, rfl⟩ := List.getElem_of_mem hx
  rcases h.2 with h0 | ⟨b, off, _, _, h3⟩
  · have := h.1; omega
  · obtain ⟨_, va, vn, vc, _, hb, _⟩ := h3 i (by have := h.1; omega)
    rw [gx_lt xs i hi] at hb
    exact hb.bytes
end Tab
set_option maxRecDepth 100000 in
theorem MayXattrs_any (a : Option Addr) (n c : Nat) (xs : List (ByteArray × List Int)) (w : World) (h : XsR w a n xs) (hc : n ≤ c) (hcm : c ≤ 9223372036854775807) (hnil : a = none → c = 0) (q : Bool) (hq : xsOk xs = q) :
    Calls Tryz.prog 175 #[.slice a n c] w fun e w' => e = .returned (.bool q) ∧ Below w.heap.size w w' := by
  obtain ⟨w1, hw1⟩ : ∃ w1, w1 = w.alloc (.cells (rootV a n c).cells 37) := ⟨_, rfl⟩
  have b1 : Below w.heap.size w w1 := by rw [hw1]; exact below_one _ _
  have hN : Ns w1 (some ⟨w.heap.size, 0, none⟩) 1 [(rootV a n c, rootN xs)] := by
    refine ⟨rfl, fun p hp => ?_, .inr ⟨w.heap.size, 0, rfl, by rw [hw1]; simp, fun i hi => ?_⟩⟩
    · simp at hp
      subst hp
      exact ⟨Rs.nil _ _, Nat.le_refl _, by simp [rootV], fun _ => rfl, rfl, by simp [rootV]; decide, rfl, rfl, rfl, rfl, (New.none _).bs, Nat.le_refl _, by simp [rootV], fun _ => rfl, rfl, by show (0 : Nat) ≤ _; omega, h.below b1, hc, hcm, hnil, rfl⟩
    · obtain rfl : i = 0 := by omega
      have hB := boxed w (rootV a n c)
      rw [← hw1] at hB
      exact ⟨hB.c0, hB.c1, hB.c2, hB.c3, hB.c4, hB.c5, hB.c6, hB.c7, hB.c8, hB.c9⟩
  have HC := hide (Check_any _ 1 1 _ w1 hN (Nat.le_refl _) (by omega))
  have e : nds [(rootV a n c, rootN xs)] = [rootN xs] := rfl
  rw [e, check_rootN] at HC
  have HB1 := hide b1
  have HW1 := hide hw1
  unfold Nv.cells rootV at HW1
  have HQ := hide hq
  clear b1 hw1 hN h e hq
  cases q with
  | true =>
    rw [HQ.out, if_pos rfl] at HC
    go_enter Tryz.func175, Tryz.ntmps175
    go_wp2_with fail
    rw [← HW1.out]
    refine HC.out.mono ?_
    rintro r w2 ⟨rfl, hb2⟩
    have HB2 := hide (HB1.out.trans (hb2.mono HB1.out.size))
    clear hb2 HC
    go_wp2
    go_ret
    exact ⟨rfl, HB2.out⟩
  | false =>
    rw [HQ.out, if_neg (by simp)] at HC
    go_enter Tryz.func175, Tryz.ntmps175
    go_wp2_with fail
    rw [← HW1.out]
    refine HC.out.mono ?_
    rintro r w2 ⟨rfl, hb2⟩
    have HB2 := hide (HB1.out.trans (hb2.mono HB1.out.size))
    clear hb2 HC
    go_wp2
    go_ret
    exact ⟨rfl, HB2.out⟩
set_option maxRecDepth 100000 in
set_option maxHeartbeats 4000000 in
theorem PutXattrs_any (a : Option Addr) (n c : Nat) (xs : List (ByteArray × List Int)) (w : World) (h : XsR w a n xs) (hc : n ≤ c) (hcm : c ≤ 9223372036854775807) (hnil : a = none → c = 0) :
    Calls Tryz.prog 120 #[.slice a n c] w fun r w' => PutsA (putX xs) w r w' := by
  have hlen := h.1
  by_cases h0 : n = 0
  · have e : putX xs = ([], 1) := by unfold putX; rw [if_neg (by intro hh; exact hh.1 (List.eq_nil_of_length_eq_zero (by omega)))]
    rw [e]
    subst h0
    clear e h
    go_enter Tryz.func120, Tryz.ntmps120
    go_wp2_with fail
    go_ret2
    exact ⟨none, 0, rfl, New.none _⟩
  · have hn0 : ((n : Int) == 0) = false := by simp; omega
    have hne : xs ≠ [] := fun e => by rw [e] at hlen; simp at hlen; omega
    cases hq : xsOk xs with
    | false =>
      have e : putX xs = ([], 1) := by unfold putX; rw [if_neg (by intro hh; rw [hq] at hh; exact absurd hh.2 (by simp))]
      rw [e]
      have HM := hide (MayXattrs_any a n c xs w h hc hcm hnil false hq)
      clear e h hq
      go_enter Tryz.func120, Tryz.ntmps120
      go_wp2_with fail
      refine HM.out.mono ?_
      rintro r w1 ⟨rfl, hb1⟩
      have HB := hide hb1
      clear hb1
      go_wp2_with fail
      go_ret2
      exact ⟨none, 0, rfl, (New.none w1).bs, Nat.le_refl _, by omega, fun _ => rfl, HB.out, fun a h => by simp at h⟩
    | true =>
      have e : putX xs = (xsB n xs, 0) := by unfold putX; rw [if_pos ⟨hne, hq⟩, hlen]
      rw [e]
      have HM := hide (MayXattrs_any a n c xs w h hc hcm hnil true hq)
      have HMe := hide (xsOk_mem hq).2
      have h8 := (xsOk_mem hq).1
      have HBy := hide (xs_bytes h)
      have HX := hide h
      clear e h hq
      go_enter Tryz.func120, Tryz.ntmps120
      go_wp2_with fail
      refine HM.out.mono ?_
      rintro r w1 ⟨rfl, hb1⟩
      obtain ⟨w2, hw2⟩ : ∃ w2, w2 = w1.alloc (.cells #[.slice none 0 0, .int .i64 0] 156) := ⟨_, rfl⟩
      have HT0 : Hid (TW w w1.heap.size ([], 0) w2) := by rw [hw2]; exact TW.new hb1
      have HW2 := hide hw2
      clear hw2 hb1 HM
      go_wp2_with fail
      rw [← HW2.out]
      refine (tw_num HT0.out (n : Int) 1 (by simp) (by constructor <;> omega) (by constructor <;> omega)).mono ?_
      rintro r w3 ⟨rfl, hT3⟩
      rw [wNum_ok [] 1 1 n rfl (by omega) (by omega) (by omega) (by omega)] at hT3
      have e1 : [] ++ by' 1 (n : Int) = xsB n (xs.take 0) := by simp [by', xsB]; omega
      rw [e1] at hT3
      have HT3 := hide hT3
      generalize w1.heap.size = p at *
      clear hT3 e1 HT0 HW2
      go_wp2_with fail
      go_loopw [20] (fun r wr => ∃ i : Nat, r = .int .i64 i ∧ i ≤ n ∧ TW w p (xsB n (xs.take i), 0) wr) (fun r _ => n - (intOf r).toNat)
      case atStart => exact ⟨0, rfl, Nat.zero_le _, HT3.out⟩
      case round =>
        clear HT3
        obtain ⟨i, rfl, hi, hT⟩ := hrel
        have HT := hide hT
        have hL : (xsB n (xs.take i)).length ≤ 2000 := by
          have h1 := flat_length (xs := xs.take i) (fun x hx => HMe.out x (List.mem_of_mem_take hx))
          have h2 : (xs.take i).length ≤ 8 := by simp; omega
          simp only [xsB, List.length_cons]
          omega
        by_cases hp : i < n
        · obtain ⟨b, off, rfl, hb, hcx⟩ := HX.out.at (by omega)
          obtain ⟨c0, va, vn, vc, c1, hB, _⟩ := hcx i hp
          replace c0 := (hT.bel.cell (p := ⟨b, off + i * 2, none⟩) hb).trans c0
          replace c1 := (hT.bel.cell (p := ⟨b, off + i * 2 + 1, none⟩) hb).trans c1
          have hbr : b < wr.heap.size := Nat.lt_of_lt_of_le hb hT.bel.size
          have hmem : gx xs i ∈ xs := by rw [gx_lt xs i (by omega)]; exact List.getElem_mem _
          obtain ⟨m1, m2⟩ := HMe.out _ hmem
          have hby := HBy.out _ hmem
          have HS := hide (xsB_take n xs i (by omega))
          have hd : (i : Int) < (n : Int) := by omega
          generalize gx xs i = X at *
          obtain ⟨nm, val⟩ := X
          simp only at c0 c1 hB m1 m2 hby HS
          obtain ⟨w4, hw4⟩ : ∃ w4, w4 = wr.alloc (.cells #[.string nm, .slice va vn vc] 144) := ⟨_, rfl⟩
          have b4 : Below wr.heap.size wr w4 := by rw [hw4]; exact below_one _ _
          have d1 : w4.heap[wr.heap.size]? = some (.cells #[.string nm, .slice va vn vc] 144 (0, 0)) := by rw [hw4]; exact heap_new rfl
          have HD1 := hide d1
          have HT4 := hide (hT.below b4)
          have HB0 := hide hB
          have HW4 := hide hw4
          have hpl : p < wr.heap.size := by
            obtain ⟨v, hv⟩ := hT.wr
            exact hv.lt
          clear hcx hT hB hw4 b4 d1 HT
          go_wp2_with fail
          rw [← HW4.out]
          refine (tw_text HT4.out nm (by simp; omega) (by omega)).mono ?_
          rintro r w5 ⟨rfl, hT5, hK5⟩
          rw [wTxt_ok _ nm (by omega)] at hT5
          have d5 := hK5 _ _ _ HD1.out (by decide) (by omega)
          have c5 : w5.cell? ⟨wr.heap.size, 1, none⟩ = some (.slice va vn vc) := by simp [World.cell?, d5]
          have s5 := str_any (HB0.out.below hT5.bel) vc
          have hl5 : (xsB n (xs.take i) ++ ((nm.size : Int) :: sb nm)).length ≤ 2100 := by simp [sb_length]; omega
          have HT5 := hide hT5
          clear hT5 hK5 d5 HT4 HW4 HD1 c0 c1
          go_wp2_with fail
          refine (tw_text HT5.out (strOfNums val) (by simp only []; omega) (by rw [strN_size]; omega)).mono ?_
          rintro r w6 ⟨rfl, hT6, _⟩
          rw [wTxt_ok _ (strOfNums val) (by rw [strN_size]; omega), Cap.sb_str hby, strN_size, ← HS.out] at hT6
          have HT6 := hide hT6
          clear hT6 HT5 s5 c5
          go_wp2_with fail
          go_roundw
          case rel => exact ⟨i + 1, rfl, by omega, HT6.out⟩
          case measure => simp [intOf]; omega
        · obtain rfl : i = n := by omega
          rw [List.take_of_length_le (by omega)] at HT hL
          clear hT
          go_wp2_with fail
          refine (tw_done HT.out (by simp; omega)).mono ?_
          rintro r w2 ⟨ao, c', rfl, hN, hT2⟩
          have HN := hide hN
          clear hN
          go_wp2_with fail
          refine (tw_err hT2).mono ?_
          rintro r w3 ⟨rfl, hw3⟩
          obtain rfl := hw3.symm
          go_wp2
          go_ret2
          exact ⟨ao, c', rfl, HN.out⟩
end Go.Proofs.YtchcejjoncihkaaGreatDoor

/- Layer 14, on lists alone: what of a tree is laid down, part by part: blocks, records, lists, attributes; how long they are at most. Nothing here speaks of the program. -/
namespace Go.Proofs.YtchcejjoncihkaaGreatDoor.Bld
set_option linter.unusedVariables false
open Lz (g)
open Crc (ent)
open Frm Mtr Tre Nam Tab

/-- The ref of what comes next in a row. -/
def rfn (z : List Int) : Nat := 256 * (fr ent z (z.length / 128)).length + z.length % 128
theorem rf_rfn (z : List Int) : rf ent z z.length = (rfn z : Int) := by unfold rf rfn; omega

/-- Where a file's bytes are. -/
structure Fl where
  start : Nat
  frag : Nat
  off : Nat
abbrev Fm := List (Int × Fl)
def lkF (M : Fm) (x : Int) : Option Fl := (M.find? (fun p => decide (p.1 = x))).map (·.2)
theorem lkF_none {M : Fm} {x : Int} {a : Fl} (h : lkF M x = none) : lkF (M ++ [(x, a)]) x = some a := by
  unfold lkF at h ⊢
  rw [List.find?_append]
  cases hf : M.find? (fun p => decide (p.1 = x)) with
  | none => simp
  | some p => rw [hf] at h; simp at h
theorem lkF_other {M : Fm} {x y : Int} {a : Fl} (h : y ≠ x) : lkF (M ++ [(x, a)]) y = lkF M y := by
  unfold lkF
  rw [List.find?_append]
  cases hf : M.find? (fun p => decide (p.1 = y)) with
  | none => simp [Ne.symm h]
  | some p => simp
/-- The bytes of files that are being laid down: blocks, tails, where each file is. -/
structure Cs where
  s : Dat.Ws
  b : Frg.Bl
  m : Fm
def cs0 : Cs := ⟨([], []), [], []⟩
def cstep (c : Cs) (n : Nod) : Cs :=
  if n.kind ≠ 2 ∨ (lkF c.m n.ino).isSome = true then c
  else ⟨Dat.addS 64 c.s (Dat.run ent n.data), (Frg.add c.b (Dat.tl n.data)).1, c.m ++ [(n.ino, ⟨Dat.addA 64 c.s (Dat.run ent n.data), (Frg.add c.b (Dat.tl n.data)).2.1, (Frg.add c.b (Dat.tl n.data)).2.2⟩)]⟩
/-- What is laid down of the first k nodes. -/
def cont (l : List Nod) : Nat → Cs
  | 0 => cs0
  | k + 1 => cstep (cont l k) (gn l k)
/-- The frames of the first k blocks of tails behind what is laid down, and their places. -/
def plc (B : Frg.Bl) (s : List Int) : Nat → List Int × List Int
  | 0 => (s, [])
  | k + 1 => ((plc B s k).1 ++ put ent (B.getD k []), (plc B s k).2 ++ [((64 + (plc B s k).1.length : Nat) : Int)])

/-- How many nodes are one with the i-th. -/
def lnk (l : List Nod) (i : Nat) : Nat := (l.filter (fun n => n.ino == (gn l i).ino)).length
/-- Whether the i-th node is within names. -/
def kidN (l : List Nod) (k : List ByteArray) (i : Nat) : Bool := decide ((gn l i).names.length = k.length + 1) && decide ((gn l i).names.take k.length = k)
def kidsN (l : List Nod) (k : List ByteArray) : List Nat := (List.range l.length).filter (kidN l k)
theorem kidN_iff {l : List Nod} {k : List ByteArray} {j : Nat} : kidN l k j = true ↔ (gn l j).names.length = k.length + 1 ∧ (gn l j).names.take k.length = k := by
  simp only [kidN, Bool.and_eq_true, decide_eq_true_eq]
theorem kidsN_mem {l : List Nod} {k : List ByteArray} {j : Nat} : j ∈ kidsN l k ↔ j < l.length ∧ kidN l k j = true := by
  unfold kidsN; rw [List.mem_filter, List.mem_range]

/-- What is being written: three rows, the refs of the nodes that were written, those of attributes. -/
structure Ws where
  I : List Int
  D : List Int
  X : List Int
  R : List (Nat × Nat)
  A : Dat.Wm
def ws0 : Ws := ⟨[], [], [], [], []⟩
def lkR (l : List Nod) (R : List (Nat × Nat)) (x : Int) : Option Nat := (R.find? (fun p => decide ((gn l p.1).ino = x))).map (·.2)
theorem lkR_mem {l : List Nod} {R : List (Nat × Nat)} {x : Int} (h : lkR l R x = none) {p : Nat × Nat} (hp : p ∈ R) : (gn l p.1).ino ≠ x := by
  unfold lkR at h
  cases hf : R.find? (fun p => decide ((gn l p.1).ino = x)) with
  | none => have := List.find?_eq_none.1 hf p hp; simpa using this
  | some p => rw [hf] at h; simp at h
theorem lkR_at {l : List Nod} {R : List (Nat × Nat)} {i r : Nat} (h : lkR l R (gn l i).ino = none) : lkR l (R ++ [(i, r)]) (gn l i).ino = some r := by
  unfold lkR at h ⊢
  rw [List.find?_append]
  cases hf : R.find? (fun p => decide ((gn l p.1).ino = (gn l i).ino)) with
  | none => simp
  | some p => rw [hf] at h; simp at h
theorem lkR_other {l : List Nod} {R : List (Nat × Nat)} {i r : Nat} {y : Int} (h : (gn l i).ino ≠ y) : lkR l (R ++ [(i, r)]) y = lkR l R y := by
  unfold lkR
  rw [List.find?_append]
  cases hf : R.find? (fun p => decide ((gn l p.1).ino = y)) with
  | none => simp [h]
  | some p => simp
/-- Attributes that are added, but once. -/
def xat (s : Ws) (xs : List (ByteArray × List Int)) : Ws × Nat :=
  if xs.length = 0 then (s, 0) else match Dat.look s.A (putX xs).1 with
  | some r => (s, r + 1)
  | none => ({ s with X := s.X ++ (putX xs).1, A := s.A ++ [((putX xs).1, rfn s.X)] }, rfn s.X + 1)
theorem xat_nil {s : Ws} {xs : List (ByteArray × List Int)} (h : xs.length = 0) : xat s xs = (s, 0) := by rw [xat, if_pos h]
theorem xat_some {s : Ws} {xs : List (ByteArray × List Int)} {r : Nat} (h : xs.length ≠ 0) (hl : Dat.look s.A (putX xs).1 = some r) : xat s xs = (s, r + 1) := by rw [xat, if_neg h, hl]
theorem xat_none {s : Ws} {xs : List (ByteArray × List Int)} (h : xs.length ≠ 0) (hl : Dat.look s.A (putX xs).1 = none) : xat s xs = ({ s with X := s.X ++ (putX xs).1, A := s.A ++ [((putX xs).1, rfn s.X)] }, rfn s.X + 1) := by rw [xat, if_neg h, hl]
/-- Bytes that are added, but once. -/
def once (s : Ws) (z : List Int) : Ws × Nat := match Dat.look s.A z with
  | some r => (s, r)
  | none => ({ s with X := s.X ++ z, A := s.A ++ [(z, rfn s.X)] }, rfn s.X)
theorem xat_once {s : Ws} {xs : List (ByteArray × List Int)} (h : xs.length ≠ 0) : xat s xs = ((once s (putX xs).1).1, (once s (putX xs).1).2 + 1) := by
  unfold once
  cases hl : Dat.look s.A (putX xs).1 with
  | some r => rw [xat_some h hl]
  | none => rw [xat_none h hl]
/-- What is put of a record, and of a list: nothing where it may not be. -/
def ip (r : Ino.Rec) : List Int := if r.may = true then Ino.putB r else []
def dp (es : List Dir.Ent) : List Int := if Dir.may es = true then Dir.putB es else []
def rec0 : Ino.Rec := ⟨0, 0, 0, 0, 0, 0, 0, 0, 0, 0, ⟨#[]⟩⟩
/-- A record, of what is its kind's own. -/
def hd (l : List Nod) (own : List Int) (i x : Nat) (r : Ino.Rec) : Ino.Rec :=
  { r with kind := (gn l i).kind, mode := (gn l i).mode, uid := (own.idxOf (gn l i).uid : Nat), gid := (own.idxOf (gn l i).gid : Nat), links := (lnk l i : Nat), xattr := (x : Nat) }
def fin (l : List Nod) (own : List Int) (i : Nat) (q : Ws × Ino.Rec) : Ws × Nat :=
  ({ (xat q.1 (gn l i).xs).1 with I := (xat q.1 (gn l i).xs).1.I ++ ip (hd l own i (xat q.1 (gn l i).xs).2 q.2), R := (xat q.1 (gn l i).xs).1.R ++ [(i, rfn (xat q.1 (gn l i).xs).1.I)] }, rfn (xat q.1 (gn l i).xs).1.I)
/-- An entry: the p-th name of the j-th node, its kind, a ref. -/
def ent1 (l : List Nod) (p j r : Nat) : Dir.Ent := ⟨gs (gn l j).names p, (gn l j).kind, (r : Int)⟩
/-- Nodes that are written one behind the other, and their entries. -/
def kids (l : List Nod) (wr : Nat → Ws → Ws × Nat) (p : Nat) : List Nat → Ws × List Dir.Ent → Ws × List Dir.Ent
  | [], a => a
  | j :: js, a => kids l wr p js ((wr j a.1).1, a.2 ++ [ent1 l p j (wr j a.1).2])
theorem kids_append (l : List Nod) (wr : Nat → Ws → Ws × Nat) (p : Nat) : ∀ (js ks : List Nat) (a : Ws × List Dir.Ent), kids l wr p (js ++ ks) a = kids l wr p ks (kids l wr p js a)
  | [], ks, a => rfl
  | j :: js, ks, a => by rw [List.cons_append, kids, kids, kids_append l wr p js ks]
def flOf (l : List Nod) (fm : Fm) (i : Nat) : Fl := (lkF fm (gn l i).ino).getD ⟨0, 0, 0⟩
/-- What is a kind's own; of a directory all that is in it is written. -/
def okd (l : List Nod) (fm : Fm) (wr : Nat → Ws → Ws × Nat) (i : Nat) (s : Ws) : Ws × Ino.Rec :=
  if (gn l i).kind = 1 then
    ({ (kids l wr (gn l i).names.length (kidsN l (gn l i).names) (s, [])).1 with D := (kids l wr (gn l i).names.length (kidsN l (gn l i).names) (s, [])).1.D ++ dp (kids l wr (gn l i).names.length (kidsN l (gn l i).names) (s, [])).2 },
      { rec0 with start := (rfn (kids l wr (gn l i).names.length (kidsN l (gn l i).names) (s, [])).1.D : Nat), size := ((dp (kids l wr (gn l i).names.length (kidsN l (gn l i).names) (s, [])).2).length : Nat) })
  else if (gn l i).kind = 2 then (s, { rec0 with start := ((flOf l fm i).start : Nat), size := ((gn l i).data.length : Nat), frag := ((flOf l fm i).frag : Nat), off := ((flOf l fm i).off : Nat) })
  else (s, { rec0 with target := (gn l i).target })
/-- A node is written, all that is in it ahead. -/
def wr (l : List Nod) (own : List Int) (fm : Fm) : Nat → Nat → Ws → Ws × Nat
  | 0, _, s => (s, 0)
  | f + 1, i, s => match lkR l s.R (gn l i).ino with
    | some r => (s, r)
    | none => fin l own i (okd l fm (wr l own fm f) i s)
theorem wr_some {l : List Nod} {own : List Int} {fm : Fm} {f i r : Nat} {s : Ws} (h : lkR l s.R (gn l i).ino = some r) : wr l own fm (f + 1) i s = (s, r) := by rw [wr, h]
theorem wr_none {l : List Nod} {own : List Int} {fm : Fm} {f i : Nat} {s : Ws} (h : lkR l s.R (gn l i).ino = none) : wr l own fm (f + 1) i s = fin l own i (okd l fm (wr l own fm f) i s) := by rw [wr, h]
theorem xat_R (s : Ws) (xs : List (ByteArray × List Int)) : (xat s xs).1.R = s.R ∧ (xat s xs).1.I = s.I ∧ (xat s xs).1.D = s.D := by
  unfold xat
  split
  · exact ⟨rfl, rfl, rfl⟩
  · split <;> exact ⟨rfl, rfl, rfl⟩
/-- What is not below is not written. -/
theorem kids_other {l : List Nod} {wr : Nat → Ws → Ws × Nat} {p : Nat} {x : Int} : ∀ (js : List Nat) (a : Ws × List Dir.Ent), (∀ j ∈ js, ∀ s, lkR l (wr j s).1.R x = lkR l s.R x) → lkR l (kids l wr p js a).1.R x = lkR l a.1.R x
  | [], a, h => rfl
  | j :: js, a, h => by
    rw [kids, kids_other js _ (fun k hk => h k (List.mem_cons_of_mem _ hk))]
    exact h j (List.mem_cons_self ..) a.1
theorem okd_R {l : List Nod} {fm : Fm} {wr : Nat → Ws → Ws × Nat} {i : Nat} {s : Ws} {x : Int} (h : ∀ j ∈ kidsN l (gn l i).names, ∀ s, lkR l (wr j s).1.R x = lkR l s.R x) : lkR l (okd l fm wr i s).1.R x = lkR l s.R x := by
  unfold okd
  split
  · exact kids_other _ _ h
  · split <;> rfl
theorem wr_other {l : List Nod} {own : List Int} {fm : Fm} {x : Int} : ∀ (f j : Nat) (s : Ws), (∀ m, m < l.length → (gn l m).ino = x → (gn l m).names.length < (gn l j).names.length) → j < l.length → lkR l (wr l own fm f j s).1.R x = lkR l s.R x
  | 0, j, s, h, hj => rfl
  | f + 1, j, s, h, hj => by
    cases e : lkR l s.R (gn l j).ino with
    | some r => rw [wr_some e]
    | none =>
      rw [wr_none e]
      have hne : (gn l j).ino ≠ x := fun hx => by have := h j hj hx; omega
      unfold fin
      simp only []
      rw [lkR_other hne, (xat_R _ _).1]
      refine okd_R fun k hk s => ?_
      obtain ⟨h1, h2⟩ := kidsN_mem.1 hk
      exact wr_other f k s (fun m hm hx => by have := h m hm hx; have := (kidN_iff.1 h2).1; omega) h1
end Go.Proofs.YtchcejjoncihkaaGreatDoor.Bld

/- Layer 14, on lists alone: how long what is written is at most. -/
namespace Go.Proofs.YtchcejjoncihkaaGreatDoor.Bld
set_option linter.unusedVariables false
open Lz (g)
open Crc (ent)
open Frm Mtr Tre Nam Tab

/-- Sums of the first n. -/
def sm (e : Nat → Nat) : Nat → Nat
  | 0 => 0
  | n + 1 => sm e n + e n
theorem sm_le {e f : Nat → Nat} : ∀ n, (∀ k, k < n → e k ≤ f k) → sm e n ≤ sm f n
  | 0, _ => Nat.le_refl _
  | n + 1, h => Nat.add_le_add (sm_le n fun k hk => h k (by omega)) (h n (by omega))
theorem sm_eq {e f : Nat → Nat} : ∀ n, (∀ k, k < n → e k = f k) → sm e n = sm f n
  | 0, _ => rfl
  | n + 1, h => by rw [sm, sm, sm_eq n fun k hk => h k (by omega), h n (by omega)]
theorem sm_add (e f : Nat → Nat) : ∀ n, sm (fun k => e k + f k) n = sm e n + sm f n
  | 0 => rfl
  | n + 1 => by rw [sm, sm_add e f n, sm, sm]; omega
theorem sm_zero : ∀ n, sm (fun _ => 0) n = 0
  | 0 => rfl
  | n + 1 => by rw [sm, sm_zero n]
theorem sm_const {e : Nat → Nat} {c : Nat} : ∀ n, (∀ k, k < n → e k ≤ c) → sm e n ≤ c * n
  | 0, _ => Nat.zero_le _
  | n + 1, h => by
    have h1 := sm_const n fun k hk => h k (by omega)
    have h2 := h n (by omega)
    rw [sm, Nat.mul_add]; omega
theorem sm_swap (a : Nat → Nat → Nat) (m : Nat) : ∀ n, sm (fun v => sm (fun k => a v k) m) n = sm (fun k => sm (fun v => a v k) n) m
  | 0 => (sm_zero m).symm
  | n + 1 => by rw [sm, sm_swap a m n, ← sm_add]; rfl
theorem sm_pick (e : Nat → Nat) (v : Nat) : ∀ n, sm (fun k => if k = v then e k else 0) n = if v < n then e v else 0
  | 0 => rfl
  | n + 1 => by
    rw [sm, sm_pick e v n]
    by_cases h1 : v < n
    · rw [if_pos h1, if_neg (by omega), if_pos (by omega)]; rfl
    · by_cases h2 : n = v
      · subst h2; rw [if_neg h1, if_pos rfl, if_pos (by omega), Nat.zero_add]
      · rw [if_neg h1, if_neg h2, if_neg (by omega)]
theorem sm_one {P : Nat → Bool} {c : Nat} : ∀ n, (∀ i j, i < n → j < n → P i = true → P j = true → i = j) → sm (fun v => if P v = true then c else 0) n ≤ c
  | 0, _ => Nat.zero_le _
  | n + 1, h => by
    rw [sm]
    by_cases hp : P n = true
    · rw [if_pos hp, sm_eq (f := fun _ => 0) n (fun k hk => if_neg fun hk2 => by have := h k n (by omega) (by omega) hk2 hp; omega), sm_zero, Nat.zero_add]
      exact Nat.le_refl _
    · rw [if_neg hp]
      exact sm_one n fun i j hi hj => h i j (by omega) (by omega)
theorem sum_le {e : Nat → Nat} {n : Nat} : ∀ V : List Nat, V.Nodup → (∀ v ∈ V, v < n) → (V.map e).sum = sm (fun k => if k ∈ V then e k else 0) n
  | [], _, _ => by simp [sm_zero]
  | v :: V, hd, hl => by
    rw [List.nodup_cons] at hd
    rw [List.map_cons, List.sum_cons, sum_le V hd.2 fun x hx => hl x (List.mem_cons_of_mem _ hx)]
    have h1 := sm_pick e v n
    rw [if_pos (hl v (List.mem_cons_self ..))] at h1
    rw [← h1, ← sm_add]
    refine sm_eq n fun k _ => ?_
    by_cases hk : k = v
    · subst hk; rw [if_pos rfl, if_neg hd.1, if_pos (List.mem_cons_self ..)]; rfl
    · rw [if_neg hk, Nat.zero_add]
      by_cases hm : k ∈ V
      · rw [if_pos hm, if_pos (List.mem_cons_of_mem _ hm)]
      · rw [if_neg hm, if_neg]
        intro h; rcases List.mem_cons.1 h with h | h
        · exact hk h
        · exact hm h
theorem sum_all {e : Nat → Nat} {n : Nat} {V : List Nat} (hd : V.Nodup) (hl : ∀ v ∈ V, v < n) : (V.map e).sum ≤ sm e n := by
  rw [sum_le V hd hl]
  refine sm_le n fun k _ => ?_
  split
  · exact Nat.le_refl _
  · exact Nat.zero_le _
theorem sum_filter (e : Nat → Nat) (P : Nat → Bool) : ∀ n, (((List.range n).filter P).map e).sum = sm (fun k => if P k = true then e k else 0) n
  | 0 => rfl
  | n + 1 => by
    rw [List.range_succ, List.filter_append, List.map_append, List.sum_append, sum_filter e P n, sm]
    congr 1
    by_cases h : P n = true
    · simp [h]
    · simp [h]
theorem len_sum (V : List Nat) : (V.map fun _ => 1).sum = V.length := by
  induction V with
  | nil => rfl
  | cons v V ih => rw [List.map_cons, List.sum_cons, ih, List.length_cons]; omega
theorem len_le {n : Nat} {V : List Nat} (hd : V.Nodup) (hl : ∀ v ∈ V, v < n) : V.length ≤ n := by
  have h := sum_all (e := fun _ => 1) hd hl
  rw [len_sum] at h
  have := sm_const (e := fun _ => 1) (c := 1) n (fun _ _ => Nat.le_refl _)
  omega

/-- What a node's record, its name, its list, its attributes take at most. -/
def iw (l : List Nod) (v : Nat) : Nat := 22 + (gn l v).target.size
def nw (l : List Nod) (k : Nat) : Nat := 6 + (gs (gn l k).names ((gn l k).names.length - 1)).size
def dw (l : List Nod) (v : Nat) : Nat := if (gn l v).kind = 1 then ((kidsN l (gn l v).names).map (nw l)).sum else 0
def xw (l : List Nod) (v : Nat) : Nat := if (gn l v).xs.length = 0 then 0 else 1 + 242 * (gn l v).xs.length
/-- The nodes that were written. -/
def vs (s : Ws) : List Nat := s.R.map (·.1)
/-- What holds of what is written; i: a node that is being written (its list is there, or not yet). -/
structure WJ (l : List Nod) (s : Ws) (e : Nat) : Prop where
  nd : (vs s).Nodup
  lt : ∀ v ∈ vs s, v < l.length
  I : s.I.length ≤ ((vs s).map (iw l)).sum
  D : s.D.length ≤ ((vs s).map (dw l)).sum + e
  X : s.X.length ≤ ((vs s).map (xw l)).sum
  A : s.A.length ≤ s.R.length
  Av : ∀ p ∈ s.A, p.2 ≤ 270 * s.X.length + 127
  Rv : ∀ p ∈ s.R, p.2 ≤ 270 * s.I.length + 127
theorem rfn_le (z : List Int) : rfn z ≤ 270 * z.length + 127 := by
  have := fr_length ent z (z.length / 128)
  unfold rfn; omega
abbrev WI (l : List Nod) (s : Ws) : Prop := WJ l s 0
theorem wi0 (l : List Nod) : WI l ws0 := ⟨List.nodup_nil, fun v h => by simp [vs, ws0] at h, by simp [ws0], by simp [ws0], by simp [ws0], by simp [ws0], fun p h => by simp [ws0] at h, fun p h => by simp [ws0] at h⟩
theorem ip_len (r : Ino.Rec) : (ip r).length ≤ 22 + r.target.size := by
  unfold ip
  split
  · rename_i h
    have hl := Ino.ownB_length h
    have e : (Ino.putB r).length = 13 + (Ino.ownB r).length := by simp [Ino.putB, Ino.headB_length]
    have hk := Ino.kind_may h
    unfold Ino.isKind at hk
    simp at hk
    rcases hk with hk | hk | hk
    all_goals omega
  · simp
theorem putX_len (xs : List (ByteArray × List Int)) : (putX xs).1.length ≤ if xs.length = 0 then 0 else 1 + 242 * xs.length := by
  unfold putX
  split
  · rename_i h
    have h2 := flat_length (xsOk_mem h.2).2
    have h3 : xs.length ≠ 0 := fun e => h.1 (List.eq_nil_of_length_eq_zero e)
    rw [if_neg h3]
    simp only [xsB, List.length_cons]; omega
  · simp
theorem dp_len (l : List Nod) (wr : Nat → Ws → Ws × Nat) (p : Nat) : ∀ (js : List Nat) (a : Ws × List Dir.Ent), (∀ j ∈ js, (gn l j).names.length = p + 1) → (Dir.putB (kids l wr p js a).2).length = (Dir.putB a.2).length + (js.map (nw l)).sum
  | [], a, _ => by simp [kids]
  | j :: js, a, h => by
    rw [kids, dp_len l wr p js _ (fun k hk => h k (List.mem_cons_of_mem _ hk)), Dir.putB_append, Dir.putB_one, List.length_append, Dir.entB_length, List.map_cons, List.sum_cons]
    have h1 := h j (List.mem_cons_self ..)
    unfold nw ent1
    rw [h1, Nat.add_sub_cancel]
    simp only []; omega
theorem kids_inv {l : List Nod} {wr : Nat → Ws → Ws × Nat} {p : Nat} : ∀ (js : List Nat) (a : Ws × List Dir.Ent), (∀ j ∈ js, ∀ s, WI l s → WI l (wr j s).1) → WI l a.1 → WI l (kids l wr p js a).1
  | [], a, _, h => h
  | j :: js, a, hw, h => by
    rw [kids]
    exact kids_inv js _ (fun k hk => hw k (List.mem_cons_of_mem _ hk)) (hw j (List.mem_cons_self ..) _ h)
theorem okd_inv {l : List Nod} {fm : Fm} {wr : Nat → Ws → Ws × Nat} {i : Nat} {s : Ws} (hw : ∀ j ∈ kidsN l (gn l i).names, ∀ s, WI l s → WI l (wr j s).1) (h : WI l s) :
    WJ l (okd l fm wr i s).1 (dw l i) ∧ (okd l fm wr i s).2.target.size ≤ (gn l i).target.size := by
  unfold okd
  by_cases hk : (gn l i).kind = 1
  · rw [if_pos hk]
    have h1 := kids_inv (p := (gn l i).names.length) _ (s, []) hw h
    have h2 := dp_len l wr (gn l i).names.length (kidsN l (gn l i).names) (s, []) (fun j hj => (kidN_iff.1 (kidsN_mem.1 hj).2).1)
    rw [Dir.putB_nil, List.length_nil, Nat.zero_add] at h2
    refine ⟨⟨h1.nd, h1.lt, h1.I, ?_, h1.X, h1.A, h1.Av, h1.Rv⟩, by exact Nat.zero_le _⟩
    have h3 := h1.D
    have h4 : (dp (kids l wr (gn l i).names.length (kidsN l (gn l i).names) (s, [])).2).length ≤ dw l i := by
      rw [dw, if_pos hk, ← h2]
      unfold dp
      split
      · exact Nat.le_refl _
      · exact Nat.zero_le _
    show (_ ++ _ : List Int).length ≤ ((vs (kids l wr (gn l i).names.length (kidsN l (gn l i).names) (s, [])).1).map (dw l)).sum + dw l i
    rw [List.length_append]
    omega
  · rw [if_neg hk]
    have h2 : WJ l s (dw l i) := ⟨h.nd, h.lt, h.I, by have := h.D; omega, h.X, h.A, h.Av, h.Rv⟩
    split
    · exact ⟨h2, by exact Nat.zero_le _⟩
    · exact ⟨h2, Nat.le_refl _⟩
theorem xat_v {s : Ws} (h : ∀ p ∈ s.A, p.2 ≤ 270 * s.X.length + 127) (xs : List (ByteArray × List Int)) : ∀ p ∈ (xat s xs).1.A, p.2 ≤ 270 * (xat s xs).1.X.length + 127 := by
  by_cases h0 : xs.length = 0
  · rw [xat_nil h0]; exact h
  · cases hl : Dat.look s.A (putX xs).1 with
    | some r => rw [xat_some h0 hl]; exact h
    | none =>
      rw [xat_none h0 hl]
      intro p hp
      simp only [List.mem_append, List.mem_singleton, List.length_append] at hp ⊢
      rcases hp with hp | rfl
      · have := h p hp; omega
      · have := rfn_le s.X
        simp only []; omega
theorem once_v {s : Ws} (h : ∀ p ∈ s.A, p.2 ≤ 270 * s.X.length + 127) (z : List Int) : (once s z).2 ≤ 270 * s.X.length + 127 := by
  unfold once
  cases hl : Dat.look s.A z with
  | some r => exact h (z, r) (Dat.look_mem hl)
  | none => exact rfn_le s.X
theorem fin_inv {l : List Nod} {own : List Int} {i : Nat} {q : Ws × Ino.Rec} (hi : i < l.length) (h : WJ l q.1 (dw l i)) (ht : q.2.target.size ≤ (gn l i).target.size) (hn : lkR l q.1.R (gn l i).ino = none) : WI l (fin l own i q).1 := by
  obtain ⟨e1, e2, e3⟩ := xat_R q.1 (gn l i).xs
  have hv : i ∉ vs q.1 := fun hm => by
    unfold vs at hm
    obtain ⟨p, hp, rfl⟩ := List.mem_map.1 hm
    exact lkR_mem hn hp rfl
  have hAv : ∀ p ∈ (xat q.1 (gn l i).xs).1.A, p.2 ≤ 270 * (xat q.1 (gn l i).xs).1.X.length + 127 := xat_v h.Av _
  have hX : (xat q.1 (gn l i).xs).1.X.length ≤ ((vs q.1).map (xw l)).sum + xw l i ∧ (xat q.1 (gn l i).xs).1.A.length ≤ q.1.R.length + 1 := by
    have h1 := h.X
    have h2 := h.A
    by_cases h0 : (gn l i).xs.length = 0
    · rw [xat_nil h0]; exact ⟨Nat.le_trans h1 (Nat.le_add_right _ _), Nat.le_succ_of_le h2⟩
    · cases hl : Dat.look q.1.A (putX (gn l i).xs).1 with
      | some r => rw [xat_some h0 hl]; exact ⟨Nat.le_trans h1 (Nat.le_add_right _ _), Nat.le_succ_of_le h2⟩
      | none =>
        rw [xat_none h0 hl]
        have h3 := putX_len (gn l i).xs
        rw [if_neg h0] at h3
        simp only [List.length_append, List.length_cons, List.length_nil]
        rw [xw, if_neg h0]
        exact ⟨by omega, by omega⟩
  have evs : vs (fin l own i q).1 = vs q.1 ++ [i] := by unfold vs fin; simp only [e1, List.map_append, List.map_cons, List.map_nil]
  have hip := ip_len (hd l own i (xat q.1 (gn l i).xs).2 q.2)
  have htt : (hd l own i (xat q.1 (gn l i).xs).2 q.2).target.size ≤ (gn l i).target.size := ht
  refine ⟨?_, fun v hv => ?_, ?_, ?_, ?_, ?_, ?_, ?_⟩
  · rw [evs, List.nodup_append]
    refine ⟨h.nd, by simp, fun a ha b hb => ?_⟩
    simp at hb
    subst hb
    exact fun e => hv (e ▸ ha)
  · rw [evs] at hv
    rcases List.mem_append.1 hv with hv | hv
    · exact h.lt v hv
    · simp at hv; omega
  · rw [evs, List.map_append, List.sum_append]
    have h1 := h.I
    unfold fin
    simp only [e2, List.length_append, List.map_cons, List.map_nil, List.sum_cons, List.sum_nil, iw]
    omega
  · rw [evs, List.map_append, List.sum_append]
    have h1 := h.D
    unfold fin
    simp only [e3, List.map_cons, List.map_nil, List.sum_cons, List.sum_nil]
    omega
  · rw [evs, List.map_append, List.sum_append]
    unfold fin
    simp only [List.map_cons, List.map_nil, List.sum_cons, List.sum_nil]
    omega
  · unfold fin
    simp only [e1, List.length_append, List.length_cons, List.length_nil]
    omega
  · exact hAv
  · intro p hp
    unfold fin at hp ⊢
    simp only [e1, e2, List.mem_append, List.mem_singleton, List.length_append] at hp ⊢
    rcases hp with hp | rfl
    · have := h.Rv p hp; omega
    · have := rfn_le q.1.I
      simp only []; omega
/-- A directory's Ino is its own alone. -/
def Uno (l : List Nod) : Prop := ∀ i j, i < l.length → j < l.length → (gn l i).ino = (gn l j).ino → (gn l i).kind = 1 → i = j
theorem okd_none {l : List Nod} {own : List Int} {fm : Fm} (hU : Uno l) {f i : Nat} {s : Ws} (hi : i < l.length) (h : lkR l s.R (gn l i).ino = none) : lkR l (okd l fm (wr l own fm f) i s).1.R (gn l i).ino = none := by
  by_cases hk : (gn l i).kind = 1
  · rw [okd_R, h]
    intro j hj s
    obtain ⟨h1, h2⟩ := kidsN_mem.1 hj
    refine wr_other f j s (fun m hm hx => ?_) h1
    have e := hU i m hi hm hx.symm hk
    subst e
    have := (kidN_iff.1 h2).1
    omega
  · unfold okd
    rw [if_neg hk]
    split <;> exact h
theorem wr_inv {l : List Nod} {own : List Int} {fm : Fm} (hU : Uno l) : ∀ (f i : Nat) (s : Ws), i < l.length → WI l s → WI l (wr l own fm f i s).1
  | 0, i, s, _, h => h
  | f + 1, i, s, hi, h => by
    cases e : lkR l s.R (gn l i).ino with
    | some r => rw [wr_some e]; exact h
    | none =>
      rw [wr_none e]
      obtain ⟨h1, h2⟩ := okd_inv (fm := fm) (wr := wr l own fm f) (i := i) (fun j hj s hs => wr_inv hU f j s (kidsN_mem.1 hj).1 hs) h
      exact fin_inv hi h1 h2 (okd_none hU hi e)
/-- Each node is within one directory at most. -/
theorem dw_sum {l : List Nod} (hd : (l.map Nod.names).Nodup) : sm (dw l) l.length ≤ sm (nw l) l.length := by
  have h1 : sm (dw l) l.length ≤ sm (fun v => sm (fun k => if kidN l (gn l v).names k = true then nw l k else 0) l.length) l.length := by
    refine sm_le _ fun v hv => ?_
    unfold dw
    split
    · unfold kidsN; rw [sum_filter]; exact Nat.le_refl _
    · exact Nat.zero_le _
  refine Nat.le_trans h1 ?_
  rw [sm_swap]
  refine sm_le _ fun k hk => ?_
  refine sm_one _ fun i j hi hj p1 p2 => ?_
  have e1 := kidN_iff.1 p1
  have e2 := kidN_iff.1 p2
  have e : (gn l i).names = (gn l j).names := by
    have : (gn l i).names.length = (gn l j).names.length := by omega
    rw [← e1.2, ← e2.2, this]
  rw [gn_lt l i hi, gn_lt l j hj] at e
  have := (List.getElem_inj (i := i) (j := j) (xs := l.map Nod.names) (h₀ := by simpa using hi) (h₁ := by simpa using hj) hd).1 (by simpa using e)
  exact this
section
variable {l : List Nod} {s : Ws}
theorem WJ.bR {e : Nat} (h : WJ l s e) : s.R.length ≤ l.length := by
  have := len_le h.nd h.lt
  unfold vs at this
  simpa using this
theorem WJ.bA {e : Nat} (h : WJ l s e) : s.A.length ≤ l.length := Nat.le_trans h.A h.bR
theorem WJ.bI {e : Nat} (h : WJ l s e) : s.I.length ≤ sm (iw l) l.length := Nat.le_trans h.I (sum_all h.nd h.lt)
theorem WJ.bX {e : Nat} (h : WJ l s e) : s.X.length ≤ sm (xw l) l.length := Nat.le_trans h.X (sum_all h.nd h.lt)
theorem WJ.bD {e : Nat} (h : WJ l s e) (hd : (l.map Nod.names).Nodup) : s.D.length ≤ sm (nw l) l.length + e := by
  have h1 := h.D
  have h2 := sum_all (e := dw l) h.nd h.lt
  have h3 := dw_sum hd
  omega
theorem dw_le (hd : (l.map Nod.names).Nodup) {i : Nat} (hi : i < l.length) : dw l i ≤ sm (nw l) l.length := by
  have h2 := sum_all (e := dw l) (V := [i]) (n := l.length) (by simp) (by simpa using hi)
  have h3 := dw_sum hd
  simp at h2
  omega
end
end Go.Proofs.YtchcejjoncihkaaGreatDoor.Bld

/- Layer 14: maps of the call's own by numbers: refs of records, and where files are. -/
namespace Go.Proofs.YtchcejjoncihkaaGreatDoor
set_option linter.unusedVariables false
open Go.RowKit Go.Maps
open Nam Tre Bld

theorem keyI {x : Int} (h : (Lit.int .i64 x).wf = true) : keyOf Tryz.prog 3 (.int .i64 x) = some (.int .i64 x) := keyOf_int_mk Tryz.underlying3 h
theorem keyedI : Keyed Tryz.prog 3 := int_keyed Tryz.underlying3
/-- Where the file of an Ino is, as a map has it. -/
def flv (f : Fl) : Value := .agg #[.int .i64 (f.start : Int), .int .i64 (f.frag : Int), .int .i64 (f.off : Int)]
/-- The map in block b has sz entries: those of f. -/
def MpF (w : World) (b : Nat) (M : Fm) : Prop :=
  ∃ D : DataW Value, w.ownsMap Tryz.prog 3 HV b M.length D ∧ Maps.size D = M.length ∧ ∀ x, has D (.int .i64 x) = (lkF M x).isSome ∧ ∀ v, lkF M x = some v → D.atKey (.int .i64 x) (.held (flv ⟨0, 0, 0⟩)) = .held (flv v)
theorem MpF.same {w w' : World} {b : Nat} {M : Fm} (h : MpF w b M) (hb : w'.heap[b]? = w.heap[b]?) : MpF w' b M := by
  obtain ⟨D, ⟨es, clock, h1, h2⟩, h3⟩ := h
  exact ⟨D, ⟨es, clock, hb.trans h1, h2⟩, h3⟩
theorem MpF.lt {w : World} {b : Nat} {M : Fm} (h : MpF w b M) : b < w.heap.size := by
  obtain ⟨D, h1, _⟩ := h
  exact h1.lt
theorem MpF.ne {w : World} {b k : Nat} {M : Fm} {cs : Array Value} {t : TypeId} {fz : Nat × Nat} (h : MpF w b M) (hk : w.heap[k]? = some (.cells cs t fz)) : k ≠ b := fun e => by
  subst e
  obtain ⟨D, ⟨es, clock, h1, _⟩, _⟩ := h
  rw [h1] at hk
  cases hk
theorem MpF.new (w : World) : MpF (w.alloc (.map #[] 0)) w.heap.size [] :=
  ⟨.map [], World.ownsMap_made w _ _ _, rfl, fun x => ⟨rfl, fun z hz => by cases hz⟩⟩
theorem zeroFl (w : World) : (zeroValue 110).run Tryz.prog w = .ok (flv ⟨0, 0, 0⟩) w := by kernel_rfl
theorem MpF.look {w : World} {b : Nat} {M : Fm} (h : MpF w b M) {x : Int} (hx : (Lit.int .i64 x).wf = true) :
    (Instr.lookup 52 (.map (some b)) (.int .i64 x) true).run Tryz.prog w = .ok (.tuple #[flv ((lkF M x).getD ⟨0, 0, 0⟩), .bool (lkF M x).isSome]) w := by
  obtain ⟨D, h1, _, h3⟩ := h
  obtain ⟨e1, e2⟩ := h3 x
  obtain ⟨v, ps, hr, hv⟩ := h1.look_ok keyedI Tryz.underlying52 (zeroFl w) (zd := .held (flv ⟨0, 0, 0⟩)) (zp := []) rfl (keyI hx)
  rw [e1] at hr
  cases hf : lkF M x with
  | none =>
    rw [hf] at e1 hr
    rw [Maps.atKey_of_not_has e1] at hv
    simp [HV] at hv
    rw [hv.1] at hr
    exact hr
  | some z =>
    rw [hf] at hr
    rw [e2 z hf] at hv
    simp [HV] at hv
    rw [hv.1] at hr
    exact hr
theorem MpF.get {w : World} {b : Nat} {M : Fm} (h : MpF w b M) {x : Int} (hx : (Lit.int .i64 x).wf = true) :
    (Instr.lookup 52 (.map (some b)) (.int .i64 x) false).run Tryz.prog w = .ok (flv ((lkF M x).getD ⟨0, 0, 0⟩)) w := by
  obtain ⟨D, h1, _, h3⟩ := h
  obtain ⟨e1, e2⟩ := h3 x
  obtain ⟨v, ps, hr, hv⟩ := h1.lookup keyedI Tryz.underlying52 (zeroFl w) (zd := .held (flv ⟨0, 0, 0⟩)) (zp := []) rfl (keyI hx)
  cases hf : lkF M x with
  | none =>
    rw [hf] at e1
    rw [Maps.atKey_of_not_has e1] at hv
    simp [HV] at hv
    rw [hv.1] at hr
    exact hr
  | some z =>
    rw [e2 z hf] at hv
    simp [HV] at hv
    rw [hv.1] at hr
    exact hr
theorem MpF.store {w : World} {b : Nat} {M : Fm} (h : MpF w b M) {x : Int} (hx : (Lit.int .i64 x).wf = true) (hM : M.length ≤ 1000000) (hn : lkF M x = none) (a : Fl) :
    ∃ w', (Instr.mapUpdate 52 (.map (some b)) (.int .i64 x) (flv a)).run Tryz.prog w = .ok () w' ∧ MpF w' b (M ++ [(x, a)]) ∧ w.grownBy w' (some b) := by
  obtain ⟨D, h1, h2, h3⟩ := h
  obtain ⟨w', hr, hm, hg⟩ := h1.update keyedI Tryz.underlying52 (by unfold maxLen; omega) (keyI hx) (show HV (flv a) = some (.held _, []) from rfl)
  have hs : Maps.size (D.put (.int .i64 x) (.held (flv a))) = (M ++ [(x, a)]).length := by
    rw [Maps.size_put (h1.tidy keyedI), (h3 x).1, h2, hn]; simp
  refine ⟨w', hr, ⟨D.put (.int .i64 x) (.held (flv a)), ?_, hs, fun y => ?_⟩, hg⟩
  · have := tight hm
    rw [hs] at this
    exact this
  · by_cases e : y = x
    · subst e
      rw [lkF_none hn]
      refine ⟨Maps.has_put_same h1.isMap (show WideAt.IsKeyLit (Lit.int .i64 y) from trivial) _, fun z hz => ?_⟩
      cases hz
      exact Maps.atKey_put_same h1.isMap (show WideAt.IsKeyLit (Lit.int .i64 y) from trivial) _ _
    · have ne : Lit.int .i64 y ≠ Lit.int .i64 x := fun h => e (by injection h)
      rw [lkF_other e, Maps.has_put_other ne]
      refine ⟨(h3 y).1, fun z hz => ?_⟩
      rw [Maps.atKey_put_other ne]
      exact (h3 y).2 z hz
/-- The refs of the records that were written, by Ino. -/
def MpR (w : World) (b : Nat) (l : List Nod) (R : List (Nat × Nat)) : Prop := ∃ f, MpK 3 w b R.length f ∧ ∀ x, f (.int .i64 x) = lkR l R x
section
variable {w w' : World} {b : Nat} {l : List Nod} {R : List (Nat × Nat)}
theorem MpR.same (h : MpR w b l R) (hb : w'.heap[b]? = w.heap[b]?) : MpR w' b l R := by
  obtain ⟨f, h1, h2⟩ := h
  exact ⟨f, h1.same hb, h2⟩
theorem MpR.lt (h : MpR w b l R) : b < w.heap.size := by obtain ⟨f, h1, _⟩ := h; exact h1.lt
theorem MpR.new (w : World) (l : List Nod) : MpR (w.alloc (.map #[] 0)) w.heap.size l [] := ⟨_, mpk_new _ w, fun x => rfl⟩
theorem MpR.look (h : MpR w b l R) {x : Int} (hx : (Lit.int .i64 x).wf = true) :
    (Instr.lookup 61 (.map (some b)) (.int .i64 x) true).run Tryz.prog w = .ok (.tuple #[.int .i64 (((lkR l R x).getD 0 : Nat) : Int), .bool (lkR l R x).isSome]) w := by
  obtain ⟨f, h1, h2⟩ := h
  have := h1.look keyedI Tryz.underlying61 (keyI hx) trivial
  rw [h2 x] at this
  exact this
theorem MpR.len (h : MpR w b l R) (ty : TypeId) : (Builtin.len_ #[61] ty #[.map (some b)]).run Tryz.prog w = .ok (.int .i64 (R.length : Int)) w := by
  obtain ⟨f, h1, h2⟩ := h
  exact h1.len Tryz.underlying61 ty
theorem MpR.store (h : MpR w b l R) {i : Nat} (hx : (Lit.int .i64 (gn l i).ino).wf = true) (hM : R.length ≤ 1000000) (hn : lkR l R (gn l i).ino = none) (a : Nat) :
    ∃ w', (Instr.mapUpdate 61 (.map (some b)) (.int .i64 (gn l i).ino) (.int .i64 (a : Int))).run Tryz.prog w = .ok () w' ∧ MpR w' b l (R ++ [(i, a)]) ∧ w.grownBy w' (some b) := by
  obtain ⟨f, h1, h2⟩ := h
  obtain ⟨w', k1, k2, k3⟩ := h1.store keyedI Tryz.underlying61 (keyI hx) trivial hM a
  refine ⟨w', k1, ⟨upd f (.int .i64 (gn l i).ino) a, ?_, fun y => ?_⟩, k3⟩
  · rw [h2, hn] at k2
    rw [List.length_append]
    exact k2
  · by_cases e : y = (gn l i).ino
    · subst e
      rw [upd_same _ _ _ (show WideAt.IsKeyLit (Lit.int .i64 (gn l i).ino) from trivial), lkR_at hn]
    · rw [upd_other _ _ (fun hk => e (by injection hk)), lkR_other (Ne.symm e)]
      exact h2 y
end
end Go.Proofs.YtchcejjoncihkaaGreatDoor

/- Layer 12: the program's writer: its state in memory; New, lay, Done, Frame. -/
namespace Go.Proofs.YtchcejjoncihkaaGreatDoor
set_option linter.unusedVariables false
open Go.RowKit Go.Maps
open Lz (g)
open Crc (ent more)
open Frm Mtr Dat

theorem Dat.mapUnder : Tryz.prog.underlying 160 = some (.map 9 3) := Tryz.underlying160
/-- Bytes as a key. -/
def Dat.kyl (r : List Int) : Lit := .string (strOfNums r).data.toList
theorem Dat.kyl_inj {r s : List Int} (hr : Bytes r) (hs : Bytes s) (h : Dat.kyl r = Dat.kyl s) : r = s := by
  unfold Dat.kyl at h
  injection h with h
  exact str_inj hr hs (ByteArray.ext (Array.toList_inj.1 h))
theorem Dat.keyRun (r : List Int) (h : r.length ≤ 1000000) : keyOf Tryz.prog 9 (.string (strOfNums r)) = some (Dat.kyl r) := keyStr _ (by rw [strOfNums_size]; unfold maxLen; omega)
/-- The writer's map has the files' frames that M has. -/
def MpD (w : World) (b : Nat) (M : Wm) : Prop := ∃ f, MpK 9 w b M.length f ∧ ∀ r, Bytes r → f (Dat.kyl r) = Dat.look M r
theorem MpD.same {w w' : World} {b : Nat} {M : Wm} (h : MpD w b M) (hb : w'.heap[b]? = w.heap[b]?) : MpD w' b M := by
  obtain ⟨f, h1, h2⟩ := h
  exact ⟨f, h1.same hb, h2⟩
theorem MpD.lt {w : World} {b : Nat} {M : Wm} (h : MpD w b M) : b < w.heap.size := by obtain ⟨f, h1, _⟩ := h; exact h1.lt
theorem MpD.new (w : World) : MpD (w.alloc (.map #[] 0)) w.heap.size [] := ⟨_, mpk_new _ w, fun r _ => rfl⟩
theorem MpD.look {w : World} {b : Nat} {M : Wm} (h : MpD w b M) {r : List Int} (hr : Bytes r) (hl : r.length ≤ 1000000) :
    (Instr.lookup 160 (.map (some b)) (.string (strOfNums r)) true).run Tryz.prog w = .ok (.tuple #[.int .i64 (((Dat.look M r).getD 0 : Nat) : Int), .bool (Dat.look M r).isSome]) w := by
  obtain ⟨f, h1, h2⟩ := h
  have := h1.look keyedStr Dat.mapUnder (Dat.keyRun r hl) trivial
  rw [h2 r hr] at this
  exact this
theorem MpD.store {w : World} {b : Nat} {M : Wm} (h : MpD w b M) {r : List Int} (hr : Bytes r) (hl : r.length ≤ 1000000) (hM : M.length ≤ 1000000) (hn : Dat.look M r = none) (a : Nat) :
    ∃ w', (Instr.mapUpdate 160 (.map (some b)) (.string (strOfNums r)) (.int .i64 (a : Int))).run Tryz.prog w = .ok () w' ∧ MpD w' b (M ++ [(r, a)]) ∧ w.grownBy w' (some b) := by
  obtain ⟨f, h1, h2⟩ := h
  obtain ⟨w', k1, k2, k3⟩ := h1.store keyedStr Dat.mapUnder (Dat.keyRun r hl) trivial hM a
  refine ⟨w', k1, ⟨upd f (Dat.kyl r) a, ?_, fun s hs => ?_⟩, k3⟩
  · rw [h2 r hr, hn] at k2
    rw [List.length_append]
    exact k2
  · by_cases e : s = r
    · subst e
      rw [upd_same _ _ _ (show WideAt.IsKeyLit (Dat.kyl s) from trivial), look_app_none hn]
    · rw [upd_other _ _ (fun hk => e (Dat.kyl_inj hs hr hk)), look_app_other e]
      exact h2 s hs
/-- The writer's block. -/
def Dw (w : World) (p tb first : Nat) (lo : Option Addr) (ln lc mb : Nat) : Prop := w.heap[p]? = some (.cells #[.pointer (some ⟨tb, 0, none⟩), .int .i64 first, .slice lo ln lc, .map (some mb)] 167 (0, 0))
section
variable {w w' : World} {p tb first ln lc mb : Nat} {lo : Option Addr}
theorem Dw.lt (h : Dw w p tb first lo ln lc mb) : p < w.heap.size := heap_lt h
theorem Dw.c0 (h : Dw w p tb first lo ln lc mb) : w.cell? ⟨p, 0, none⟩ = some (.pointer (some ⟨tb, 0, none⟩)) := by unfold Dw at h; simp [World.cell?, h]
theorem Dw.c1 (h : Dw w p tb first lo ln lc mb) : w.cell? ⟨p, 1, none⟩ = some (.int .i64 first) := by unfold Dw at h; simp [World.cell?, h]
theorem Dw.c2 (h : Dw w p tb first lo ln lc mb) : w.cell? ⟨p, 2, none⟩ = some (.slice lo ln lc) := by unfold Dw at h; simp [World.cell?, h]
theorem Dw.c3 (h : Dw w p tb first lo ln lc mb) : w.cell? ⟨p, 3, none⟩ = some (.map (some mb)) := by unfold Dw at h; simp [World.cell?, h]
theorem Dw.f (h : Dw w p tb first lo ln lc mb) (i : Nat) : w.frozen? ⟨p, i, none⟩ = false := by unfold Dw at h; simp [World.frozen?, h]
theorem Dw.set2 (h : Dw w p tb first lo ln lc mb) (lo' : Option Addr) (ln' lc' : Nat) : Dw (w.setCell ⟨p, 2, none⟩ (.slice lo' ln' lc')) p tb first lo' ln' lc' mb := by
  unfold Dw; rw [heap_setCell_self h]; rfl
theorem Dw.fr {S : Nat → Prop} (h : Dw w p tb first lo ln lc mb) (hf : Fr S w w') (hn : ¬ S p) : Dw w' p tb first lo ln lc mb := (hf.block p h.lt hn).trans h
theorem Dw.ne {t : TypeId} {cur : Array Value} {k : Nat} (h : Dw w p tb first lo ln lc mb) (hk : w.heap[k]? = some (.cells cur t (0, 0))) (ht : t ≠ 167) : k ≠ p := fun e => by
  subst e; unfold Dw at h; rw [h] at hk; simp at hk; exact ht hk.2.symm
end
/-- A map's block is none of cells. -/
theorem MpD.ne {w : World} {b k : Nat} {M : Wm} {cs : Array Value} {t : TypeId} {fz : Nat × Nat} (h : MpD w b M) (hk : w.heap[k]? = some (.cells cs t fz)) : k ≠ b := fun e => by
  subst e
  obtain ⟨f, ⟨D, ⟨es, clock, h1, _⟩, _⟩, _⟩ := h
  rw [h1] at hk
  cases hk
/-- The writer: what it has; O: the blocks that are its own. -/
def WrD (w : World) (p : Nat) (O : Nat → Prop) (tb first : Nat) (s : Ws) : Prop :=
  ∃ lo ln lc mb, Dw w p tb first lo ln lc mb ∧ O p ∧ Rw w 0 lo ln lc s.1 ∧ MpD w mb s.2 ∧ O mb ∧ (∀ k, (Value.slice lo ln lc).ownBlock = some k → O k) ∧ (∀ k, O k → k < w.heap.size)
theorem WrD.fr {S : Nat → Prop} {w w' : World} {p tb first : Nat} {O : Nat → Prop} {s : Ws} (h : WrD w p O tb first s) (hf : Fr S w w') (hn : ∀ k, O k → ¬ S k) : WrD w' p O tb first s := by
  obtain ⟨lo, ln, lc, mb, h1, h2, h3, h4, h5, h6, h7⟩ := h
  exact ⟨lo, ln, lc, mb, h1.fr hf (hn _ h2), h2, h3.fr hf (fun k hk => hn _ (h6 k hk)), h4.same (hf.block mb h4.lt (hn _ h5)), h5, h6, fun k hk => Nat.lt_of_lt_of_le (h7 k hk) hf.size⟩
theorem WrD.below {w w' : World} {p tb first : Nat} {O : Nat → Prop} {s : Ws} (h : WrD w p O tb first s) (hb : Below w.heap.size w w') : WrD w' p O tb first s := h.fr (Fr.of_below (S := fun _ => False) hb) (fun _ _ h => h)
theorem WrD.olt {w : World} {p tb first : Nat} {O : Nat → Prop} {s : Ws} (h : WrD w p O tb first s) : ∀ k, O k → k < w.heap.size := by
  obtain ⟨lo, ln, lc, mb, h1, h2, h3, h4, h5, h6, h7⟩ := h
  exact h7
theorem Dat.make (w : World) : (Instr.makeMap 160 none).run Tryz.prog w = .ok (.map (some w.heap.size)) (w.alloc (.map #[] 0)) := by
  simp [Instr.makeMap, Result.andThen]
set_option maxRecDepth 100000 in
theorem dNew_any (tb first : Nat) (w : World) : Calls Tryz.prog 48 #[.pointer (some ⟨tb, 0, none⟩), .int .i64 first] w fun r w' => r = .returned (.pointer (some ⟨w.heap.size + 1, 0, none⟩)) ∧ WrD w' (w.heap.size + 1) (fun k => w.heap.size ≤ k ∧ k < w.heap.size + 2) tb first ([], []) ∧ Below w.heap.size w w' := by
  have mk := Dat.make
  go_enter Tryz.func48, Tryz.ntmps48
  go_wp2
  go_ret
  refine ⟨rfl, ⟨none, 0, 0, w.heap.size, heap_new (by simp), ⟨by omega, by omega⟩, Rw.none _ _, (MpD.new w).same (Below.heap_alloc _ _ _ (by simp)), ⟨by omega, by omega⟩, fun k hk => by simp [Value.ownBlock] at hk, fun k hk => by simp; omega⟩, (below_one _ _).alloc (by simp) _⟩
/-- What was laid down: a row more. -/
theorem WrD.lay {w w1 : World} {p tb first : Nat} {O : Nat → Prop} {s : Ws} {lo lo' : Option Addr} {ln lc mb m lc' : Nat} {r : List Int} (hd : Dw w p tb first lo ln lc mb) (h2 : O p) (h3 : Rw w 0 lo ln lc s.1) (h4 : MpD w mb s.2) (h5 : O mb) (h6 : ∀ k, (Value.slice lo ln lc).ownBlock = some k → O k) (h7 : ∀ k, O k → k < w.heap.size)
    (hA : Rw w1 0 lo' (ln + m) lc' (s.1 ++ r)) (hg : w.grownBy w1 (Value.slice lo ln lc).ownBlock) (hl : Lie w (.slice lo ln lc) (.slice lo' (ln + m) lc')) :
    Dw w1 p tb first lo ln lc mb ∧ ∃ O', WrD (w1.setCell ⟨p, 2, none⟩ (.slice lo' (ln + m) lc')) p O' tb first (s.1 ++ r, s.2) ∧ Fr O w (w1.setCell ⟨p, 2, none⟩ (.slice lo' (ln + m) lc')) ∧ Gr O O' w := by
  have f2 : Fr (fun k => (Value.slice lo ln lc).ownBlock = some k) w w1 := Fr.of_grown hg (fun k hk => hk)
  have hd2 : Dw w1 p tb first lo ln lc mb := hd.fr f2 (fun hk => by
    obtain ⟨_, _, cur, hc⟩ := h3.own hk
    exact hd.ne hc (by decide) rfl)
  have hm2 : MpD w1 mb s.2 := h4.same (f2.block mb h4.lt (fun hk => by
    obtain ⟨_, _, cur, hc⟩ := h3.own hk
    exact h4.ne hc rfl))
  have hd4 := hd2.set2 lo' (ln + m) lc'
  have fs : Fr (One p) w1 (w1.setCell ⟨p, 2, none⟩ (.slice lo' (ln + m) lc')) := (Fr.refl (One p) _).set (p := ⟨p, 2, none⟩) _ (fun _ => rfl)
  have hn3 : ∀ k, (Value.slice lo' (ln + m) lc').ownBlock = some k → ¬ One p k := fun k hk hx => by
    obtain ⟨_, _, cur, hc⟩ := hA.own hk
    exact hd2.ne hc (by decide) hx
  have hm4 : MpD (w1.setCell ⟨p, 2, none⟩ (.slice lo' (ln + m) lc')) mb s.2 := hm2.same (fs.block mb hm2.lt (fun hx => by
    have hx : mb = p := hx
    exact (hm2.ne (show w1.heap[p]? = _ from hd2)) hx.symm))
  have hs2 := hg.size
  refine ⟨hd2, fun k => O k ∨ (w.heap.size ≤ k ∧ k < w1.heap.size), ⟨lo', ln + m, lc', mb, hd4, .inl h2, hA.fr fs hn3, hm4, .inl h5, fun k hk => ?_, fun k hk => ?_⟩, ?_, fun k hk => hk.imp id (fun h => h.1)⟩
  · rcases hl k hk with h | h
    · exact .inl (h6 k h)
    · exact .inr ⟨h, (hA.own hk).2.1⟩
  · have hs4 := fs.size
    rcases hk with hk | hk
    · have := h7 k hk; omega
    · omega
  · have fO : Fr O w w1 := f2.mono (fun i _ hi => h6 i hi)
    exact fO.trans fs (fun i _ (hi : i = p) => by rw [hi]; exact h2)
set_option maxRecDepth 100000 in
set_option maxHeartbeats 4000000 in
theorem lay_any (p tb first n c : Nat) (O : Nat → Prop) (ao : Option Addr) (s : Ws) (r : List Int) (w : World) (h : WrD w p O tb first s) (hb : Bs w ao n r) (hnil : ao = none → c = 0) (hf : first ≤ 1000000) (hL : s.1.length ≤ 1000000) (hn : n ≤ 1000000) :
    Calls Tryz.prog 111 #[.pointer (some ⟨p, 0, none⟩), .slice ao n c] w fun e w' => e = .returned (.int .i64 ((first + s.1.length : Nat) : Int)) ∧ ∃ O', WrD w' p O' tb first (s.1 ++ r, s.2) ∧ Fr O w w' ∧ Gr O O' w := by
  obtain ⟨lo, ln, lc, mb, hd, h2, h3, h4, h5, h6, h7⟩ := h
  have c1 := hd.c1
  have c2 := hd.c2
  have hln := h3.1
  rw [hln] at hL ⊢
  have HD := hide hd
  have HX := hide (fun (w1 : World) lo' lc' hA hg hl => WrD.lay (w1 := w1) (lo' := lo') (lc' := lc') (m := n) (r := r) hd h2 h3 h4 h5 h6 h7 hA hg hl)
  have HR := hide h3
  have HB := hide hb
  have HN := hide hnil
  have e1 : IntKind.i64.wrap ((first : Int) + (ln : Int)) = (first : Int) + ln := by rw [IntKind.wrap_i64]; omega
  have e2 : ((first + ln : Nat) : Int) = (first : Int) + ln := by omega
  rw [e2]
  clear hd h2 h3 h4 h5 h6 h7 hb hnil hln e2
  go_enter Tryz.func111, Tryz.ntmps111
  go_wp2_with fail
  go_quiet (fail)
  have HRq : Hid (Rw (w.drewN nq) 0 lo ln lc s.1) := HR.out
  have HBq : Hid (Bs (w.drewN nq) ao n r) := HB.out
  have c2q : (w.drewN nq).cell? ⟨p, 2, none⟩ = some (.slice lo ln lc) := c2
  clear c1 c2
  go_wp2_with (first
    | (at_builtin; refine wpList_append_rw _ rfl (.tmp 20) (.tmp 21) rfl 0 lo ln lc s.1 rfl HRq.out ao n c r rfl HBq.out HN.out (by omega) (Nat.zero_le _) ?_
       intro ao1 k1 w1 hA hg hl
       have HX1 := hide (HX.out w1 ao1 k1 hA (grown_drewN hg) hl)
       have c21 := HX1.out.1.c2
       have f21 := HX1.out.1.f 2
       clear hA hg hl))
  go_ret
  exact ⟨rfl, HX1.out.2⟩
set_option maxRecDepth 100000 in
theorem dDone_any (p tb first : Nat) (O : Nat → Prop) (s : Ws) (w : World) (h : WrD w p O tb first s) (hL : s.1.length ≤ 1000000) :
    Calls Tryz.prog 54 #[.pointer (some ⟨p, 0, none⟩)] w fun e w' => ∃ ao c, e = .returned (.slice ao s.1.length c) ∧ New w w' ao s.1.length c s.1 := by
  obtain ⟨lo, ln, lc, mb, hd, h2, h3, h4, h5, h6, h7⟩ := h
  have c2 := hd.c2
  have hln := h3.1
  rw [hln] at hL ⊢
  have HC := hide (CloneNew_any ln lc lo s.1 w h3.bs h3.2.2.1 h3.nil (by omega))
  clear hd h2 h3 h4 h5 h6 h7 hln
  go_enter Tryz.func54, Tryz.ntmps54
  go_wp2_with fail
  refine HC.out.mono ?_
  rintro r w1 ⟨ao, c, rfl, hN⟩
  have HN := hide hN
  clear hN
  go_wp2
  go_ret
  exact ⟨_, _, rfl, HN.out⟩
set_option maxRecDepth 100000 in
theorem dFrame_any (p tb first n c : Nat) (O : Nat → Prop) (ao : Option Addr) (T : Nat → Nat) (s : Ws) (b : List Int) (w : World) (h : WrD w p O tb first s) (hT : Tb w tb T) (htb : tb < w.heap.size) (hS : Small T) (hb : Bs w ao n b) (hc : n ≤ c) (hnil : ao = none → c = 0) (hf : first ≤ 1000000) (hL : s.1.length ≤ 1000000) (hn : n ≤ 128) :
    Calls Tryz.prog 53 #[.pointer (some ⟨p, 0, none⟩), .slice ao n c] w fun e w' => e = .returned (.int .i64 ((first + s.1.length : Nat) : Int)) ∧ ∃ O', WrD w' p O' tb first (s.1 ++ put T b, s.2) ∧ Fr O w w' ∧ Gr O O' w := by
  have c0 : w.cell? ⟨p, 0, none⟩ = some (.pointer (some ⟨tb, 0, none⟩)) := by
    obtain ⟨lo, ln, lc, mb, hd, _⟩ := h
    exact hd.c0
  have HP := hide (Put_any tb n c T ao b w hT htb hS hb hc hnil (by omega))
  have hz := hb.1
  have HPL := hide (put_length (T := T) (b := b) (by omega))
  have HW := hide h
  clear hT hb hnil h
  obtain ⟨A, hA⟩ : ∃ A, A = ((first + s.1.length : Nat) : Int) := ⟨_, rfl⟩
  rw [← hA]
  have HAe := hide hA
  clear hA
  go_enter Tryz.func53, Tryz.ntmps53
  go_wp2_with fail
  refine HP.out.mono ?_
  rintro r w1 (⟨h1, _⟩ | ⟨_, ao1, c1, rfl, hN⟩)
  · omega
  have HL := hide (lay_any p tb first (put T b).length c1 O ao1 s (put T b) w1 (HW.out.below hN.bel) hN.bs hN.nil hf hL (by have := HPL.out; omega))
  have Hb1 := hide hN.bel
  clear hN HP
  generalize (put T b).length = pl at *
  go_wp2_with fail
  refine HL.out.mono ?_
  rintro r w2 ⟨rfl, O', k1, k2, k3⟩
  rw [← HAe.out]
  have HX : Hid (∃ O', WrD w2 p O' tb first (s.1 ++ put T b, s.2) ∧ Fr O w w2 ∧ Gr O O' w) := ⟨O', k1, (Fr.of_below Hb1.out).then k2, fun k hk => (k3 k hk).imp id (fun h => Nat.le_trans Hb1.out.size h)⟩
  clear k1 k2 k3 HL
  go_wp2
  go_ret
  exact ⟨rfl, HX.out⟩
end Go.Proofs.YtchcejjoncihkaaGreatDoor

/- Layer 14: what the program's records are in memory while a tree is written: three writers, two maps, and what stays. -/
namespace Go.Proofs.YtchcejjoncihkaaGreatDoor
set_option linter.unusedVariables false
open Go.RowKit Go.Maps
open Lz (g)
open Crc (ent)
open Frm Mtr Tre Nam Tab Bld

/-- The worlds behind two boxes. -/
theorem two_boxes (w : World) (a b : Obj) : Below w.heap.size w ((w.alloc a).alloc b) ∧ ((w.alloc a).alloc b).heap[w.heap.size]? = some a ∧ ((w.alloc a).alloc b).heap[w.heap.size + 1]? = some b := by
  have h1 : Below w.heap.size w (w.alloc a) := (Below.refl _ w).alloc (Nat.le_refl _) a
  refine ⟨h1.alloc h1.size b, ?_, heap_new (by simp)⟩
  exact (Below.heap_alloc _ _ _ (by simp)).trans (heap_new (by simp))
/-- Where all of it is. -/
structure Cx where
  a : Option Addr
  n : Nat
  c : Nat
  fb : Nat
  oa : Option Addr
  on : Nat
  oc : Nat
  pi : Nat
  pd : Nat
  px : Nat
  mr : Nat
  mx : Nat
  b1 : Nat
  b2 : Nat
  rp : Nat
  tb : Nat
  L : List (Nv × Nod)
  own : List Int
  fm : Fm
/-- The records' cells. -/
def rcv (x : Cx) : Array Value := #[.slice x.a x.n x.c, .map (some x.fb), .slice x.oa x.on x.oc, .pointer (some ⟨x.pi, 0, none⟩), .pointer (some ⟨x.pd, 0, none⟩), .pointer (some ⟨x.px, 0, none⟩), .func (.func 117) #[] #[.pointer (some ⟨x.b1, 0, none⟩), .pointer (some ⟨x.b2, 0, none⟩)], .map (some x.mr)]
/-- What stays as it was ahead: nodes, files, table. -/
structure Sta (x : Cx) (W0 : World) : Prop where
  ns : Ns W0 x.a x.n x.L
  nc : x.n ≤ x.c
  ncm : x.c ≤ 9223372036854775807
  n40 : x.n ≤ 40
  fm : MpF W0 x.fb x.fm
  tb : Tb W0 x.tb ent
  tlt : x.tb < W0.heap.size
  ino : ∀ i, i < x.n → (Lit.int .i64 (gn (nds x.L) i).ino).wf = true
  uno : Uno (nds x.L)
  nod : ((nds x.L).map Nod.names).Nodup
  can : CanP x.L
  may : ∀ n ∈ nds x.L, Tre.may n = true
  deep : ∀ n ∈ nds x.L, n.names.length ≤ 16
  long : ∀ n ∈ nds x.L, ∀ s ∈ n.names, s.size ≤ 255
  asc : x.own.Pairwise (· < ·)
  mem : ∀ n ∈ nds x.L, n.uid ∈ x.own ∧ n.gid ∈ x.own
  onl : x.own.length = x.on
  ocl : x.on ≤ x.oc
  ocm : x.oc ≤ 9223372036854775807
  on8 : x.on ≤ 80
  i64 : ∀ y ∈ x.own, In64 y
theorem Sta.names_sum {x : Cx} {W0 : World} (h : Sta x W0) : sm (nw (nds x.L)) (nds x.L).length ≤ 10440 := by
  have hl : (nds x.L).length ≤ 40 := by rw [nds_length, h.ns.1]; exact h.n40
  have h1 := sm_const (e := nw (nds x.L)) (c := 261) (nds x.L).length (fun k hk => by
    unfold nw
    rw [gn_lt _ k hk]
    by_cases hn : (nds x.L)[k].names = []
    · rw [hn]; show 6 + 0 ≤ 261; omega
    · have hp : 0 < (nds x.L)[k].names.length := List.length_pos_iff.2 hn
      have := h.long _ (List.getElem_mem hk) (gs (nds x.L)[k].names ((nds x.L)[k].names.length - 1)) (by
        unfold gs
        rw [List.getD_eq_getElem?_getD, List.getElem?_eq_getElem (by omega)]
        exact List.getElem_mem _)
      omega)
  omega
theorem may_parts {n : Nod} (h : Tre.may n = true) : n.target.size ≤ 200 ∧ n.xs.length ≤ 8 := by
  unfold Tre.may at h
  simp only [Bool.and_eq_true] at h
  obtain ⟨⟨⟨h1, _⟩, h2⟩, _⟩ := h
  refine ⟨?_, by unfold xsOk at h2; simp only [Bool.and_eq_true, decide_eq_true_eq] at h2; exact h2.1⟩
  have he : ∀ t : ByteArray, t.toList.isEmpty = true → t.size ≤ 200 := fun t ht => by
    have := congrArg List.length (List.isEmpty_iff.1 ht)
    rw [toList_length, List.length_nil] at this
    omega
  unfold kdOk at h1
  split at h1
  · simp only [Bool.and_eq_true] at h1; exact he _ h1.2
  · split at h1
    · simp only [Bool.and_eq_true] at h1; exact he _ h1.2
    · split at h1
      · simp only [Bool.and_eq_true, txt, decide_eq_true_eq] at h1
        have := h1.2.1.2
        rw [toList_length] at this
        exact this
      · simp at h1
theorem Sta.i_sum {x : Cx} {W0 : World} (h : Sta x W0) : sm (iw (nds x.L)) (nds x.L).length ≤ 8880 := by
  have hl : (nds x.L).length ≤ 40 := by rw [nds_length, h.ns.1]; exact h.n40
  have h1 := sm_const (e := iw (nds x.L)) (c := 222) (nds x.L).length (fun k hk => by
    unfold iw
    rw [gn_lt _ k hk]
    have := (may_parts (h.may _ (List.getElem_mem hk))).1
    omega)
  omega
theorem Sta.x_sum {x : Cx} {W0 : World} (h : Sta x W0) : sm (xw (nds x.L)) (nds x.L).length ≤ 77480 := by
  have hl : (nds x.L).length ≤ 40 := by rw [nds_length, h.ns.1]; exact h.n40
  have h1 := sm_const (e := xw (nds x.L)) (c := 1937) (nds x.L).length (fun k hk => by
    unfold xw
    rw [gn_lt _ k hk]
    have := (may_parts (h.may _ (List.getElem_mem hk))).2
    split <;> omega)
  omega
/-- Blocks that stay. -/
def Stc (x : Cx) (W0 : World) (k : Nat) : Prop := k < W0.heap.size ∨ k = x.rp ∨ k = x.b1 ∨ k = x.b2 ∨ ∃ a', x.oa = some a' ∧ k = a'.block
/-- The records: what was written so far; oi, od, ox: the writers' own blocks. -/
structure Rst (x : Cx) (W0 w : World) (oi od ox : Nat → Prop) (s : Ws) : Prop where
  bel : Below W0.heap.size W0 w
  rc : w.heap[x.rp]? = some (.cells (rcv x) 63 (0, 0))
  h1 : w.heap[x.b1]? = some (.cells #[.map (some x.mx)] 160 (0, 0))
  h2 : w.heap[x.b2]? = some (.cells #[.pointer (some ⟨x.px, 0, none⟩)] 59 (0, 0))
  ow : Zs w x.oa x.on x.own
  olt : ∀ a', x.oa = some a' → a'.block < w.heap.size
  wi : WrM w x.pi oi x.tb (fr ent s.I (s.I.length / 128)) (rest s.I)
  wd : WrM w x.pd od x.tb (fr ent s.D (s.D.length / 128)) (rest s.D)
  wx : WrM w x.px ox x.tb (fr ent s.X (s.X.length / 128)) (rest s.X)
  mr : MpR w x.mr (nds x.L) s.R
  mx : MpD w x.mx s.A
  di : ∀ k, oi k → ¬ Stc x W0 k ∧ ¬ od k ∧ ¬ ox k ∧ k ≠ x.mr ∧ k ≠ x.mx
  dd : ∀ k, od k → ¬ Stc x W0 k ∧ ¬ ox k ∧ k ≠ x.mr ∧ k ≠ x.mx
  dx : ∀ k, ox k → ¬ Stc x W0 k ∧ k ≠ x.mr ∧ k ≠ x.mx
  sr : ¬ Stc x W0 x.mr
  sx : ¬ Stc x W0 x.mx
  mm : x.mr ≠ x.mx
/-- All blocks that are the records' own. -/
def Ou (x : Cx) (oi od ox : Nat → Prop) (k : Nat) : Prop := oi k ∨ od k ∨ ox k ∨ k = x.mr ∨ k = x.mx
section
variable {x : Cx} {W0 w w' : World} {oi od ox oi' od' ox' : Nat → Prop} {s : Ws}
theorem Rst.slt (h : Rst x W0 w oi od ox s) {k : Nat} (hk : Stc x W0 k) : k < w.heap.size := by
  rcases hk with hk | hk | hk | hk | ⟨a', h1, h2⟩
  · exact Nat.lt_of_lt_of_le hk h.bel.size
  · rw [hk]; exact heap_lt h.rc
  · rw [hk]; exact heap_lt h.h1
  · rw [hk]; exact heap_lt h.h2
  · rw [h2]; exact h.olt _ h1
theorem Rst.olt' (h : Rst x W0 w oi od ox s) {k : Nat} (hk : Ou x oi od ox k) : k < w.heap.size := by
  rcases hk with hk | hk | hk | hk | hk
  · exact h.wi.olt k hk
  · exact h.wd.olt k hk
  · exact h.wx.olt k hk
  · rw [hk]; exact h.mr.lt
  · rw [hk]; exact h.mx.lt
theorem Rst.off (h : Rst x W0 w oi od ox s) {k : Nat} (hk : Ou x oi od ox k) : ¬ Stc x W0 k := by
  rcases hk with hk | hk | hk | hk | hk
  · exact (h.di k hk).1
  · exact (h.dd k hk).1
  · exact (h.dx k hk).1
  · rw [hk]; exact h.sr
  · rw [hk]; exact h.sx
/-- What stays is as it was where nothing of it is written. -/
theorem Rst.stay (h : Rst x W0 w oi od ox s) {S : Nat → Prop} (hf : Fr S w w') (hn : ∀ k, S k → ¬ Stc x W0 k) :
    Below W0.heap.size W0 w' ∧ w'.heap[x.rp]? = some (.cells (rcv x) 63 (0, 0)) ∧ w'.heap[x.b1]? = some (.cells #[.map (some x.mx)] 160 (0, 0)) ∧ w'.heap[x.b2]? = some (.cells #[.pointer (some ⟨x.px, 0, none⟩)] 59 (0, 0)) ∧ Zs w' x.oa x.on x.own ∧ ∀ a', x.oa = some a' → a'.block < w'.heap.size := by
  have hb : Below W0.heap.size w w' := hf.below _ h.bel.size (fun k hk => Nat.le_of_not_lt fun hl => hn k hk (.inl hl))
  have e1 : ∀ k, Stc x W0 k → w'.heap[k]? = w.heap[k]? := fun k hk => hf.block k (h.slt hk) (fun hs => hn k hs hk)
  refine ⟨h.bel.trans hb, (e1 _ (.inr (.inl rfl))).trans h.rc, (e1 _ (.inr (.inr (.inl rfl)))).trans h.h1, (e1 _ (.inr (.inr (.inr (.inl rfl))))).trans h.h2, ?_, fun a' ha => Nat.lt_of_lt_of_le (h.olt a' ha) hf.size⟩
  have hz := h.ow
  refine ⟨hz.1, hz.2.imp id ?_⟩
  rintro ⟨b, off, e, hb, hc⟩
  refine ⟨b, off, e, Nat.lt_of_lt_of_le hb hf.size, fun i hi => ?_⟩
  exact (hf.cell (q := ⟨b, off + i, none⟩) hb (fun hs => hn b hs (.inr (.inr (.inr (.inr ⟨_, e, rfl⟩)))))).trans (hc i hi)
/-- Where nothing of the records is written they are as they were. -/
theorem Rst.fr (h : Rst x W0 w oi od ox s) {S : Nat → Prop} (hf : Fr S w w') (hn : ∀ k, S k → ¬ Stc x W0 k ∧ ¬ Ou x oi od ox k) : Rst x W0 w' oi od ox s := by
  obtain ⟨k1, k2, k3, k4, k5, k6⟩ := h.stay hf (fun k hk => (hn k hk).1)
  refine ⟨k1, k2, k3, k4, k5, k6, h.wi.fr hf (fun k hk hs => (hn k hs).2 (.inl hk)), h.wd.fr hf (fun k hk hs => (hn k hs).2 (.inr (.inl hk))), h.wx.fr hf (fun k hk hs => (hn k hs).2 (.inr (.inr (.inl hk)))), h.mr.same (hf.block _ h.mr.lt (fun hs => (hn _ hs).2 (.inr (.inr (.inr (.inl rfl)))))), h.mx.same (hf.block _ h.mx.lt (fun hs => (hn _ hs).2 (.inr (.inr (.inr (.inr rfl)))))), h.di, h.dd, h.dx, h.sr, h.sx, h.mm⟩
theorem Rst.below (h : Rst x W0 w oi od ox s) (hb : Below w.heap.size w w') : Rst x W0 w' oi od ox s := h.fr (Fr.of_below (S := fun _ => False) hb) (fun _ h => h.elim)
theorem Rst.new (h : Rst x W0 w oi od ox s) {k : Nat} (hk : w.heap.size ≤ k) : ¬ Stc x W0 k ∧ ¬ Ou x oi od ox k := ⟨fun hs => by have := h.slt hs; omega, fun ho => by have := h.olt' ho; omega⟩
theorem Rst.gi (h : Rst x W0 w oi od ox s) (hg : Gr oi oi' w) : ∀ k, oi' k → ¬ Stc x W0 k ∧ ¬ od k ∧ ¬ ox k ∧ k ≠ x.mr ∧ k ≠ x.mx := fun k hk => by
  rcases hg k hk with hk | hk
  · exact h.di k hk
  · obtain ⟨h1, h2⟩ := h.new hk
    exact ⟨h1, fun hx => h2 (.inr (.inl hx)), fun hx => h2 (.inr (.inr (.inl hx))), fun hx => h2 (.inr (.inr (.inr (.inl hx)))), fun hx => h2 (.inr (.inr (.inr (.inr hx))))⟩
theorem Rst.gd (h : Rst x W0 w oi od ox s) (hg : Gr od od' w) : ∀ k, od' k → ¬ Stc x W0 k ∧ ¬ oi k ∧ ¬ ox k ∧ k ≠ x.mr ∧ k ≠ x.mx := fun k hk => by
  rcases hg k hk with hk | hk
  · obtain ⟨h1, h2, h3, h4⟩ := h.dd k hk
    exact ⟨h1, fun hi => (h.di k hi).2.1 hk, h2, h3, h4⟩
  · obtain ⟨h1, h2⟩ := h.new hk
    exact ⟨h1, fun hx => h2 (.inl hx), fun hx => h2 (.inr (.inr (.inl hx))), fun hx => h2 (.inr (.inr (.inr (.inl hx)))), fun hx => h2 (.inr (.inr (.inr (.inr hx))))⟩
theorem Rst.gx (h : Rst x W0 w oi od ox s) (hg : Gr ox ox' w) : ∀ k, ox' k → ¬ Stc x W0 k ∧ ¬ oi k ∧ ¬ od k ∧ k ≠ x.mr ∧ k ≠ x.mx := fun k hk => by
  rcases hg k hk with hk | hk
  · obtain ⟨h1, h3, h4⟩ := h.dx k hk
    exact ⟨h1, fun hi => (h.di k hi).2.2.1 hk, fun hi => (h.dd k hi).2.1 hk, h3, h4⟩
  · obtain ⟨h1, h2⟩ := h.new hk
    exact ⟨h1, fun hx => h2 (.inl hx), fun hx => h2 (.inr (.inl hx)), fun hx => h2 (.inr (.inr (.inr (.inl hx)))), fun hx => h2 (.inr (.inr (.inr (.inr hx))))⟩
/-- A row more of records. -/
theorem Rst.addI (h : Rst x W0 w oi od ox s) {z : List Int} (hw : WrM w' x.pi oi' x.tb (Mtr.fr ent (s.I ++ z) ((s.I ++ z).length / 128)) (rest (s.I ++ z))) (hf : Fr oi w w') (hg : Gr oi oi' w) : Rst x W0 w' oi' od ox { s with I := s.I ++ z } := by
  obtain ⟨k1, k2, k3, k4, k5, k6⟩ := h.stay hf (fun k hk => (h.di k hk).1)
  have hg2 := h.gi hg
  exact ⟨k1, k2, k3, k4, k5, k6, hw, h.wd.fr hf (fun k hk hi => (h.di k hi).2.1 hk), h.wx.fr hf (fun k hk hi => (h.di k hi).2.2.1 hk), h.mr.same (hf.block _ h.mr.lt (fun hi => (h.di _ hi).2.2.2.1 rfl)), h.mx.same (hf.block _ h.mx.lt (fun hi => (h.di _ hi).2.2.2.2 rfl)), hg2, h.dd, h.dx, h.sr, h.sx, h.mm⟩
theorem Rst.addD (h : Rst x W0 w oi od ox s) {z : List Int} (hw : WrM w' x.pd od' x.tb (Mtr.fr ent (s.D ++ z) ((s.D ++ z).length / 128)) (rest (s.D ++ z))) (hf : Fr od w w') (hg : Gr od od' w) : Rst x W0 w' oi od' ox { s with D := s.D ++ z } := by
  obtain ⟨k1, k2, k3, k4, k5, k6⟩ := h.stay hf (fun k hk => (h.dd k hk).1)
  have hg2 := h.gd hg
  exact ⟨k1, k2, k3, k4, k5, k6, h.wi.fr hf (fun k hk hi => (h.di k hk).2.1 hi), hw, h.wx.fr hf (fun k hk hi => (h.dd k hi).2.1 hk), h.mr.same (hf.block _ h.mr.lt (fun hi => (h.dd _ hi).2.2.1 rfl)), h.mx.same (hf.block _ h.mx.lt (fun hi => (h.dd _ hi).2.2.2 rfl)), fun k hk => ⟨(h.di k hk).1, fun hx => (hg2 k hx).2.1 hk, (h.di k hk).2.2⟩, fun k hk => ⟨(hg2 k hk).1, (hg2 k hk).2.2⟩, h.dx, h.sr, h.sx, h.mm⟩
theorem Rst.addX (h : Rst x W0 w oi od ox s) {z : List Int} (hw : WrM w' x.px ox' x.tb (Mtr.fr ent (s.X ++ z) ((s.X ++ z).length / 128)) (rest (s.X ++ z))) (hf : Fr ox w w') (hg : Gr ox ox' w) : Rst x W0 w' oi od ox' { s with X := s.X ++ z } := by
  obtain ⟨k1, k2, k3, k4, k5, k6⟩ := h.stay hf (fun k hk => (h.dx k hk).1)
  have hg2 := h.gx hg
  exact ⟨k1, k2, k3, k4, k5, k6, h.wi.fr hf (fun k hk hi => (h.di k hk).2.2.1 hi), h.wd.fr hf (fun k hk hi => (h.dd k hk).2.1 hi), hw, h.mr.same (hf.block _ h.mr.lt (fun hi => (h.dx _ hi).2.1 rfl)), h.mx.same (hf.block _ h.mx.lt (fun hi => (h.dx _ hi).2.2 rfl)), fun k hk => ⟨(h.di k hk).1, (h.di k hk).2.1, fun hx => (hg2 k hx).2.1 hk, (h.di k hk).2.2.2⟩, fun k hk => ⟨(h.dd k hk).1, fun hx => (hg2 k hx).2.2.1 hk, (h.dd k hk).2.2⟩, fun k hk => ⟨(hg2 k hk).1, (hg2 k hk).2.2.2⟩, h.sr, h.sx, h.mm⟩
/-- A ref more. -/
theorem Rst.addR (h : Rst x W0 w oi od ox s) {R : List (Nat × Nat)} (hm : MpR w' x.mr (nds x.L) R) (hg : w.grownBy w' (some x.mr)) : Rst x W0 w' oi od ox { s with R := R } := by
  have hf : Fr (One x.mr) w w' := Fr.of_grown hg (fun k hk => by injection hk with hk; exact hk.symm)
  obtain ⟨k1, k2, k3, k4, k5, k6⟩ := h.stay hf (fun k (hk : k = x.mr) => by rw [hk]; exact h.sr)
  exact ⟨k1, k2, k3, k4, k5, k6, h.wi.fr hf (fun k hk hi => (h.di k hk).2.2.2.1 hi), h.wd.fr hf (fun k hk hi => (h.dd k hk).2.2.1 hi), h.wx.fr hf (fun k hk hi => (h.dx k hk).2.1 hi), hm, h.mx.same (hf.block _ h.mx.lt (fun hi => h.mm (Eq.symm hi))), h.di, h.dd, h.dx, h.sr, h.sx, h.mm⟩
theorem Rst.addA (h : Rst x W0 w oi od ox s) {A : Dat.Wm} (hm : MpD w' x.mx A) (hg : w.grownBy w' (some x.mx)) : Rst x W0 w' oi od ox { s with A := A } := by
  have hf : Fr (One x.mx) w w' := Fr.of_grown hg (fun k hk => by injection hk with hk; exact hk.symm)
  obtain ⟨k1, k2, k3, k4, k5, k6⟩ := h.stay hf (fun k (hk : k = x.mx) => by rw [hk]; exact h.sx)
  exact ⟨k1, k2, k3, k4, k5, k6, h.wi.fr hf (fun k hk hi => (h.di k hk).2.2.2.2 hi), h.wd.fr hf (fun k hk hi => (h.dd k hk).2.2.2 hi), h.wx.fr hf (fun k hk hi => (h.dx k hk).2.2 hi), h.mr.same (hf.block _ h.mr.lt (fun hi => h.mm hi)), hm, h.di, h.dd, h.dx, h.sr, h.sx, h.mm⟩
theorem Rst.tb (h : Rst x W0 w oi od ox s) (hs : Sta x W0) : Tb w x.tb ent ∧ x.tb < w.heap.size := ⟨hs.tb.below h.bel hs.tlt, Nat.lt_of_lt_of_le hs.tlt h.bel.size⟩
end
/-- More of one writer, more of all. -/
theorem Ou.gi {x : Cx} {w : World} {oi od ox oi' : Nat → Prop} (h : Gr oi oi' w) : Gr (Ou x oi od ox) (Ou x oi' od ox) w := fun k hk => by
  rcases hk with hk | hk
  · exact (h k hk).imp .inl id
  · exact .inl (.inr hk)
theorem Ou.gd {x : Cx} {w : World} {oi od ox od' : Nat → Prop} (h : Gr od od' w) : Gr (Ou x oi od ox) (Ou x oi od' ox) w := fun k hk => by
  rcases hk with hk | hk | hk
  · exact .inl (.inl hk)
  · exact (h k hk).imp (fun h => .inr (.inl h)) id
  · exact .inl (.inr (.inr hk))
theorem Ou.gx {x : Cx} {w : World} {oi od ox ox' : Nat → Prop} (h : Gr ox ox' w) : Gr (Ou x oi od ox) (Ou x oi od ox') w := fun k hk => by
  rcases hk with hk | hk | hk | hk
  · exact .inl (.inl hk)
  · exact .inl (.inr (.inl hk))
  · exact (h k hk).imp (fun h => .inr (.inr (.inl h))) id
  · exact .inl (.inr (.inr (.inr hk)))
/-- The records: what they have, what they own. -/
def RS (x : Cx) (W0 w : World) (O : Nat → Prop) (s : Ws) : Prop := ∃ oi od ox, O = Ou x oi od ox ∧ Rst x W0 w oi od ox s
section
variable {x : Cx} {W0 w w' : World} {O : Nat → Prop} {s : Ws}
theorem RS.fr (h : RS x W0 w O s) {S : Nat → Prop} (hf : Fr S w w') (hn : ∀ k, S k → ¬ Stc x W0 k ∧ ¬ O k) : RS x W0 w' O s := by
  obtain ⟨oi, od, ox, rfl, h2⟩ := h
  exact ⟨oi, od, ox, rfl, h2.fr hf hn⟩
theorem RS.below (h : RS x W0 w O s) (hb : Below w.heap.size w w') : RS x W0 w' O s := h.fr (Fr.of_below (S := fun _ => False) hb) (fun _ h => h.elim)
theorem RS.olt (h : RS x W0 w O s) {k : Nat} (hk : O k) : k < w.heap.size := by
  obtain ⟨oi, od, ox, rfl, h2⟩ := h
  exact h2.olt' hk
theorem RS.slt (h : RS x W0 w O s) {k : Nat} (hk : Stc x W0 k) : k < w.heap.size := by
  obtain ⟨oi, od, ox, rfl, h2⟩ := h
  exact h2.slt hk
theorem RS.off (h : RS x W0 w O s) {k : Nat} (hk : O k) : ¬ Stc x W0 k := by
  obtain ⟨oi, od, ox, rfl, h2⟩ := h
  exact h2.off hk
theorem RS.bel (h : RS x W0 w O s) : Below W0.heap.size W0 w := by
  obtain ⟨oi, od, ox, rfl, h2⟩ := h
  exact h2.bel
theorem RS.rc (h : RS x W0 w O s) : w.heap[x.rp]? = some (.cells (rcv x) 63 (0, 0)) := by
  obtain ⟨oi, od, ox, rfl, h2⟩ := h
  exact h2.rc
end
end Go.Proofs.YtchcejjoncihkaaGreatDoor

/- Layer 14: attributes that are added once: the closure, and xattr. -/
namespace Go.Proofs.YtchcejjoncihkaaGreatDoor
set_option linter.unusedVariables false
open Go.RowKit Go.Maps
open Lz (g)
open Crc (ent)
open Frm Mtr Tre Nam Tab Bld

set_option maxRecDepth 100000 in
theorem once_any (x : Cx) (W0 : World) (O : Nat → Prop) (s : Ws) (ao : Option Addr) (n c : Nat) (z : List Int) (w : World) (hs : Sta x W0) (h : RS x W0 w O s) (hb : Bs w ao n z) (hnil : ao = none → c = 0) (hno : ∀ a, ao = some a → 0 < n → ¬ O a.block) (hn : n ≤ 10000) (hX : s.X.length ≤ 100000) (hA : s.A.length ≤ 10000) :
    Calls Tryz.prog 117 #[.slice ao n c, .pointer (some ⟨x.b1, 0, none⟩), .pointer (some ⟨x.b2, 0, none⟩)] w fun e w' => e = .returned (.int .i64 ((once s z).2 : Int)) ∧ ∃ O', RS x W0 w' O' (once s z).1 ∧ Fr O w w' ∧ Gr O O' w := by
  obtain ⟨oi, od, ox, rfl, hR⟩ := h
  have c1 : w.cell? ⟨x.b1, 0, none⟩ = some (.map (some x.mx)) := by simp [World.cell?, hR.h1]
  have c2 : w.cell? ⟨x.b2, 0, none⟩ = some (.pointer (some ⟨x.px, 0, none⟩)) := by simp [World.cell?, hR.h2]
  have hzl := hb.1
  have hst : (convert 25 9 (.slice ao n c)).run Tryz.prog w = .ok (.string (strOfNums z)) w := str_any hb c
  have hlk := hR.mx.look hb.bytes (by omega)
  cases hlo : Dat.look s.A z with
  | some r =>
    rw [hlo] at hlk
    have e : once s z = (s, r) := by unfold once; rw [hlo]
    rw [e]
    have HR := hide hR
    clear hs hb hnil hno hR hlo e
    go_enter Tryz.func117, Tryz.ntmps117
    go_wp2
    go_ret
    exact ⟨rfl, _, ⟨oi, od, ox, rfl, HR.out⟩, Fr.refl _ _, Gr.refl _ _⟩
  | none =>
    rw [hlo] at hlk
    have e : once s z = ({ s with X := s.X ++ z, A := s.A ++ [(z, rfn s.X)] }, rfn s.X) := by unfold once; rw [hlo]
    rw [e]
    obtain ⟨ht1, ht2⟩ := hR.tb hs
    have HAdd := hide (Add_any x.px x.tb n c ox ao ent s.X z w hR.wx ht1 ht2 (fun ho => (hR.dx _ ho).1 (.inl hs.tlt)) small_ent hb hnil hX (by omega))
    rw [rf_rfn] at HAdd
    have HR := hide hR
    have HB := hide hb
    have HN := hide hno
    have HL := hide hlo
    generalize rfn s.X = rx at *
    clear hs hb hnil hno hR hlo e ht1 ht2
    go_enter Tryz.func117, Tryz.ntmps117
    go_wp2_with fail
    refine HAdd.out.mono ?_
    rintro r w1 ⟨rfl, ox', hW1, hF1, hG1⟩
    have hR1 := HR.out.addX hW1 hF1 hG1
    have c11 : w1.cell? ⟨x.b1, 0, none⟩ = some (.map (some x.mx)) := by simp [World.cell?, hR1.h1]
    have hb1 : Bs w1 ao n z := HB.out.fr hF1 (fun a ha h0 ho => HN.out a ha h0 (.inr (.inr (.inl ho))))
    have hst1 : (convert 25 9 (.slice ao n c)).run Tryz.prog w1 = .ok (.string (strOfNums z)) w1 := str_any hb1 c
    obtain ⟨w2, k1, k2, k3⟩ := hR1.mx.store (r := z) hb1.bytes (by omega) (by show s.A.length ≤ _; omega) HL.out rx
    have HX : Hid (RS x W0 w2 (Ou x oi od ox') { s with X := s.X ++ z, A := s.A ++ [(z, rx)] } ∧ Fr (Ou x oi od ox) w w2 ∧ Gr (Ou x oi od ox) (Ou x oi od ox') w) := by
      refine ⟨⟨oi, od, ox', rfl, hR1.addA k2 k3⟩, ?_, Ou.gx hG1⟩
      have f1 : Fr (Ou x oi od ox) w w1 := hF1.mono (fun i _ hi => .inr (.inr (.inl hi)))
      have f2 : Fr (One x.mx) w1 w2 := Fr.of_grown k3 (fun k hk => by injection hk with hk; exact hk.symm)
      exact f1.trans f2 (fun i _ hi => .inr (.inr (.inr (.inr hi))))
    clear k2 k3 hR1 hb1 hW1 hF1 hG1 HAdd HR HB HN HL c1 c2 hst hlk
    go_wp2
    go_ret
    exact ⟨rfl, _, HX.out⟩
set_option maxRecDepth 100000 in
theorem xattr_any (x : Cx) (W0 : World) (O : Nat → Prop) (s : Ws) (a : Option Addr) (n c : Nat) (xs : List (ByteArray × List Int)) (w : World) (hs : Sta x W0) (h : RS x W0 w O s) (hxs : XsR w a n xs) (hc : n ≤ c) (hcm : c ≤ 9223372036854775807) (hnil : a = none → c = 0) (hX : s.X.length ≤ 100000) (hA : s.A.length ≤ 10000) (hAv : ∀ p ∈ s.A, p.2 ≤ 270 * s.X.length + 127) :
    Calls Tryz.prog 61 #[.pointer (some ⟨x.rp, 0, none⟩), .slice a n c] w fun e w' => e = .returned (.int .i64 ((xat s xs).2 : Int)) ∧ ∃ O', RS x W0 w' O' (xat s xs).1 ∧ Fr O w w' ∧ Gr O O' w := by
  have hl := hxs.1
  by_cases h0 : n = 0
  · subst h0
    rw [xat_nil hl]
    have H := hide h
    clear hs h hxs hnil
    go_enter Tryz.func61, Tryz.ntmps61
    go_wp2
    go_ret
    exact ⟨rfl, _, H.out, Fr.refl _ _, Gr.refl _ _⟩
  · rw [xat_once (by omega)]
    have i1 : ((n : Int) == 0) = false := by simp; omega
    have HP := hide (PutXattrs_any a n c xs w hxs hc hcm hnil)
    have hlen := putX_len xs
    have hle : (putX xs).1.length ≤ 2000 := by
      by_cases hk : xs ≠ [] ∧ xsOk xs = true
      · have := (xsOk_mem hk.2).1
        split at hlen <;> omega
      · unfold putX; rw [if_neg hk]; simp
    generalize hA0 : putX xs = A0 at *
    have H := hide h
    have HS := hide hs
    have hQ := once_v hAv A0.1
    obtain ⟨Q, hQe⟩ : ∃ Q, Q = once s A0.1 := ⟨_, rfl⟩
    rw [← hQe] at hQ ⊢
    rw [show ((Q.2 + 1 : Nat) : Int) = (Q.2 : Int) + 1 by omega]
    have HQe := hide hQe
    clear hs h hxs hnil hA0 hlen hQe
    go_enter Tryz.func61, Tryz.ntmps61
    go_wp2_with fail
    refine HP.out.mono ?_
    rintro r w1 ⟨ao, c1, rfl, hN⟩
    have h1 := H.out.below hN.bel
    have c6 : w1.cell? ⟨x.rp, 6, none⟩ = some (.func (.func 117) #[] #[.pointer (some ⟨x.b1, 0, none⟩), .pointer (some ⟨x.b2, 0, none⟩)]) := by simp [World.cell?, h1.rc, rcv]
    have HO := hide (once_any x W0 O s ao A0.1.length c1 A0.1 w1 HS.out h1 hN.bs hN.nil (fun a' ha _ ho => by have := (hN.own a' ha).1; have := H.out.olt ho; omega) (by omega) hX hA)
    have HB := hide hN.bel
    clear hN HP
    rw [← HQe.out] at HO
    generalize A0.1.length = al at *
    generalize A0.2 = a2 at *
    go_wp2_with fail
    refine HO.out.mono ?_
    rintro r w2 ⟨rfl, O', k1, k2, k3⟩
    have HX : Hid (∃ O', RS x W0 w2 O' Q.1 ∧ Fr O w w2 ∧ Gr O O' w) := ⟨O', k1, (Fr.of_below HB.out).then k2, fun k hk => (k3 k hk).imp id (fun h => Nat.le_trans HB.out.size h)⟩
    clear k1 k2 k3 HO
    have e3 : IntKind.i64.wrap ((Q.2 : Int) + 1) = (Q.2 : Int) + 1 := by rw [IntKind.wrap_i64]; omega
    go_wp2
    go_ret
    exact ⟨rfl, HX.out⟩
end Go.Proofs.YtchcejjoncihkaaGreatDoor

/- Layer 8 as numbers and bytes: whether a superblock may be, how it stands in an image, what is read of one; what follows. -/
namespace Go.Proofs.YtchcejjoncihkaaGreatDoor.Sup
set_option linter.unusedVariables false
open Cur (le by' le_by)
open Lz (g)
open Crc (more ent)
open Crc (more_lt)

/-- A superblock: its fields in the order of their declaration. -/
structure Sb where
  size : Int
  inodes : Int
  inodeAt : Int
  dirAt : Int
  fragAt : Int
  idAt : Int
  xattrAt : Int
  ids : Int
  frags : Int
  root : Int
/-- The numbers in the order in which they stand in a block; of how many bytes each is; where it stands. -/
def Sb.n (s : Sb) : Nat → Int
  | 0 => s.size
  | 1 => s.inodeAt
  | 2 => s.dirAt
  | 3 => s.fragAt
  | 4 => s.idAt
  | 5 => s.xattrAt
  | 6 => s.root
  | 7 => s.inodes
  | 8 => s.ids
  | _ => s.frags
def wd (i : Nat) : Nat := if i < 7 then 4 else 2
def spot (i : Nat) : Nat := if i < 7 then 4 + 4 * i else 32 + 2 * (i - 7)
theorem spot_succ (i : Nat) : spot (i + 1) = spot i + wd i := by unfold spot wd; split <;> split <;> omega
theorem wd_fit (i : Nat) : 1 ≤ wd i ∧ wd i ≤ 4 := by unfold wd; split <;> omega
theorem spot_le (i : Nat) (h : i < 10) : spot i + wd i ≤ 38 := by unfold spot wd; split <;> omega
theorem n_ext {s t : Sb} (h : ∀ i, i < 10 → s.n i = t.n i) : s = t := by
  obtain ⟨a0, a1, a2, a3, a4, a5, a6, a7, a8, a9⟩ := s
  obtain ⟨b0, b1, b2, b3, b4, b5, b6, b7, b8, b9⟩ := t
  have h0 := h 0 (by omega)
  have h1 := h 1 (by omega)
  have h2 := h 2 (by omega)
  have h3 := h 3 (by omega)
  have h4 := h 4 (by omega)
  have h5 := h 5 (by omega)
  have h6 := h 6 (by omega)
  have h7 := h 7 (by omega)
  have h8 := h 8 (by omega)
  have h9 := h 9 (by omega)
  simp only [Sb.n] at *
  subst h0 h1 h2 h3 h4 h5 h6 h7 h8 h9
  rfl

/-- The places do not fall. -/
def Sb.sorted (s : Sb) : Prop := 64 ≤ s.inodeAt ∧ s.inodeAt ≤ s.dirAt ∧ s.dirAt ≤ s.fragAt ∧ s.fragAt ≤ s.idAt ∧ s.idAt ≤ s.xattrAt ∧ s.xattrAt ≤ s.size ∧ s.size ≤ 1048576
/-- It may be. -/
def Sb.ok (s : Sb) : Prop := s.sorted ∧ (1 ≤ s.inodes ∧ s.inodes ≤ 1024) ∧ (1 ≤ s.ids ∧ s.ids ≤ 2048) ∧ (0 ≤ s.frags ∧ s.frags ≤ 1024) ∧ 0 ≤ s.root ∧ s.root ≤ 4294967295
def Sb.srt (s : Sb) : Bool := decide (64 ≤ s.inodeAt ∧ s.inodeAt ≤ s.dirAt ∧ s.dirAt ≤ s.fragAt ∧ s.fragAt ≤ s.idAt ∧ s.idAt ≤ s.xattrAt ∧ s.xattrAt ≤ s.size ∧ s.size ≤ 1048576)
def inn (n a b : Int) : Bool := decide (a ≤ n ∧ n ≤ b)
def Sb.may (s : Sb) : Bool := s.srt && inn s.inodes 1 1024 && inn s.ids 1 2048 && inn s.frags 0 1024 && inn s.root 0 4294967295
theorem may_iff {s : Sb} : s.may = true ↔ s.ok := by
  unfold Sb.may Sb.ok Sb.srt Sb.sorted inn
  simp only [Bool.and_eq_true, decide_eq_true_eq, and_assoc]
theorem may_not {s : Sb} : s.may = false ↔ ¬ s.ok := by rw [← may_iff, Bool.not_eq_true]
theorem ok_fits {s : Sb} (h : s.ok) (i : Nat) (hi : i < 10) : 0 ≤ s.n i ∧ s.n i < 256 ^ wd i := by
  obtain ⟨⟨h1, h2, h3, h4, h5, h6, h7⟩, ⟨h8, h9⟩, ⟨h10, h11⟩, ⟨h12, h13⟩, h14, h15⟩ := h
  match i, hi with
  | 0, _ => simp [Sb.n, wd]; omega
  | 1, _ => simp [Sb.n, wd]; omega
  | 2, _ => simp [Sb.n, wd]; omega
  | 3, _ => simp [Sb.n, wd]; omega
  | 4, _ => simp [Sb.n, wd]; omega
  | 5, _ => simp [Sb.n, wd]; omega
  | 6, _ => simp [Sb.n, wd]; omega
  | 7, _ => simp [Sb.n, wd]; omega
  | 8, _ => simp [Sb.n, wd]; omega
  | 9, _ => simp [Sb.n, wd]; omega

/-- The letters and the first i numbers. -/
def pre (s : Sb) (i : Nat) : List Int := [76, 77, 76, 65] ++ ((List.range i).map fun j => by' (wd j) (s.n j)).flatten
theorem pre_zero (s : Sb) : pre s 0 = [76, 77, 76, 65] := rfl
theorem pre_succ (s : Sb) (i : Nat) : pre s (i + 1) = pre s i ++ by' (wd i) (s.n i) := by simp [pre, List.range_succ]
theorem pre_length (s : Sb) : ∀ i, (pre s i).length = spot i
  | 0 => rfl
  | i + 1 => by rw [pre_succ, List.length_append, pre_length s i, by_length, spot_succ]
theorem pre_bytes (s : Sb) : ∀ i, Bytes (pre s i)
  | 0 => by rw [pre_zero]; intro x hx; simp at hx; omega
  | i + 1 => by rw [pre_succ]; exact (pre_bytes s i).append (by_bytes _ _)
theorem pre_split (s : Sb) (i : Nat) : ∀ d, ∃ r, pre s (i + 1 + d) = pre s i ++ (by' (wd i) (s.n i) ++ r)
  | 0 => ⟨[], by rw [Nat.add_zero, pre_succ, List.append_nil]⟩
  | d + 1 => by
    obtain ⟨r, hr⟩ := pre_split s i d
    exact ⟨r ++ by' (wd (i + 1 + d)) (s.n (i + 1 + d)), by rw [← Nat.add_assoc, pre_succ, hr]; simp⟩
def body (s : Sb) : List Int := pre s 10
def put (T : Nat → Nat) (s : Sb) : List Int := body s ++ (by' 4 (more T 0 (body s)) ++ List.replicate 22 0)
theorem body_length (s : Sb) : (body s).length = 38 := pre_length s 10
theorem put_length (T : Nat → Nat) (s : Sb) : (put T s).length = 64 := by simp [put, body_length, by_length]
theorem put_bytes (T : Nat → Nat) (s : Sb) : Bytes (put T s) := (pre_bytes s 10).append ((by_bytes _ _).append (fun x hx => by simp at hx; omega))
/-- What is read of a block. -/
def rn (zs : List Int) (i : Nat) : Int := le ((zs.drop (spot i)).take (wd i))
def sbOf (zs : List Int) : Sb := ⟨rn zs 0, rn zs 7, rn zs 1, rn zs 2, rn zs 3, rn zs 4, rn zs 5, rn zs 8, rn zs 9, rn zs 6⟩
theorem sbOf_n (zs : List Int) (i : Nat) (hi : i < 10) : (sbOf zs).n i = rn zs i := by
  match i, hi with
  | 0, _ => rfl
  | 1, _ => rfl
  | 2, _ => rfl
  | 3, _ => rfl
  | 4, _ => rfl
  | 5, _ => rfl
  | 6, _ => rfl
  | 7, _ => rfl
  | 8, _ => rfl
  | 9, _ => rfl
theorem rn_take (zs : List Int) (m i : Nat) (hi : i < 10) (hm : 38 ≤ m) : rn (zs.take m) i = rn zs i := by
  have := spot_le i hi
  unfold rn
  rw [List.drop_take, List.take_take, Nat.min_eq_left (by omega)]
theorem sbOf_take (zs : List Int) (m : Nat) (hm : 38 ≤ m) : sbOf (zs.take m) = sbOf zs := n_ext fun i hi => by
  rw [sbOf_n _ _ hi, sbOf_n _ _ hi, rn_take zs m i hi hm]
theorem rn_put {T : Nat → Nat} {s : Sb} (h : s.ok) (r : List Int) (i : Nat) (hi : i < 10) : rn (put T s ++ r) i = s.n i := by
  obtain ⟨q, hq⟩ := pre_split s i (9 - i)
  have e : body s = pre s i ++ (by' (wd i) (s.n i) ++ q) := by rw [← hq]; unfold body; congr 1; omega
  have hf := ok_fits h i hi
  unfold rn put
  rw [e, List.append_assoc, List.append_assoc, List.drop_left' (pre_length s i), List.append_assoc, List.take_left' (by_length _ _)]
  exact le_by _ _ hf.1 hf.2
theorem sbOf_put {T : Nat → Nat} {s : Sb} (h : s.ok) (r : List Int) : sbOf (put T s ++ r) = s := n_ext fun i hi => by
  rw [sbOf_n _ _ hi, rn_put h r i hi]
/-- The bytes are an image's that begins with a superblock. -/
def good (T : Nat → Nat) (zs : List Int) : Prop := 64 ≤ zs.length ∧ (sbOf zs).ok ∧ (sbOf zs).size = zs.length ∧ zs.take 64 = put T (sbOf zs)
theorem good_put {T : Nat → Nat} {s : Sb} (h : s.ok) (r : List Int) (hs : s.size = 64 + r.length) : good T (put T s ++ r) := by
  refine ⟨by simp [put_length], ?_, ?_, ?_⟩
  · rw [sbOf_put h]; exact h
  · rw [sbOf_put h, hs]; simp [put_length]
  · rw [sbOf_put h, List.take_left' (put_length _ _)]
end Go.Proofs.YtchcejjoncihkaaGreatDoor.Sup

/- Layer 8: rows of ints that do not fall, numbers within bounds; whether a superblock may be. -/
namespace Go.Proofs.YtchcejjoncihkaaGreatDoor
set_option linter.unusedVariables false
open Go.RowKit Go.Maps
open Sup

theorem sIsNaN_any (x : Int) (w : World) : Calls Tryz.prog 192 #[.int .i64 x] w fun e w' => e = .returned (.bool false) ∧ w' = w := by
  have h : (x != x) = false := by simp
  go_enter Tryz.func192, Tryz.ntmps192
  go_wp2
  go_ret
  exact ⟨rfl, rfl⟩
theorem iLess_any (x y : Int) (w : World) : Calls Tryz.prog 139 #[.int .i64 x, .int .i64 y] w fun e w' => e = .returned (.bool (decide (x < y))) ∧ w' = w := by
  go_enter Tryz.func139, Tryz.ntmps139
  go_wp2_with (go_at_call 192; refine (sIsNaN_any _ _).mono ?_; rintro e w' ⟨rfl, rfl⟩)
  go_ret
  exact ⟨rfl, rfl⟩
theorem sWithin_any (n a b : Int) (w : World) : Calls Tryz.prog 88 #[.int .i64 n, .int .i64 a, .int .i64 b] w fun e w' => e = .returned (.bool (inn n a b)) ∧ w' = w := by
  by_cases h1 : a ≤ n
  · by_cases h2 : n ≤ b
    · have e : inn n a b = true := by simp [inn, h1, h2]
      rw [e]
      clear e
      go_enter Tryz.func88, Tryz.ntmps88
      go_wp2
      go_ret
      exact ⟨rfl, rfl⟩
    · have e : inn n a b = false := by simp [inn, h2]
      have h2' : decide (n ≤ b) = false := by simpa using h2
      rw [e]
      clear e
      go_enter Tryz.func88, Tryz.ntmps88
      go_wp2
      go_ret
      exact ⟨rfl, rfl⟩
  · have e : inn n a b = false := by simp [inn, h1]
    have h1' : decide (a ≤ n) = false := by simpa using h1
    rw [e]
    clear e
    go_enter Tryz.func88, Tryz.ntmps88
    go_wp2
    go_ret
    exact ⟨rfl, rfl⟩
/-- Whether it does not fall. -/
def rises (n : Nat) (Z : Nat → Int) : Bool := decide (∀ i, i < n - 1 → Z i ≤ Z (i + 1))
set_option maxRecDepth 100000 in
theorem IsSorted_any (b n c : Nat) (Z : Nat → Int) (w : World) (hZ : ∀ i, i < n → w.cell? ⟨b, i, none⟩ = some (.int .i64 (Z i))) (h1 : 1 ≤ n) (hn : n ≤ 1000) :
    Calls Tryz.prog 87 #[.slice (some ⟨b, 0, none⟩) n c] w fun e w' => e = .returned (.bool (rises n Z)) ∧ ∃ q, w' = w.drewN q := by
  have HZ := hide hZ
  clear hZ
  go_enter Tryz.func87, Tryz.ntmps87
  go_wp2
  go_loopw [3] (fun s3 wr => ∃ i q : Nat, i < n ∧ s3 = .int .i64 i ∧ wr = w.drewN q ∧ ∀ j, i ≤ j → j < n - 1 → Z j ≤ Z (j + 1)) (fun s3 _ => (intOf s3).toNat)
  case atStart => exact ⟨n - 1, 0, by omega, by congr 1; omega, rfl, fun j h1 h2 => by omega⟩
  case round =>
    obtain ⟨i, q, hi, rfl, hWq, hinv⟩ := hrel
    have HI := hide hinv
    have HQ := hide hWq
    have HZr : Hid (∀ i, i < n → wr.cell? ⟨b, i, none⟩ = some (.int .i64 (Z i))) := fun i hi => by rw [hWq, ← HZ.out i hi]; simp
    clear hinv hWq
    by_cases h0 : i = 0
    · subst h0
      have e : Hid (true = rises n Z) := by
        show _ = _
        symm; unfold rises; rw [decide_eq_true_eq]
        exact fun j hj => HI.out j (by omega) hj
      go_wp2
      go_ret
      exact ⟨ret_bool e.out, q, HQ.out⟩
    · obtain ⟨t, ht⟩ : ∃ t, i = t + 1 := ⟨i - 1, by omega⟩
      have HT := hide ht
      have c1 := HZr.out t (by omega)
      have c2 := HZr.out i (by omega)
      have hp : (0 : Int) < i := by omega
      have hn1 : (t : Int) < n := by omega
      have hn2 : (i : Int) < n := by omega
      have hw1 : IntKind.i64.wrap ((i : Int) - 1) = t := by rw [IntKind.wrap_i64]; omega
      clear ht h0
      have HL : Hid (∀ w', Calls Tryz.prog 139 #[.int .i64 (Z i), .int .i64 (Z t)] w' fun e w2 => e = .returned (.bool (decide (Z i < Z t))) ∧ w2 = w') := fun w' => iLess_any _ _ w'
      by_cases hlt : Z i < Z t
      · have hd : decide (Z i < Z t) = true := by simpa using hlt
        have e : Hid (false = rises n Z) := by
          show _ = _
          symm; unfold rises; rw [decide_eq_false_iff_not]
          intro h
          have := h t (by have := HT.out; omega)
          rw [← HT.out] at this
          omega
        go_wp2
        go_quiet ((go_at_call 139; exact Calls.quiet_of_same (HL.out _)))
        go_wp2
        go_ret
        exact ⟨ret_bool e.out, by rw [HQ.out]; exact dr2 _ _ _⟩
      · have hd : decide (Z i < Z t) = false := by simpa using hlt
        go_wp2
        go_quiet ((go_at_call 139; exact Calls.quiet_of_same (HL.out _)))
        go_wp2
        go_roundw
        case rel =>
          have ht := HT.out
          refine ⟨t, _, by omega, by go_num, by rw [HQ.out, World.drewN_drewN], fun j h1 h2 => ?_⟩
          by_cases e : j = t
          · subst e; rw [← ht]; omega
          · exact HI.out j (by omega) h2
        case measure => have ht := HT.out; simp [intOf]; omega
end Go.Proofs.YtchcejjoncihkaaGreatDoor

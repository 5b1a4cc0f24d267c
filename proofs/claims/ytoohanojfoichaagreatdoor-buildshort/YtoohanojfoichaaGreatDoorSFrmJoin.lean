/- What the proof stands on: FrmJoin, with what the proof reaches of it. -/
import Derived.Test.YtoohanojfoichaaGreatDoorSJLzAll
import Derived.Test.YtoohanojfoichaaGreatDoorSCrcAll
import Derived.Test.YtoohanojfoichaaGreatDoorSJCurNew
import Derived.Stop.BytesEq
import Derived.Deep.RegionHeld3
import Derived.Deep.CutRange
import Derived.Deep.CutBlock

/- FrmJoin: FrmPure, FrmLeaf, FrmPut, FrmRound, FrmPlain, FrmEq, FrmPass, FrmTake, as one text. -/

/- Frames, as pure functions over bytes: heads, what stands behind one, what a frame holds, its bytes. -/
namespace Go.Proofs.YtoohanojfoichaaGreatDoor.Frm
set_option linter.unusedVariables false
open Lz (g pack)
open Crc (ent more)
open Cur (le by')

/-- The XOR of two bytes. -/
def x8 (a b : Int) : Int := ((a.toNat ^^^ b.toNat : Nat) : Int)
theorem x8_bd {a b : Int} (ha : 0 ≤ a ∧ a ≤ 255) (hb : 0 ≤ b ∧ b ≤ 255) : 0 ≤ x8 a b ∧ x8 a b ≤ 255 := by
  have := Nat.xor_lt_two_pow (n := 8) (x := a.toNat) (y := b.toNat) (by omega) (by omega)
  unfold x8; omega
/-- The head of a number. -/
def hd (n : Int) : List Int := [n % 256, n / 256 % 256, 255 - x8 (n % 256) (n / 256 % 256)]
theorem hd_length (n : Int) : (hd n).length = 3 := rfl
theorem hd_bytes (n : Int) : Bytes (hd n) := fun x hx => by
  have := x8_bd (a := n % 256) (b := n / 256 % 256) (by omega) (by omega)
  simp [hd] at hx
  rcases hx with rfl | rfl | rfl <;> omega
/-- The frame of a payload with bytes. -/
def whole (T : Nat → Nat) (n : Int) (p : List Int) : List Int := hd n ++ by' 4 (more T 0 p) ++ p
/-- The frame of bytes, 128 at most. -/
def put (T : Nat → Nat) (b : List Int) : List Int :=
  if b = [] then hd 0 else if (pack b).length < b.length then whole T (pack b).length (pack b) else whole T (b.length + 32768) b
end Go.Proofs.YtoohanojfoichaaGreatDoor.Frm

/- The walks of the smallest functions of frames: headOf, number, bodySize, the reference's head. -/
namespace Go.Proofs.YtoohanojfoichaaGreatDoor
set_option linter.unusedVariables false
open Go.RowKit Go.Maps
open Lz (g)
open Frm

theorem xor8 {a b : Int} (ha : 0 ≤ a ∧ a ≤ 255) (hb : 0 ≤ b ∧ b ≤ 255) : bits .xor .u8 a b = x8 a b := by
  obtain ⟨x, rfl⟩ : ∃ x : Nat, a = (x : Int) := ⟨a.toNat, by omega⟩
  obtain ⟨y, rfl⟩ : ∃ y : Nat, b = (y : Int) := ⟨b.toNat, by omega⟩
  rw [u8_xor_nat x y (by omega) (by omega)]; rfl
theorem hd_bits {n : Int} (hn : 0 ≤ n ∧ n ≤ 65535) : [n % 256, n / 256, (255 - bits .xor .u8 (n % 256) (n / 256)) % 256] = hd n := by
  have e : n / 256 % 256 = n / 256 := by omega
  rw [xor8 (by omega) (by omega)]
  unfold hd
  rw [e]
  have := x8_bd (a := n % 256) (b := n / 256) (by omega) (by omega)
  rw [show (255 - x8 (n % 256) (n / 256)) % 256 = 255 - x8 (n % 256) (n / 256) by omega]
/-- A head as the program has it. -/
def hv (n : Int) : Value := .agg (bv (hd n)).toArray
theorem infoHead : (Tryz.prog.info? 191).map (fun i => (i.zero, i.size)) = some (some (.agg #[.int .u8 0, .int .u8 0, .int .u8 0]), 3) := by kernel_rfl
set_option maxRecDepth 100000 in
theorem headOf_any (n : Int) (w : World) (hn : 0 ≤ n ∧ n ≤ 65535) :
    Calls Tryz.prog 128 #[.int .i64 n] w fun e w' => e = .returned (hv n) ∧ Below w.heap.size w w' := by
  have H : Hid (∀ x y z, x = n % 256 → y = n / 256 → z = (255 - bits .xor .u8 (n % 256) (n / 256)) % 256 → Value.agg #[.int .u8 x, .int .u8 y, .int .u8 z] = hv n) := by
    rintro x y z rfl rfl rfl
    unfold hv; rw [← hd_bits hn]; rfl
  obtain ⟨hz, hi'⟩ := zero_of_info infoHead
  go_enter Tryz.func128, Tryz.ntmps128
  go_wp2
  refine bodyPost_ret (v := hv n) ?_ rfl ⟨rfl, (Below.refl _ _).alloc (Nat.le_refl _) _⟩
  rw [← H.out _ _ _ rfl rfl rfl]
  exact results_cell_row rfl _ _ w.heap.size 191 _ (0, 0) _ rfl (heap_alloc_new w _) Tryz.underlying191 rfl hi'
theorem headOf_at (n a b c : Int) (w : World) (hn : 0 ≤ n ∧ n ≤ 65535) (h : hd n = [a, b, c]) :
    Calls Tryz.prog 128 #[.int .i64 n] w fun e w' => e = .returned (.agg #[.int .u8 a, .int .u8 b, .int .u8 c]) ∧ Below w.heap.size w w' := by
  refine (headOf_any n w hn).mono ?_
  rintro r w' ⟨rfl, hb⟩
  exact ⟨by unfold hv; rw [h]; rfl, hb⟩
end Go.Proofs.YtoohanojfoichaaGreatDoor

/- The walks of the program's Put and of whole. -/
namespace Go.Proofs.YtoohanojfoichaaGreatDoor
set_option linter.unusedVariables false
open Go.RowKit Go.Maps
open Lz (g pack)
open Crc (ent more)
open Cur
open Frm

theorem hd_three (n : Int) : ∃ a b c, hd n = [a, b, c] := ⟨_, _, _, rfl⟩
theorem more_bd {T : Nat → Nat} (hS : Small T) (p : List Int) : more T 0 p < 4294967296 := Crc.more_lt hS p (by omega)
theorem w_whole {T : Nat → Nat} (hS : Small T) (n : Int) (p : List Int) : wByt p (wNum (more T 0 p) 4 (wByt (hd n) ([], 0))) = (whole T n p, 0) := by
  have h := more_bd hS p
  have e : wByt (hd n) ([], 0) = (hd n, 0) := by unfold wByt; simp
  rw [e]
  have e2 : wNum (more T 0 p) 4 (hd n, 0) = (hd n ++ by' 4 (more T 0 p), 0) := by
    unfold wNum; rw [if_pos ⟨by omega, by omega, by omega, by show (more T 0 p : Int) < 4294967296; omega⟩]; rfl
  rw [e2]; rfl
theorem whole_length (T : Nat → Nat) (n : Int) (p : List Int) : (whole T n p).length = 7 + p.length := by
  unfold whole; rw [List.length_append, List.length_append, by_length, hd_length]

/-- Bytes that were just laid down, in cells of whatever type. -/
theorem bs_newT (w : World) (t : TypeId) (fz : Nat × Nat) (zs : List Int) (hb : Bytes zs) : Bs (w.alloc (.cells (bv zs).toArray t fz)) (some ⟨w.heap.size, 0, none⟩) zs.length zs := by
  refine ⟨rfl, hb.g, .inr ⟨w.heap.size, 0, rfl, by simp, fun i hi => ?_⟩⟩
  rw [Nat.zero_add, cell_of_row _ w.heap.size i _ _ _ (heap_alloc_new w _)]
  simp [bv, Lz.g_lt _ _ hi, hi]

set_option maxRecDepth 100000 in
set_option maxHeartbeats 1000000 in
theorem whole_any (tb len cap : Nat) (n : Int) (T : Nat → Nat) (ao : Option Addr) (zs : List Int) (w : World) (hT : Tb w tb T) (htb : tb < w.heap.size) (hS : Small T) (hn : 0 ≤ n ∧ n ≤ 65535) (hB : Bs w ao len zs) (hnil : ao = none → cap = 0) (hl : len ≤ 1000) :
    Calls Tryz.prog 130 #[.pointer (some ⟨tb, 0, none⟩), .int .i64 n, .slice ao len cap] w fun r w' => ∃ ao' c', r = .returned (.slice ao' (7 + len) c') ∧ New w w' ao' (7 + len) c' (whole T n zs) := by
  obtain ⟨x0, x1, x2, hx⟩ := hd_three n
  have HH : Hid (hd n = [x0, x1, x2]) := hx
  have HT : Hid (Tb w tb T) := hT
  have HB : Hid (Bs w ao len zs) := hB
  have HN : Hid (ao = none → cap = 0) := hnil
  have HW : Hid (wByt zs (wNum (more T 0 zs) 4 (wByt (hd n) ([], 0))) = (whole T n zs, 0)) := w_whole hS n zs
  have HL : Hid (zs.length = len) := hB.1
  have HS : Hid (Small T) := hS
  have hm := more_bd hS zs
  have hby := hd_bytes n
  rw [hx] at hby
  have HY : Hid (Bytes [x0, x1, x2]) := hby
  clear hx hT hB hS hby hnil
  go_enter Tryz.func130, Tryz.ntmps130
  go_wp2_with fail
  refine (headOf_at n x0 x1 x2 w hn HH.out).mono ?_
  rintro r w1 ⟨rfl, hb1⟩
  have HB1 : Hid (Below w.heap.size w w1) := hb1
  clear hb1
  go_wp2_with fail
  have HB2 : Hid (Below w.heap.size w ((w1.alloc (.cells #[.int .u8 x0, .int .u8 x1, .int .u8 x2] 191)).alloc (.cells #[.slice none 0 0, .int .i64 0] 120))) := (HB1.out.alloc HB1.out.size _).alloc (Nat.le_trans HB1.out.size (by simp)) _
  have HW2 : Hid (WrP ((w1.alloc (.cells #[.int .u8 x0, .int .u8 x1, .int .u8 x2] 191)).alloc (.cells #[.slice none 0 0, .int .i64 0] 120)) (w1.heap.size + 1) w.heap.size (.slice none 0 0) ([], 0)) := by
    have := WrP.new (w1.alloc (.cells #[.int .u8 x0, .int .u8 x1, .int .u8 x2] 191)) w.heap.size
    rw [World.size_alloc] at this; exact this
  have hx2 : Bs ((w1.alloc (.cells #[.int .u8 x0, .int .u8 x1, .int .u8 x2] 191)).alloc (.cells #[.slice none 0 0, .int .i64 0] 120)) (some ⟨w1.heap.size, 0, none⟩) 3 (hd n) := by
    rw [HH.out]; exact (bs_newT w1 191 (0, 0) _ HY.out).alloc _
  have hp : w.heap.size ≤ w1.heap.size + 1 := Nat.le_trans HB1.out.size (by omega)
  refine (wBytes_any (w1.heap.size + 1) w.heap.size 3 3 _ (.slice none 0 0) (hd n) ([], 0) _ HW2.out HB2.out.size hx2 (fun h => by simp at h) (by simp)).mono ?_
  rintro r w3 ⟨rfl, v3, hW3, hF3, hL3⟩
  have HB3 : Hid (Below w.heap.size w w3) := HB2.out.trans (hF3.two_below HB2.out.size hp (fun k hk => by simp [Value.ownBlock] at hk))
  have HW3 : Hid (WrP w3 (w1.heap.size + 1) w.heap.size v3 (wByt (hd n) ([], 0))) := hW3
  clear hW3 hF3 hL3 hx2 HB2 HW2
  have hl3 : (wByt (hd n) ([], 0)).1.length = 3 := by unfold wByt; simp [hd_length]
  generalize wByt (hd n) ([], 0) = s3 at *
  have hT3 := HT.out.below HB3.out htb
  go_wp2_with fail
  refine (Sum_any tb len cap T ao zs w3 hT3 HS.out (HB.out.below HB3.out) (by omega)).mono ?_
  rintro r wx ⟨rfl, rfl⟩
  clear hT3
  go_wp2_with fail
  refine (wNum_any (w1.heap.size + 1) w.heap.size v3 (more T 0 zs) 4 s3 wx HW3.out HB3.out.size (by omega) (by omega) (by omega)).mono ?_
  rintro r w4 ⟨rfl, v4, hW4, hF4, hL4⟩
  have HB4 : Hid (Below w.heap.size w w4) := HB3.out.trans (hF4.two_below HB3.out.size hp HW3.out.base)
  have HW4 : Hid (WrP w4 (w1.heap.size + 1) w.heap.size v4 (wNum (more T 0 zs) 4 s3)) := hW4
  clear hW4 hF4 hL4
  have hl4 : (wNum (more T 0 zs) 4 s3).1.length ≤ 7 := by
    unfold wNum; split
    · unfold wByt; split
      · rw [List.length_append, by_length]; simp; omega
      · omega
    · unfold fl; split
      · simp
      · omega
  generalize wNum (more T 0 zs) 4 s3 = s4 at *
  go_wp2_with fail
  refine (wBytes_any (w1.heap.size + 1) w.heap.size len cap ao v4 zs s4 w4 HW4.out HB4.out.size (HB.out.below HB4.out) HN.out (by omega)).mono ?_
  rintro r w5 ⟨rfl, v5, hW5, hF5, hL5⟩
  have HB5 : Hid (Below w.heap.size w w5) := HB4.out.trans (hF5.two_below HB4.out.size hp HW4.out.base)
  have HW5 : Hid (WrP w5 (w1.heap.size + 1) w.heap.size v5 (whole T n zs, 0)) := by rw [← HW.out]; exact hW5
  clear hW5 hF5 hL5
  have hlw : (whole T n zs).length = 7 + len := by rw [whole_length, HL.out]
  have HLW : Hid ((whole T n zs).length = 7 + len) := hlw
  go_wp2_with fail
  refine (DoneNew_any (w1.heap.size + 1) w.heap.size v5 (whole T n zs, 0) w5 HW5.out (by rw [HLW.out]; omega)).mono ?_
  rintro r w6 ⟨ao', c', rfl, hN⟩
  have HN6 : Hid (New w w6 ao' (7 + len) c' (whole T n zs)) := by
    have := hN.from HB5.out
    rw [HLW.out] at this; exact this
  clear hN hlw
  rw [HLW.out]
  go_wp2
  go_ret
  exact ⟨_, _, rfl, HN6.out⟩

theorem put_nil (T : Nat → Nat) : put T [] = [0, 0, 255] := by unfold put; rw [if_pos rfl]; decide
theorem put_packed (T : Nat → Nat) {zs : List Int} {len n1 : Nat} (hz : zs.length = len) (h0 : len ≠ 0) (hp : (pack zs).length = n1) (h : n1 < len) : put T zs = whole T n1 (pack zs) := by
  have : zs ≠ [] := fun e => h0 (by rw [← hz, e]; rfl)
  unfold put; rw [if_neg this, if_pos (by omega), hp]
theorem put_stored (T : Nat → Nat) {zs : List Int} {len n1 : Nat} (hz : zs.length = len) (h0 : len ≠ 0) (hp : (pack zs).length = n1) (h : ¬ n1 < len) : put T zs = whole T ((len : Int) + 32768) zs := by
  have : zs ≠ [] := fun e => h0 (by rw [← hz, e]; rfl)
  unfold put; rw [if_neg this, if_neg (by omega), hz]
/-- What Put answers. -/
def Puts (T : Nat → Nat) (w w' : World) (zs : List Int) (r : Ending) : Prop :=
  (128 < zs.length ∧ r = .returned (.tuple #[.slice none 0 0, .int .i64 3]) ∧ w' = w) ∨
  (zs.length ≤ 128 ∧ ∃ ao' c', r = .returned (.tuple #[.slice ao' (put T zs).length c', .int .i64 0]) ∧ New w w' ao' (put T zs).length c' (put T zs))
set_option maxRecDepth 100000 in
set_option maxHeartbeats 1000000 in
theorem Put_any (tb len cap : Nat) (T : Nat → Nat) (ao : Option Addr) (zs : List Int) (w : World) (hT : Tb w tb T) (htb : tb < w.heap.size) (hS : Small T) (hB : Bs w ao len zs) (hc : len ≤ cap) (hnil : ao = none → cap = 0) (hl : len ≤ 1000) :
    Calls Tryz.prog 86 #[.pointer (some ⟨tb, 0, none⟩), .slice ao len cap] w fun r w' => Puts T w w' zs r := by
  have hz := hB.1
  by_cases h1 : 128 < len
  · have H : Hid (Puts T w w zs (.returned (.tuple #[.slice none 0 0, .int .i64 3]))) := .inl ⟨by omega, rfl, rfl⟩
    clear hT hB hnil
    go_enter Tryz.func86, Tryz.ntmps86
    go_wp2
    go_ret2
    exact H.out
  by_cases h2 : len = 0
  · subst h2
    obtain rfl : zs = [] := List.eq_nil_of_length_eq_zero hz
    have HP : Hid (put T [] = [0, 0, 255]) := put_nil T
    have hh : hd 0 = [0, 0, 255] := by decide
    clear hT hB hnil hz
    go_enter Tryz.func86, Tryz.ntmps86
    go_wp2_with fail
    refine (headOf_at 0 0 0 255 w (by omega) hh).mono ?_
    rintro r w1 ⟨rfl, hb1⟩
    have HB1 : Hid (Below w.heap.size w w1) := hb1
    clear hb1 hh
    go_wp2
    go_ret2
    refine .inr ⟨by simp, _, 3, by rw [HP.out]; rfl, ?_⟩
    rw [HP.out]
    exact ⟨bs_newT w1 191 (0, 0) [0, 0, 255] (fun x hx => by simp at hx; omega), by simp, by omega, fun h => by simp at h, HB1.out.alloc HB1.out.size _, fun a ha => by cases ha; exact ⟨HB1.out.size, rfl, _, _, heap_alloc_new w1 _⟩⟩
  have HT : Hid (Tb w tb T) := hT
  have HB : Hid (Bs w ao len zs) := hB
  have HN : Hid (ao = none → cap = 0) := hnil
  have HS : Hid (Small T) := hS
  have HZ : Hid (zs.length = len) := hz
  clear hT hB hnil hS hz
  go_enter Tryz.func86, Tryz.ntmps86
  go_wp2_with fail
  refine (Pack_any len cap ao zs w HB.out hc (by omega)).mono ?_
  rintro r w1 (⟨h4, _⟩ | ⟨_, ao1, n1, c1, rfl, ho1, hb1⟩)
  · omega
  have HO1 : Hid (w1.ownsRow w.heap.size 5 1 (.slice ao1 n1 c1) n1 (bv (pack zs))) := ho1
  have HB1 : Hid (Below w.heap.size w w1) := hb1
  have hl1 : (pack zs).length = n1 := by have := ho1.1; rw [bv_length] at this; omega
  have HL1 : Hid ((pack zs).length = n1) := hl1
  have hsh := Lz.pack_short zs
  have hn1 : n1 ≤ 1000 := by rw [HZ.out] at hsh; omega
  have hbp : Bytes (pack zs) := HB.out.bytes.pack
  have HBP : Hid (Bytes (pack zs)) := hbp
  clear ho1 hb1 hsh hbp hl1
  by_cases h3 : n1 < len
  · have h3' : decide ((n1 : Int) < (len : Int)) = true := by simp; omega
    have HP : Hid (put T zs = whole T n1 (pack zs)) := put_packed T HZ.out h2 HL1.out h3
    go_wp2_with fail
    refine (whole_any tb n1 c1 n1 T ao1 (pack zs) w1 (HT.out.below HB1.out htb) (Nat.lt_of_lt_of_le htb HB1.out.size) HS.out (by omega) (bs_of_owns HO1.out HBP.out) (nil_cap HO1.out) hn1).mono ?_
    rintro r w2 ⟨ao2, c2, rfl, hN⟩
    have HX : Hid (Puts T w w2 zs (.returned (.tuple #[.slice ao2 (7 + n1) c2, .int .i64 0]))) := by
      refine .inr ⟨by rw [HZ.out]; omega, ao2, c2, ?_, ?_⟩
      · rw [HP.out, whole_length, HL1.out]
      · have := hN.from HB1.out
        rw [HP.out, whole_length, HL1.out]; exact this
    clear hN
    go_wp2
    go_ret2
    exact HX.out
  · have h3' : decide ((n1 : Int) < (len : Int)) = false := by simp; omega
    have HP : Hid (put T zs = whole T ((len : Int) + 32768) zs) := put_stored T HZ.out h2 HL1.out h3
    go_wp2_with fail
    refine (whole_any tb len cap ((len : Int) + 32768) T ao zs w1 (HT.out.below HB1.out htb) (Nat.lt_of_lt_of_le htb HB1.out.size) HS.out (by omega) (HB.out.below HB1.out) HN.out hl).mono ?_
    rintro r w2 ⟨ao2, c2, rfl, hN⟩
    have HX : Hid (Puts T w w2 zs (.returned (.tuple #[.slice ao2 (7 + len) c2, .int .i64 0]))) := by
      refine .inr ⟨by rw [HZ.out]; omega, ao2, c2, ?_, ?_⟩
      · rw [HP.out, whole_length, HZ.out]
      · have := hN.from HB1.out
        rw [HP.out, whole_length, HZ.out]; exact this
    clear hN
    go_wp2
    go_ret2
    exact HX.out
end Go.Proofs.YtoohanojfoichaaGreatDoor

/- What was framed is read as it was, wherever it stands; a frame that is cut, or of which a byte is turned, is none; how long frames are. -/
namespace Go.Proofs.YtoohanojfoichaaGreatDoor.Frm
set_option linter.unusedVariables false
open Lz (g pack)
open Crc (ent more)
open Cur (le by')

theorem g_app_right (a b : List Int) (i : Nat) : g (a ++ b) (a.length + i) = g b i := by simp [g, List.getElem?_append_right]
theorem g_app_r {a b : List Int} {k : Nat} (hk : a.length = k) (i : Nat) : g (a ++ b) (k + i) = g b i := by rw [← hk]; exact g_app_right a b i
theorem put_length {T : Nat → Nat} {b : List Int} (h : b.length ≤ 128) : 3 ≤ (put T b).length ∧ (put T b).length ≤ b.length + 7 ∧ (put T b).length ≤ 135 := by
  by_cases h0 : b = []
  · subst h0; rw [put_nil]; simp
  · unfold put; rw [if_neg h0]
    split
    · rw [whole_length]; omega
    · rw [whole_length]; omega
theorem put_bytes {T : Nat → Nat} {b : List Int} (h : Bytes b) : Bytes (put T b) := by
  unfold put whole
  split
  · exact hd_bytes 0
  · split
    · exact ((hd_bytes _).append (by_bytes 4 _)).append h.pack
    · exact ((hd_bytes _).append (by_bytes 4 _)).append h
end Go.Proofs.YtoohanojfoichaaGreatDoor.Frm

/- The walks of plain, and of the two functions that are handed to pass. -/
namespace Go.Proofs.YtoohanojfoichaaGreatDoor
set_option linter.unusedVariables false
open Go.RowKit Go.Maps
open Lz (g pack)
open Crc (ent more)
open Cur
open Frm

/-- Bytes in blocks that are new since w, or none. -/
structure Fresh (w w' : World) (ao : Option Addr) (n c : Nat) (zs : List Int) : Prop where
  bs : Bs w' ao n zs
  cap : n ≤ c
  max : c ≤ 9223372036854775807
  nil : ao = none → c = 0
  bel : Below w.heap.size w w'
  new : ∀ a, ao = some a → w.heap.size ≤ a.block
theorem Fresh.from {w0 w w' : World} {ao : Option Addr} {n c : Nat} {zs : List Int} (h : Fresh w w' ao n c zs) (hb : Below w0.heap.size w0 w) : Fresh w0 w' ao n c zs :=
  ⟨h.bs, h.cap, h.max, h.nil, hb.trans (h.bel.mono hb.size), fun a ha => Nat.le_trans hb.size (h.new a ha)⟩
end Go.Proofs.YtoohanojfoichaaGreatDoor

/- Two arrays of three bytes, held against each other. -/
namespace Go.Proofs.YtoohanojfoichaaGreatDoor
set_option linter.unusedVariables false
open Go.RowKit Go.Maps

end Go.Proofs.YtoohanojfoichaaGreatDoor

/- The walk of pass: the frame at a place, whatever function is handed to it. -/
namespace Go.Proofs.YtoohanojfoichaaGreatDoor
set_option linter.unusedVariables false
open Go.RowKit Go.Maps
open Lz (g pack)
open Crc (ent more)
open Cur
open Frm

end Go.Proofs.YtoohanojfoichaaGreatDoor

/- The walks of Take and Skip, and of the functions that they hand to pass. -/
namespace Go.Proofs.YtoohanojfoichaaGreatDoor
set_option linter.unusedVariables false
open Go.RowKit Go.Maps
open Lz (g pack)
open Crc (ent more)
open Cur
open Frm

end Go.Proofs.YtoohanojfoichaaGreatDoor

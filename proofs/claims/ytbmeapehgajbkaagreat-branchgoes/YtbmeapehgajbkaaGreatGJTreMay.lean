import Derived.Test.YtbmeapehgajbkaaGreatGJTreAlike
import Derived.Lib.Strings
import Derived.Lib.Slices
import Derived.Lib.Walk
import Derived.Lib.Bytealg
set_option linter.unusedVariables false
namespace Go.Proofs.YtbmeapehgajbkaaGreat
open Go.RowKit Go.Maps
open Nam Tre
open Lz (g)
theorem indexByte_neg (l : List UInt8) : decide (Lib.indexByte l 0 < 0) = !l.any (· == 0) := by
 induction l with
 | nil => rfl
 | cons b l ih =>
  unfold Lib.indexByte
  rw [List.any_cons]
  cases hb : b == 0 with
  | true => simp
  | false =>
   simp only [Bool.false_or]
   rw [← ih, if_neg (by simp)]
   have := Lib.indexByte_ge l 0
   by_cases e : Lib.indexByte l 0 = -1
   ·rw [if_pos (by simpa using e), e]
   ·rw [if_neg (by simpa using e)]
    rw [decide_eq_false (by omega), decide_eq_false (by omega)]
set_option maxHeartbeats 1000000 in
set_option maxRecDepth 100000 in
theorem liteIndex_any (s : ByteArray) (w : World) :
  Calls Tryz.prog 98 #[.string s, .int .u8 0] w fun e w' => e = .returned (.int .i64 (Lib.indexByte s.data.toList 0)) ∧ w' = w := by
 go_enter Tryz.func98, Tryz.ntmps98
 go_wp2
 rw [run_callFunc_extern Tryz.func100 (by kernel_rfl) (by kernel_rfl) (by kernel_rfl) (e := Extern.BytealgIndexByte.indexByte) (by kernel_rfl), Lib.run_indexByteString]
 simp only [Result.andThen]
 rw [Oper.upon_value]
 go_wp2
 go_ret
 exact ⟨rfl, rfl⟩
theorem indexByte_any (s : ByteArray) (w : World) (z : Int) (hz : Lib.indexByte s.data.toList 0 = z) :
  Calls Tryz.prog 91 #[.string s, .int .u8 0] w fun e w' => e = .returned (.int .i64 z) ∧ w' = w := by
 subst hz
 go_enter Tryz.func91, Tryz.ntmps91
 go_wp2_with (go_at_call 98; refine (liteIndex_any _ _).mono ?_; rintro e w' ⟨rfl, rfl⟩)
 go_ret
 exact ⟨rfl, rfl⟩
theorem txt_eq (s : ByteArray) (m : Nat) (a b c : Bool) (ha : s.toList.isEmpty = a) (hb : decide ((s.size : Int) ≤ m) = b) (hc : decide (Lib.indexByte s.data.toList 0 < 0) = c) : txt s.toList m = (!a && b && c) := by
 subst ha hb hc
 unfold txt
 rw [indexByte_neg, ← ByteArray.toList_eq, toList_length]
 congr 1
 congr 1
 ·cases s.toList <;> simp
 ·rw [Bool.eq_iff_iff, decide_eq_true_eq, decide_eq_true_eq]; omega
set_option maxRecDepth 100000 in
theorem isText_any (s : ByteArray) (m : Nat) (w : World) (q : Bool) (hq : txt s.toList m = q) (hm : m ≤ 1000) :
  Calls Tryz.prog 95 #[.string s, .int .i64 m] w fun e w' => e = .returned (.bool q) ∧ w' = w := by
 obtain ⟨a, ha⟩ : ∃ q, s.toList.isEmpty = q := ⟨_, rfl⟩
 obtain ⟨b, hb⟩ : ∃ q, decide ((s.size : Int) ≤ m) = q := ⟨_, rfl⟩
 obtain ⟨z, hz⟩ : ∃ z, Lib.indexByte s.data.toList 0 = z := ⟨_, rfl⟩
 obtain ⟨c, hc⟩ : ∃ q, decide (z < 0) = q := ⟨_, rfl⟩
 have HE := hide (txt_eq s m a b c ha hb (by rw [hz]; exact hc))
 have HZ := hide hz
 have HQ := hide hq
 clear hz hq
 cases a with
 | true =>
  go_enter Tryz.func95, Tryz.ntmps95
  go_wp2
  go_ret
  exact ⟨ret_bool (by rw [← HQ.out, HE.out]; rfl), rfl⟩
 | false =>
 cases b with
 | false =>
  have hb2 : ¬ s.size ≤ m := by have := of_decide_eq_false hb; omega
  go_enter Tryz.func95, Tryz.ntmps95
  go_wp2
  go_ret
  exact ⟨ret_bool (by rw [← HQ.out, HE.out]; rfl), rfl⟩
 | true =>
  have hb2 : s.size ≤ m := by have := of_decide_eq_true hb; omega
  go_enter Tryz.func95, Tryz.ntmps95
  go_wp2_with (go_at_call 91; refine (indexByte_any _ _ z HZ.out).mono ?_; rintro e w' ⟨rfl, rfl⟩)
  go_ret
  exact ⟨ret_bool (by rw [← HQ.out, HE.out]; simp), rfl⟩
def upB (x m : Int) : Bool := decide (0 ≤ x ∧ x ≤ m)
theorem upTo_any (x m : Int) (w : World) :
  Calls Tryz.prog 96 #[.int .i64 x, .int .i64 m] w fun e w' => e = .returned (.bool (upB x m)) ∧ w' = w := by
 have HQ := hide (show upB x m = decide (0 ≤ x ∧ x ≤ m) from rfl)
 by_cases h : 0 ≤ x
 ·go_enter Tryz.func96, Tryz.ntmps96
  go_wp2
  go_ret
  exact ⟨ret_bool (by rw [HQ.out]; simp [h]), rfl⟩
 ·have h' : x < 0 := by omega
  go_enter Tryz.func96, Tryz.ntmps96
  go_wp2
  go_ret
  exact ⟨ret_bool (by rw [HQ.out]; simp; omega), rfl⟩
theorem attrB (n : Nod) : attrOk n = (upB n.mode 511 && upB n.uid 65535 && upB n.gid 65535) := by
 unfold attrOk upB
 rw [Bool.eq_iff_iff]
 simp only [Bool.and_eq_true, decide_eq_true_eq, and_assoc]
set_option maxRecDepth 100000 in
theorem attrMayBe_any (x y z : Int) (w : World) (q : Bool) (hq : (upB x 511 && upB y 65535 && upB z 65535) = q) :
  Calls Tryz.prog 84 #[.agg #[.int .i64 x, .int .i64 y, .int .i64 z]] w fun e w' => e = .returned (.bool q) ∧ Below w.heap.size w w' := by
 obtain ⟨a, ha⟩ : ∃ q, upB x 511 = q := ⟨_, rfl⟩
 obtain ⟨b, hb⟩ : ∃ q, upB y 65535 = q := ⟨_, rfl⟩
 have HE := hide hq
 have bel : Hid (∀ o, Below w.heap.size w (w.alloc o)) := fun o => (Below.refl _ _).alloc (Nat.le_refl _) _
 clear hq
 cases a with
 | false =>
  go_enter Tryz.func84, Tryz.ntmps84
  go_wp2_with (go_at_call 96; refine (upTo_any _ _ _).mono ?_; rintro e w' ⟨rfl, rfl⟩)
  go_ret
  exact ⟨ret_bool (by rw [← HE.out, ha]; rfl), bel.out _⟩
 | true =>
 cases b with
 | false =>
  go_enter Tryz.func84, Tryz.ntmps84
  go_wp2_with (go_at_call 96; refine (upTo_any _ _ _).mono ?_; rintro e w' ⟨rfl, rfl⟩)
  go_ret
  exact ⟨ret_bool (by rw [← HE.out, ha, hb]; rfl), bel.out _⟩
 | true =>
  go_enter Tryz.func84, Tryz.ntmps84
  go_wp2_with (go_at_call 96; refine (upTo_any _ _ _).mono ?_; rintro e w' ⟨rfl, rfl⟩)
  go_ret
  exact ⟨ret_bool (by rw [← HE.out, ha, hb]; rfl), bel.out _⟩
theorem kind_eq {w : World} {v : Nv} {n : Nod} (h : Rep w v n) (q : Bool) (hq : kdOk n = q) : (if v.kind = 1 then decide ((v.dn : Int) = 0) && v.tg.toList.isEmpty else if v.kind = 2 then decide ((v.dn : Int) ≤ 4096) && v.tg.toList.isEmpty else if v.kind = 3 then decide ((v.dn : Int) = 0) && txt v.tg.toList 200 else false) = q := by
 rw [← hq, kdOk, h.kind, h.tg, h.data.1]
 have e1 : decide ((v.dn : Int) = 0) = decide (v.dn = 0) := by rw [Bool.eq_iff_iff]; simp only [decide_eq_true_eq]; omega
 have e2 : decide ((v.dn : Int) ≤ 4096) = decide (v.dn ≤ 4096) := by rw [Bool.eq_iff_iff]; simp only [decide_eq_true_eq]; omega
 rw [e1, e2]
set_option maxRecDepth 100000 in
theorem kindMayBe_any (v : Nv) (n : Nod) (w : World) (h : Rep w v n) (q : Bool) (hq : kdOk n = q) :
  Calls Tryz.prog 83 #[.agg v.cells] w fun e w' => e = .returned (.bool q) ∧ Below w.heap.size w w' := by
 have HE := hide (kind_eq h q hq)
 have bel : Hid (∀ o, Below w.heap.size w (w.alloc o)) := fun o => (Below.refl _ _).alloc (Nat.le_refl _) _
 clear h hq
 unfold Nv.cells
 by_cases k1 : v.kind = 1
 ·have k1' : (v.kind == 1) = true := by simpa using k1
  have HK := hide k1
  by_cases hz : v.dn = 0
  ·have hz' : ((v.dn : Int) == 0) = true := by simpa using hz
   have HZ := hide hz
   clear k1 hz
   go_enter Tryz.func83, Tryz.ntmps83
   go_wp2
   go_ret
   exact ⟨ret_bool (by rw [← HE.out, if_pos HK.out, HZ.out]; rfl), bel.out _⟩
  ·have hz' : ((v.dn : Int) == 0) = false := by simpa using hz
   have HZ := hide hz
   clear k1 hz
   go_enter Tryz.func83, Tryz.ntmps83
   go_wp2
   go_ret
   exact ⟨ret_bool (by rw [← HE.out, if_pos HK.out, decide_eq_false (by have := HZ.out; omega)]; rfl), bel.out _⟩
 ·have k1' : (v.kind == 1) = false := by simpa using k1
  by_cases k2 : v.kind = 2
  ·have k2' : (v.kind == 2) = true := by simpa using k2
   have HK := hide k1
   have HK2 := hide k2
   by_cases hz : v.dn ≤ 4096
   ·have hz' : decide ((v.dn : Int) ≤ 4096) = true := by simp; omega
    have hz2 : (v.dn : Int) ≤ 4096 := by omega
    clear k1 k2
    go_enter Tryz.func83, Tryz.ntmps83
    go_wp2
    go_ret
    exact ⟨ret_bool (by rw [← HE.out, if_neg HK.out, if_pos HK2.out, hz']; rfl), bel.out _⟩
   ·have hz' : decide ((v.dn : Int) ≤ 4096) = false := by simp; omega
    have hz2 : ¬ (v.dn : Int) ≤ 4096 := by omega
    clear k1 k2
    go_enter Tryz.func83, Tryz.ntmps83
    go_wp2
    go_ret
    exact ⟨ret_bool (by rw [← HE.out, if_neg HK.out, if_pos HK2.out, hz']; rfl), bel.out _⟩
  ·have k2' : (v.kind == 2) = false := by simpa using k2
   by_cases k3 : v.kind = 3
   ·have k3' : (v.kind == 3) = true := by simpa using k3
    have HK := hide k1
    have HK2 := hide k2
    have HK3 := hide k3
    by_cases hz : v.dn = 0
    ·have hz' : ((v.dn : Int) == 0) = true := by simpa using hz
     have HZ := hide hz
     clear k1 k2 k3 hz
     go_enter Tryz.func83, Tryz.ntmps83
     go_wp2_with (go_at_call 95; refine (isText_any v.tg 200 _ (txt v.tg.toList 200) rfl (by omega)).mono ?_; rintro e w' ⟨rfl, rfl⟩)
     go_ret
     exact ⟨ret_bool (by rw [← HE.out, if_neg HK.out, if_neg HK2.out, if_pos HK3.out, HZ.out]; rfl), bel.out _⟩
    ·have hz' : ((v.dn : Int) == 0) = false := by simpa using hz
     have HZ := hide hz
     clear k1 k2 k3 hz
     go_enter Tryz.func83, Tryz.ntmps83
     go_wp2_with (go_at_call 95; refine (isText_any v.tg 200 _ (txt v.tg.toList 200) rfl (by omega)).mono ?_; rintro e w' ⟨rfl, rfl⟩)
     go_ret
     exact ⟨ret_bool (by rw [← HE.out, if_neg HK.out, if_neg HK2.out, if_pos HK3.out, decide_eq_false (by have := HZ.out; omega)]; rfl), bel.out _⟩
   ·have k3' : (v.kind == 3) = false := by simpa using k3
    have HK := hide k1
    have HK2 := hide k2
    have HK3 := hide k3
    clear k1 k2 k3
    go_enter Tryz.func83, Tryz.ntmps83
    go_wp2
    go_ret
    exact ⟨ret_bool (by rw [← HE.out, if_neg HK.out, if_neg HK2.out, if_neg HK3.out]), bel.out _⟩
end Go.Proofs.YtbmeapehgajbkaaGreat
namespace Go.Proofs.YtbmeapehgajbkaaGreat
open Go.RowKit Go.Maps
open Nam Tre
open Lz (g)
theorem xs1_step (s : List UInt8) (xs : List (ByteArray × List Int)) (i : Nat) (h : i < xs.length) : xs1 s (xs.drop i) = (Op.bytesLess s (gx xs i).1.toList && txt (gx xs i).1.toList 40 && decide ((gx xs i).2.length ≤ 200) && xs1 (gx xs i).1.toList (xs.drop (i + 1))) := by
 rw [xs_drop xs i h, xs1]
set_option maxRecDepth 100000 in
theorem xattrsMayBe_any (ao : Option Addr) (n c : Nat) (xs : List (ByteArray × List Int)) (w : World) (h : XsR w ao n xs) (hc : n ≤ c) (hcm : c ≤ 9223372036854775807) (q : Bool) (hq : xsOk xs = q) :
  Calls Tryz.prog 85 #[.slice ao n c] w fun e w' => e = .returned (.bool q) ∧ Below w.heap.size w w' := by
 have HN := hide h.1
 have HX := hide h
 by_cases h8 : n ≤ 8
 ·have HE : Hid (q = xs1 [] (xs.drop 0)) := by
   show _ = _
   rw [← hq, xsOk, decide_eq_true (by have := h.1; omega), Bool.true_and]; rfl
  have h8' : decide ((8 : Int) < n) = false := by simp; omega
  have h8n : ¬ (8 : Int) < n := by omega
  clear hq h
  go_enter Tryz.func85, Tryz.ntmps85
  go_wp2
  go_loopw [3, 5, 11] (fun r3 _ r wr => ∃ (i : Nat) (s : ByteArray), r3 = .string s ∧ r = .int .i64 i ∧ i ≤ n ∧ Below w.heap.size w wr ∧ q = xs1 s.toList (xs.drop i)) (fun _ _ r _ => n - (intOf r).toNat)
  case atStart => exact ⟨0, ⟨#[]⟩, rfl, rfl, Nat.zero_le _, Below.refl _ _, by rw [toList_mk [], HE.out]⟩
  case round =>
   obtain ⟨i, s, rfl, rfl, hi0, hbel, hinv⟩ := hrel
   have HI := hide hinv
   have HB := hide hbel
   by_cases hp : i < n
   ·have hd : decide ((i : Int) < n) = true := by simpa using hp
    obtain ⟨ba, oa, rfl, hba, hca⟩ := (HX.out.below hbel).at (by omega)
    obtain ⟨c1, va, vn, vc, c2, b1, _⟩ := hca i hp
    have HS := hide (xs1_step s.toList xs i (by rw [HN.out]; exact hp))
    have HL := hide b1.1
    clear hca b1 hinv hbel
    obtain ⟨q1, hq1⟩ : ∃ q, Op.bytesLess s.toList (gx xs i).1.toList = q := ⟨_, rfl⟩
    obtain ⟨q2, hq2⟩ : ∃ q, txt (gx xs i).1.toList 40 = q := ⟨_, rfl⟩
    have HQ2 := hide hq2
    have bel : Hid (∀ o, Below w.heap.size w (wr.alloc o)) := fun o => HB.out.alloc HB.out.size _
    clear hq2
    cases q1 with
    | false =>
     by_cases he : (gx xs i).1.toList = s.toList
     ·have g1 : Op.bytesLess (gx xs i).1.toList s.toList = false := by rw [he]; exact bless_irrefl _
      have g2 : ((gx xs i).1.toList == s.toList) = true := by simpa using he
      have HQ1 := hide hq1
      clear he hq1
      go_wp2
      go_ret
      exact ⟨ret_bool (by rw [HI.out, HS.out, HQ1.out]; rfl), bel.out _⟩
     ·have g1 : Op.bytesLess (gx xs i).1.toList s.toList = true := by
       rcases bless_total _ _ he with k | k
       ·exact k
       ·rw [k] at hq1; cases hq1
      have HQ1 := hide hq1
      clear he hq1
      go_wp2
      go_ret
      exact ⟨ret_bool (by rw [HI.out, HS.out, HQ1.out]; rfl), bel.out _⟩
    | true =>
    have g1 : Op.bytesLess (gx xs i).1.toList s.toList = false := bless_asymm _ _ hq1
    have g2 : ((gx xs i).1.toList == s.toList) = false := by
     rw [beq_eq_false_iff_ne]; intro he; rw [he, bless_irrefl] at hq1; cases hq1
    have g3 : ¬ (gx xs i).1.toList = s.toList := by simpa using g2
    cases q2 with
    | false =>
     go_wp2_with (go_at_call 95; refine (isText_any (gx xs i).1 40 _ false HQ2.out (by omega)).mono ?_; rintro e w' ⟨rfl, rfl⟩)
     go_ret
     exact ⟨ret_bool (by rw [HI.out, HS.out, hq1, HQ2.out]; rfl), bel.out _⟩
    | true =>
     by_cases hv : vn ≤ 200
     ·have hv1 : decide ((200 : Int) < vn) = false := by simp; omega
      have hv2 : ¬ (200 : Int) < vn := by omega
      go_wp2_with (go_at_call 95; refine (isText_any (gx xs i).1 40 _ true HQ2.out (by omega)).mono ?_; rintro e w' ⟨rfl, rfl⟩)
      refine ⟨⟨i + 1, _, rfl, by go_num, by omega, bel.out _, ?_⟩, by simp [intOf]; omega⟩
      rw [HI.out, HS.out, hq1, HQ2.out, decide_eq_true (by rw [HL.out]; exact hv)]
      rfl
     ·have hv1 : decide ((200 : Int) < vn) = true := by simp; omega
      have hv2 : (200 : Int) < vn := by omega
      go_wp2_with (go_at_call 95; refine (isText_any (gx xs i).1 40 _ true HQ2.out (by omega)).mono ?_; rintro e w' ⟨rfl, rfl⟩)
      go_ret
      exact ⟨ret_bool (by rw [HI.out, HS.out, hq1, HQ2.out, decide_eq_false (by rw [HL.out]; exact hv)]; rfl), bel.out _⟩
   ·have hd : decide ((i : Int) < n) = false := by simpa using hp
    go_wp2
    go_ret
    refine ⟨ret_bool ?_, HB.out⟩
    rw [HI.out, List.drop_eq_nil_of_le (by rw [HN.out]; omega)]; rfl
 ·have h8' : decide ((8 : Int) < n) = true := by simp; omega
  have h8n : (8 : Int) < n := by omega
  have HE : Hid (false = q) := by
   show _ = _
   rw [← hq, xsOk, decide_eq_false (by have := h.1; omega)]; rfl
  clear hq h
  go_enter Tryz.func85, Tryz.ntmps85
  go_wp2
  go_ret
  exact ⟨ret_bool HE.out, Below.refl _ _⟩
set_option maxRecDepth 100000 in
theorem mayBe_any (v : Nv) (n : Nod) (w : World) (h : Rep w v n) :
  Calls Tryz.prog 58 #[.agg v.cells] w fun e w' => e = .returned (.bool (may n)) ∧ Below w.heap.size w w' := by
 obtain ⟨a, ha⟩ : ∃ q, kdOk n = q := ⟨_, rfl⟩
 obtain ⟨b, hb⟩ : ∃ q, (upB v.mode 511 && upB v.uid 65535 && upB v.gid 65535) = q := ⟨_, rfl⟩
 obtain ⟨c, hc⟩ : ∃ q, xsOk n.xs = q := ⟨_, rfl⟩
 have HE : Hid (may n = (a && b && c && !v.op)) := by
  show _ = _
  rw [may, ha, attrB, h.mode, h.uid, h.gid, hb, hc, h.op]
 have HA := hide ha
 have HB := hide hb
 have HC := hide hc
 have HR := hide h
 have x1 := h.xc
 have x2 := h.xcm
 have bel : Hid (∀ o, Below w.heap.size w (w.alloc o)) := fun o => (Below.refl _ _).alloc (Nat.le_refl _) _
 clear ha hb hc h
 have HBX := hide (boxed w v)
 unfold Nv.cells
 cases a with
 | false =>
  go_enter Tryz.func58, Tryz.ntmps58
  go_wp2_with (go_at_call 83; refine (kindMayBe_any v n _ (HR.out.below (bel.out _)) false HA.out).mono ?_; rintro e w1 ⟨rfl, hb1⟩)
  go_ret
  exact ⟨ret_bool (by rw [HE.out]; rfl), (bel.out _).trans (hb1.mono (by simp))⟩
 | true =>
  go_enter Tryz.func58, Tryz.ntmps58
  go_wp2_with (go_at_call 83; refine (kindMayBe_any v n _ (HR.out.below (bel.out _)) true HA.out).mono ?_)
  rintro e w1 ⟨rfl, hb1⟩
  have B1 := hide (HBX.out.below hb1)
  have e1 := hide ((bel.out _).trans (hb1.mono (by simp)))
  have d3 := B1.out.c3
  have d4 := B1.out.c4
  have d5 := B1.out.c5
  clear hb1
  cases b with
  | false =>
   go_wp2_with (go_at_call 84; refine (attrMayBe_any _ _ _ _ false HB.out).mono ?_; rintro e w2 ⟨rfl, hb2⟩)
   go_ret
   exact ⟨ret_bool (by rw [HE.out]; rfl), e1.out.trans (hb2.mono e1.out.size)⟩
  | true =>
   go_wp2_with (go_at_call 84; refine (attrMayBe_any _ _ _ _ true HB.out).mono ?_)
   rintro e w2 ⟨rfl, hb2⟩
   have B2 := hide (B1.out.below hb2)
   have e2 := hide (e1.out.trans (hb2.mono e1.out.size))
   have d8 := B2.out.c8
   clear hb2 d3 d4 d5
   cases c with
   | false =>
    go_wp2_with (go_at_call 85; refine (xattrsMayBe_any _ _ _ n.xs _ (HR.out.below e2.out).xs x1 x2 false HC.out).mono ?_; rintro e w3 ⟨rfl, hb3⟩)
    go_ret
    exact ⟨ret_bool (by rw [HE.out]; rfl), e2.out.trans (hb3.mono e2.out.size)⟩
   | true =>
    go_wp2_with (go_at_call 85; refine (xattrsMayBe_any _ _ _ n.xs _ (HR.out.below e2.out).xs x1 x2 true HC.out).mono ?_)
    rintro e w3 ⟨rfl, hb3⟩
    have e3 := hide (e2.out.trans (hb3.mono e2.out.size))
    have d9 := (B2.out.below hb3).c9
    clear hb3 d8
    go_wp2
    go_ret
    exact ⟨ret_bool (by rw [HE.out]; rfl), e3.out⟩
end Go.Proofs.YtbmeapehgajbkaaGreat
namespace Go.Proofs.YtbmeapehgajbkaaGreat
open Go.RowKit Go.Maps
open Nam Tre
open Lz (g)
end Go.Proofs.YtbmeapehgajbkaaGreat

import Derived.Test.YtgnjifdaccphhaaBJTreAlike
import Derived.Lib.Strings
import Derived.Lib.Slices
import Derived.Lib.Walk
import Derived.Lib.Bytealg
set_option linter.unusedVariables false
namespace Go.Proofs.Ytgnjifdaccphhaa
open Go.RowKit Go.Maps
open Nam Tre
open Lz (g)
theorem indexByte_neg (l : List UInt8) : decide (Lib.indexByte l 0 < 0) = !l.any (· == 0) := by
 induction l with
 | nil => rfl
 | cons b l ih =>
  unfold Lib.indexByte
  rw [List.any_cons]
  cases hb : b == 0 with
  | true => simp
  | false =>
   simp only [Bool.false_or]
   rw [← ih, if_neg (by simp)]
   have := Lib.indexByte_ge l 0
   by_cases e : Lib.indexByte l 0 = -1
   ·rw [if_pos (by simpa using e), e]
   ·rw [if_neg (by simpa using e)]
    rw [decide_eq_false (by omega), decide_eq_false (by omega)]
set_option maxHeartbeats 1000000 in
set_option maxRecDepth 100000 in
theorem liteIndex_any (s : ByteArray) (w : World) :
  Calls Try.prog 58 #[.string s, .int .u8 0] w fun e w' => e = .returned (.int .i64 (Lib.indexByte s.data.toList 0)) ∧ w' = w := by
 go_enter Try.func58, Try.ntmps58
 go_wp2
 rw [run_callFunc_extern Try.func59 (by kernel_rfl) (by kernel_rfl) (by kernel_rfl) (e := Extern.BytealgIndexByte.indexByte) (by kernel_rfl), Lib.run_indexByteString]
 simp only [Result.andThen]
 rw [Oper.upon_value]
 go_wp2
 go_ret
 exact ⟨rfl, rfl⟩
theorem indexByte_any (s : ByteArray) (w : World) (z : Int) (hz : Lib.indexByte s.data.toList 0 = z) :
  Calls Try.prog 56 #[.string s, .int .u8 0] w fun e w' => e = .returned (.int .i64 z) ∧ w' = w := by
 subst hz
 go_enter Try.func56, Try.ntmps56
 go_wp2_with (go_at_call 58; refine (liteIndex_any _ _).mono ?_; rintro e w' ⟨rfl, rfl⟩)
 go_ret
 exact ⟨rfl, rfl⟩
theorem txt_eq (s : ByteArray) (m : Nat) (a b c : Bool) (ha : s.toList.isEmpty = a) (hb : decide ((s.size : Int) ≤ m) = b) (hc : decide (Lib.indexByte s.data.toList 0 < 0) = c) : txt s.toList m = (!a && b && c) := by
 subst ha hb hc
 unfold txt
 rw [indexByte_neg, ← ByteArray.toList_eq, toList_length]
 congr 1
 congr 1
 ·cases s.toList <;> simp
 ·rw [Bool.eq_iff_iff, decide_eq_true_eq, decide_eq_true_eq]; omega
set_option maxRecDepth 100000 in
theorem isText_any (s : ByteArray) (m : Nat) (w : World) (q : Bool) (hq : txt s.toList m = q) (hm : m ≤ 1000) :
  Calls Try.prog 51 #[.string s, .int .i64 m] w fun e w' => e = .returned (.bool q) ∧ w' = w := by
 obtain ⟨a, ha⟩ : ∃ q, s.toList.isEmpty = q := ⟨_, rfl⟩
 obtain ⟨b, hb⟩ : ∃ q, decide ((s.size : Int) ≤ m) = q := ⟨_, rfl⟩
 obtain ⟨z, hz⟩ : ∃ z, Lib.indexByte s.data.toList 0 = z := ⟨_, rfl⟩
 obtain ⟨c, hc⟩ : ∃ q, decide (z < 0) = q := ⟨_, rfl⟩
 have HE := hide (txt_eq s m a b c ha hb (by rw [hz]; exact hc))
 have HZ := hide hz
 have HQ := hide hq
 clear hz hq
 cases a with
 | true =>
  go_enter Try.func51, Try.ntmps51
  go_wp2
  go_ret
  exact ⟨ret_bool (by rw [← HQ.out, HE.out]; rfl), rfl⟩
 | false =>
 cases b with
 | false =>
  have hb2 : ¬ s.size ≤ m := by have := of_decide_eq_false hb; omega
  go_enter Try.func51, Try.ntmps51
  go_wp2
  go_ret
  exact ⟨ret_bool (by rw [← HQ.out, HE.out]; rfl), rfl⟩
 | true =>
  have hb2 : s.size ≤ m := by have := of_decide_eq_true hb; omega
  go_enter Try.func51, Try.ntmps51
  go_wp2_with (go_at_call 56; refine (indexByte_any _ _ z HZ.out).mono ?_; rintro e w' ⟨rfl, rfl⟩)
  go_ret
  exact ⟨ret_bool (by rw [← HQ.out, HE.out]; simp), rfl⟩
def upB (x m : Int) : Bool := decide (0 ≤ x ∧ x ≤ m)
theorem upTo_any (x m : Int) (w : World) :
  Calls Try.prog 52 #[.int .i64 x, .int .i64 m] w fun e w' => e = .returned (.bool (upB x m)) ∧ w' = w := by
 have HQ := hide (show upB x m = decide (0 ≤ x ∧ x ≤ m) from rfl)
 by_cases h : 0 ≤ x
 ·go_enter Try.func52, Try.ntmps52
  go_wp2
  go_ret
  exact ⟨ret_bool (by rw [HQ.out]; simp [h]), rfl⟩
 ·have h' : x < 0 := by omega
  go_enter Try.func52, Try.ntmps52
  go_wp2
  go_ret
  exact ⟨ret_bool (by rw [HQ.out]; simp; omega), rfl⟩
theorem attrB (n : Nod) : attrOk n = (upB n.mode 511 && upB n.uid 65535 && upB n.gid 65535) := by
 unfold attrOk upB
 rw [Bool.eq_iff_iff]
 simp only [Bool.and_eq_true, decide_eq_true_eq, and_assoc]
set_option maxRecDepth 100000 in
theorem attrMayBe_any (x y z : Int) (w : World) (q : Bool) (hq : (upB x 511 && upB y 65535 && upB z 65535) = q) :
  Calls Try.prog 40 #[.agg #[.int .i64 x, .int .i64 y, .int .i64 z]] w fun e w' => e = .returned (.bool q) ∧ Below w.heap.size w w' := by
 obtain ⟨a, ha⟩ : ∃ q, upB x 511 = q := ⟨_, rfl⟩
 obtain ⟨b, hb⟩ : ∃ q, upB y 65535 = q := ⟨_, rfl⟩
 have HE := hide hq
 have bel : Hid (∀ o, Below w.heap.size w (w.alloc o)) := fun o => (Below.refl _ _).alloc (Nat.le_refl _) _
 clear hq
 cases a with
 | false =>
  go_enter Try.func40, Try.ntmps40
  go_wp2_with (go_at_call 52; refine (upTo_any _ _ _).mono ?_; rintro e w' ⟨rfl, rfl⟩)
  go_ret
  exact ⟨ret_bool (by rw [← HE.out, ha]; rfl), bel.out _⟩
 | true =>
 cases b with
 | false =>
  go_enter Try.func40, Try.ntmps40
  go_wp2_with (go_at_call 52; refine (upTo_any _ _ _).mono ?_; rintro e w' ⟨rfl, rfl⟩)
  go_ret
  exact ⟨ret_bool (by rw [← HE.out, ha, hb]; rfl), bel.out _⟩
 | true =>
  go_enter Try.func40, Try.ntmps40
  go_wp2_with (go_at_call 52; refine (upTo_any _ _ _).mono ?_; rintro e w' ⟨rfl, rfl⟩)
  go_ret
  exact ⟨ret_bool (by rw [← HE.out, ha, hb]; rfl), bel.out _⟩
theorem kind_eq {w : World} {v : Nv} {n : Nod} (h : Rep w v n) (q : Bool) (hq : kdOk n = q) : (if v.kind = 1 then decide ((v.dn : Int) = 0) && v.tg.toList.isEmpty else if v.kind = 2 then decide ((v.dn : Int) ≤ 4096) && v.tg.toList.isEmpty else if v.kind = 3 then decide ((v.dn : Int) = 0) && txt v.tg.toList 200 else false) = q := by
 rw [← hq, kdOk, h.kind, h.tg, h.data.1]
 have e1 : decide ((v.dn : Int) = 0) = decide (v.dn = 0) := by rw [Bool.eq_iff_iff]; simp only [decide_eq_true_eq]; omega
 have e2 : decide ((v.dn : Int) ≤ 4096) = decide (v.dn ≤ 4096) := by rw [Bool.eq_iff_iff]; simp only [decide_eq_true_eq]; omega
 rw [e1, e2]
set_option maxRecDepth 100000 in
theorem kindMayBe_any (v : Nv) (n : Nod) (w : World) (h : Rep w v n) (q : Bool) (hq : kdOk n = q) :
  Calls Try.prog 39 #[.agg v.cells] w fun e w' => e = .returned (.bool q) ∧ Below w.heap.size w w' := by
 have HE := hide (kind_eq h q hq)
 have bel : Hid (∀ o, Below w.heap.size w (w.alloc o)) := fun o => (Below.refl _ _).alloc (Nat.le_refl _) _
 clear h hq
 unfold Nv.cells
 by_cases k1 : v.kind = 1
 ·have k1' : (v.kind == 1) = true := by simpa using k1
  have HK := hide k1
  by_cases hz : v.dn = 0
  ·have hz' : ((v.dn : Int) == 0) = true := by simpa using hz
   have HZ := hide hz
   clear k1 hz
   go_enter Try.func39, Try.ntmps39
   go_wp2
   go_ret
   exact ⟨ret_bool (by rw [← HE.out, if_pos HK.out, HZ.out]; rfl), bel.out _⟩
  ·have hz' : ((v.dn : Int) == 0) = false := by simpa using hz
   have HZ := hide hz
   clear k1 hz
   go_enter Try.func39, Try.ntmps39
   go_wp2
   go_ret
   exact ⟨ret_bool (by rw [← HE.out, if_pos HK.out, decide_eq_false (by have := HZ.out; omega)]; rfl), bel.out _⟩
 ·have k1' : (v.kind == 1) = false := by simpa using k1
  by_cases k2 : v.kind = 2
  ·have k2' : (v.kind == 2) = true := by simpa using k2
   have HK := hide k1
   have HK2 := hide k2
   by_cases hz : v.dn ≤ 4096
   ·have hz' : decide ((v.dn : Int) ≤ 4096) = true := by simp; omega
    have hz2 : (v.dn : Int) ≤ 4096 := by omega
    clear k1 k2
    go_enter Try.func39, Try.ntmps39
    go_wp2
    go_ret
    exact ⟨ret_bool (by rw [← HE.out, if_neg HK.out, if_pos HK2.out, hz']; rfl), bel.out _⟩
   ·have hz' : decide ((v.dn : Int) ≤ 4096) = false := by simp; omega
    have hz2 : ¬ (v.dn : Int) ≤ 4096 := by omega
    clear k1 k2
    go_enter Try.func39, Try.ntmps39
    go_wp2
    go_ret
    exact ⟨ret_bool (by rw [← HE.out, if_neg HK.out, if_pos HK2.out, hz']; rfl), bel.out _⟩
  ·have k2' : (v.kind == 2) = false := by simpa using k2
   by_cases k3 : v.kind = 3
   ·have k3' : (v.kind == 3) = true := by simpa using k3
    have HK := hide k1
    have HK2 := hide k2
    have HK3 := hide k3
    by_cases hz : v.dn = 0
    ·have hz' : ((v.dn : Int) == 0) = true := by simpa using hz
     have HZ := hide hz
     clear k1 k2 k3 hz
     go_enter Try.func39, Try.ntmps39
     go_wp2_with (go_at_call 51; refine (isText_any v.tg 200 _ (txt v.tg.toList 200) rfl (by omega)).mono ?_; rintro e w' ⟨rfl, rfl⟩)
     go_ret
     exact ⟨ret_bool (by rw [← HE.out, if_neg HK.out, if_neg HK2.out, if_pos HK3.out, HZ.out]; rfl), bel.out _⟩
    ·have hz' : ((v.dn : Int) == 0) = false := by simpa using hz
     have HZ := hide hz
     clear k1 k2 k3 hz
     go_enter Try.func39, Try.ntmps39
     go_wp2_with (go_at_call 51; refine (isText_any v.tg 200 _ (txt v.tg.toList 200) rfl (by omega)).mono ?_; rintro e w' ⟨rfl, rfl⟩)
     go_ret
     exact ⟨ret_bool (by rw [← HE.out, if_neg HK.out, if_neg HK2.out, if_pos HK3.out, decide_eq_false (by have := HZ.out; omega)]; rfl), bel.out _⟩
   ·have k3' : (v.kind == 3) = false := by simpa using k3
    have HK := hide k1
    have HK2 := hide k2
    have HK3 := hide k3
    clear k1 k2 k3
    go_enter Try.func39, Try.ntmps39
    go_wp2
    go_ret
    exact ⟨ret_bool (by rw [← HE.out, if_neg HK.out, if_neg HK2.out, if_neg HK3.out]), bel.out _⟩
end Go.Proofs.Ytgnjifdaccphhaa
namespace Go.Proofs.Ytgnjifdaccphhaa
open Go.RowKit Go.Maps
open Nam Tre
open Lz (g)
theorem xs1_step (s : List UInt8) (xs : List (ByteArray × List Int)) (i : Nat) (h : i < xs.length) : xs1 s (xs.drop i) = (Op.bytesLess s (gx xs i).1.toList && txt (gx xs i).1.toList 40 && decide ((gx xs i).2.length ≤ 200) && xs1 (gx xs i).1.toList (xs.drop (i + 1))) := by
 rw [xs_drop xs i h, xs1]
set_option maxRecDepth 100000 in
theorem xattrsMayBe_any (ao : Option Addr) (n c : Nat) (xs : List (ByteArray × List Int)) (w : World) (h : XsR w ao n xs) (hc : n ≤ c) (hcm : c ≤ 9223372036854775807) (q : Bool) (hq : xsOk xs = q) :
  Calls Try.prog 41 #[.slice ao n c] w fun e w' => e = .returned (.bool q) ∧ Below w.heap.size w w' := by
 have HN := hide h.1
 have HX := hide h
 by_cases h8 : n ≤ 8
 ·have HE : Hid (q = xs1 [] (xs.drop 0)) := by
   show _ = _
   rw [← hq, xsOk, decide_eq_true (by have := h.1; omega), Bool.true_and]; rfl
  have h8' : decide ((8 : Int) < n) = false := by simp; omega
  have h8n : ¬ (8 : Int) < n := by omega
  clear hq h
  go_enter Try.func41, Try.ntmps41
  go_wp2
  go_loopw [3, 5, 11] (fun r3 _ r wr => ∃ (i : Nat) (s : ByteArray), r3 = .string s ∧ r = .int .i64 i ∧ i ≤ n ∧ Below w.heap.size w wr ∧ q = xs1 s.toList (xs.drop i)) (fun _ _ r _ => n - (intOf r).toNat)
  case atStart => exact ⟨0, ⟨#[]⟩, rfl, rfl, Nat.zero_le _, Below.refl _ _, by rw [toList_mk [], HE.out]⟩
  case round =>
   obtain ⟨i, s, rfl, rfl, hi0, hbel, hinv⟩ := hrel
   have HI := hide hinv
   have HB := hide hbel
   by_cases hp : i < n
   ·have hd : decide ((i : Int) < n) = true := by simpa using hp
    obtain ⟨ba, oa, rfl, hba, hca⟩ := (HX.out.below hbel).at (by omega)
    obtain ⟨c1, va, vn, vc, c2, b1, _⟩ := hca i hp
    have HS := hide (xs1_step s.toList xs i (by rw [HN.out]; exact hp))
    have HL := hide b1.1
    clear hca b1 hinv hbel
    obtain ⟨q1, hq1⟩ : ∃ q, Op.bytesLess s.toList (gx xs i).1.toList = q := ⟨_, rfl⟩
    obtain ⟨q2, hq2⟩ : ∃ q, txt (gx xs i).1.toList 40 = q := ⟨_, rfl⟩
    have HQ2 := hide hq2
    have bel : Hid (∀ o, Below w.heap.size w (wr.alloc o)) := fun o => HB.out.alloc HB.out.size _
    clear hq2
    cases q1 with
    | false =>
     by_cases he : (gx xs i).1.toList = s.toList
     ·have g1 : Op.bytesLess (gx xs i).1.toList s.toList = false := by rw [he]; exact bless_irrefl _
      have g2 : ((gx xs i).1.toList == s.toList) = true := by simpa using he
      have HQ1 := hide hq1
      clear he hq1
      go_wp2
      go_ret
      exact ⟨ret_bool (by rw [HI.out, HS.out, HQ1.out]; rfl), bel.out _⟩
     ·have g1 : Op.bytesLess (gx xs i).1.toList s.toList = true := by
       rcases bless_total _ _ he with k | k
       ·exact k
       ·rw [k] at hq1; cases hq1
      have HQ1 := hide hq1
      clear he hq1
      go_wp2
      go_ret
      exact ⟨ret_bool (by rw [HI.out, HS.out, HQ1.out]; rfl), bel.out _⟩
    | true =>
    have g1 : Op.bytesLess (gx xs i).1.toList s.toList = false := bless_asymm _ _ hq1
    have g2 : ((gx xs i).1.toList == s.toList) = false := by
     rw [beq_eq_false_iff_ne]; intro he; rw [he, bless_irrefl] at hq1; cases hq1
    have g3 : ¬ (gx xs i).1.toList = s.toList := by simpa using g2
    cases q2 with
    | false =>
     go_wp2_with (go_at_call 51; refine (isText_any (gx xs i).1 40 _ false HQ2.out (by omega)).mono ?_; rintro e w' ⟨rfl, rfl⟩)
     go_ret
     exact ⟨ret_bool (by rw [HI.out, HS.out, hq1, HQ2.out]; rfl), bel.out _⟩
    | true =>
     by_cases hv : vn ≤ 200
     ·have hv1 : decide ((200 : Int) < vn) = false := by simp; omega
      have hv2 : ¬ (200 : Int) < vn := by omega
      go_wp2_with (go_at_call 51; refine (isText_any (gx xs i).1 40 _ true HQ2.out (by omega)).mono ?_; rintro e w' ⟨rfl, rfl⟩)
      refine ⟨⟨i + 1, _, rfl, by go_num, by omega, bel.out _, ?_⟩, by simp [intOf]; omega⟩
      rw [HI.out, HS.out, hq1, HQ2.out, decide_eq_true (by rw [HL.out]; exact hv)]
      rfl
     ·have hv1 : decide ((200 : Int) < vn) = true := by simp; omega
      have hv2 : (200 : Int) < vn := by omega
      go_wp2_with (go_at_call 51; refine (isText_any (gx xs i).1 40 _ true HQ2.out (by omega)).mono ?_; rintro e w' ⟨rfl, rfl⟩)
      go_ret
      exact ⟨ret_bool (by rw [HI.out, HS.out, hq1, HQ2.out, decide_eq_false (by rw [HL.out]; exact hv)]; rfl), bel.out _⟩
   ·have hd : decide ((i : Int) < n) = false := by simpa using hp
    go_wp2
    go_ret
    refine ⟨ret_bool ?_, HB.out⟩
    rw [HI.out, List.drop_eq_nil_of_le (by rw [HN.out]; omega)]; rfl
 ·have h8' : decide ((8 : Int) < n) = true := by simp; omega
  have h8n : (8 : Int) < n := by omega
  have HE : Hid (false = q) := by
   show _ = _
   rw [← hq, xsOk, decide_eq_false (by have := h.1; omega)]; rfl
  clear hq h
  go_enter Try.func41, Try.ntmps41
  go_wp2
  go_ret
  exact ⟨ret_bool HE.out, Below.refl _ _⟩
set_option maxRecDepth 100000 in
theorem mayBe_any (v : Nv) (n : Nod) (w : World) (h : Rep w v n) :
  Calls Try.prog 26 #[.agg v.cells] w fun e w' => e = .returned (.bool (may n)) ∧ Below w.heap.size w w' := by
 obtain ⟨a, ha⟩ : ∃ q, kdOk n = q := ⟨_, rfl⟩
 obtain ⟨b, hb⟩ : ∃ q, (upB v.mode 511 && upB v.uid 65535 && upB v.gid 65535) = q := ⟨_, rfl⟩
 obtain ⟨c, hc⟩ : ∃ q, xsOk n.xs = q := ⟨_, rfl⟩
 have HE : Hid (may n = (a && b && c && !v.op)) := by
  show _ = _
  rw [may, ha, attrB, h.mode, h.uid, h.gid, hb, hc, h.op]
 have HA := hide ha
 have HB := hide hb
 have HC := hide hc
 have HR := hide h
 have x1 := h.xc
 have x2 := h.xcm
 have bel : Hid (∀ o, Below w.heap.size w (w.alloc o)) := fun o => (Below.refl _ _).alloc (Nat.le_refl _) _
 clear ha hb hc h
 have HBX := hide (boxed w v)
 unfold Nv.cells
 cases a with
 | false =>
  go_enter Try.func26, Try.ntmps26
  go_wp2_with (go_at_call 39; refine (kindMayBe_any v n _ (HR.out.below (bel.out _)) false HA.out).mono ?_; rintro e w1 ⟨rfl, hb1⟩)
  go_ret
  exact ⟨ret_bool (by rw [HE.out]; rfl), (bel.out _).trans (hb1.mono (by simp))⟩
 | true =>
  go_enter Try.func26, Try.ntmps26
  go_wp2_with (go_at_call 39; refine (kindMayBe_any v n _ (HR.out.below (bel.out _)) true HA.out).mono ?_)
  rintro e w1 ⟨rfl, hb1⟩
  have B1 := hide (HBX.out.below hb1)
  have e1 := hide ((bel.out _).trans (hb1.mono (by simp)))
  have d3 := B1.out.c3
  have d4 := B1.out.c4
  have d5 := B1.out.c5
  clear hb1
  cases b with
  | false =>
   go_wp2_with (go_at_call 40; refine (attrMayBe_any _ _ _ _ false HB.out).mono ?_; rintro e w2 ⟨rfl, hb2⟩)
   go_ret
   exact ⟨ret_bool (by rw [HE.out]; rfl), e1.out.trans (hb2.mono e1.out.size)⟩
  | true =>
   go_wp2_with (go_at_call 40; refine (attrMayBe_any _ _ _ _ true HB.out).mono ?_)
   rintro e w2 ⟨rfl, hb2⟩
   have B2 := hide (B1.out.below hb2)
   have e2 := hide (e1.out.trans (hb2.mono e1.out.size))
   have d8 := B2.out.c8
   clear hb2 d3 d4 d5
   cases c with
   | false =>
    go_wp2_with (go_at_call 41; refine (xattrsMayBe_any _ _ _ n.xs _ (HR.out.below e2.out).xs x1 x2 false HC.out).mono ?_; rintro e w3 ⟨rfl, hb3⟩)
    go_ret
    exact ⟨ret_bool (by rw [HE.out]; rfl), e2.out.trans (hb3.mono e2.out.size)⟩
   | true =>
    go_wp2_with (go_at_call 41; refine (xattrsMayBe_any _ _ _ n.xs _ (HR.out.below e2.out).xs x1 x2 true HC.out).mono ?_)
    rintro e w3 ⟨rfl, hb3⟩
    have e3 := hide (e2.out.trans (hb3.mono e2.out.size))
    have d9 := (B2.out.below hb3).c9
    clear hb3 d8
    go_wp2
    go_ret
    exact ⟨ret_bool (by rw [HE.out]; rfl), e3.out⟩
end Go.Proofs.Ytgnjifdaccphhaa
namespace Go.Proofs.Ytgnjifdaccphhaa
open Go.RowKit Go.Maps
open Nam Tre
open Lz (g)
theorem nul_step (s : ByteArray) (i : Nat) (h : i < s.size) : (s.toList.drop i).any (· == 0) = (((s[i]'h).toNat : Int) == 0 || (s.toList.drop (i + 1)).any (· == 0)) := by
 have hl : i < s.toList.length := by rw [toList_length]; exact h
 rw [List.drop_eq_getElem_cons hl, List.any_cons]
 congr 1
 have e : s.toList[i] = s[i] := by simp only [ByteArray.toList_eq]; rfl
 rw [e, Bool.eq_iff_iff, beq_iff_eq, beq_iff_eq]
 constructor
 ·intro k; rw [k]; rfl
 ·intro k
  exact UInt8.toNat_inj.1 (by simpa using k)
set_option maxRecDepth 100000 in
theorem nul_any (s : ByteArray) (w : World) (q : Bool) (hq : s.toList.any (· == 0) = q) (hs : s.size ≤ 9223372036854775807) : Calls Try.prog 44 #[.string s] w fun e w' => e = .returned (.bool q) ∧ w' = w := by
 have HS := hide (toList_length s)
 have HQ := hide hq
 clear hq
 go_enter Try.func44, Try.ntmps44
 go_wp2
 go_loopw [3] (fun r wr => ∃ i : Nat, wr = w ∧ r = .int .i64 i ∧ i ≤ s.size ∧ q = (s.toList.drop i).any (· == 0)) (fun r _ => s.size - (intOf r).toNat)
 case atStart => exact ⟨0, rfl, rfl, Nat.zero_le _, HQ.out.symm⟩
 case round =>
  obtain ⟨i, rfl, rfl, hi0, hinv⟩ := hrel
  have HI := hide hinv
  clear hinv
  by_cases hp : i < s.size
  ·have hd : decide ((i : Int) < s.size) = true := by simpa using hp
   have HN := hide (nul_step s i hp)
   by_cases h0 : ((s[i]'hp).toNat : Int) = 0
   ·have h1 : (((s[i]'hp).toNat : Int) == 0) = true := by simpa using h0
    have HH := hide h1
    have h2 : (s[i]'hp).toNat = 0 := by omega
    clear h0
    go_wp2
    go_ret
    exact ⟨ret_bool (by rw [HI.out, HN.out, HH.out]; rfl), rfl⟩
   ·have h1 : (((s[i]'hp).toNat : Int) == 0) = false := by simpa using h0
    have HH := hide h1
    have h2 : ¬ (s[i]'hp).toNat = 0 := by omega
    clear h0
    go_wp2
    refine ⟨⟨i + 1, trivial, by go_num, by omega, ?_⟩, by simp [intOf]; omega⟩
    rw [HI.out, HN.out, HH.out]; rfl
  ·have hd : decide ((i : Int) < s.size) = false := by simpa using hp
   go_wp2
   go_ret
   exact ⟨ret_bool (by rw [HI.out, List.drop_eq_nil_of_le (by rw [HS.out]; omega)]; rfl), rfl⟩
def prev (xs : List (ByteArray × List Int)) : Nat → List UInt8
 | 0 => []
 | i + 1 => (gx xs i).1.toList
theorem txt40 (s : ByteArray) (a b c : Bool) (ha : decide ((s.size : Int) < 1) = a) (hb : decide ((40 : Int) < s.size) = b) (hc : s.toList.any (· == 0) = c) : txt s.toList 40 = (!a && !b && !c) := by
 subst ha hb hc
 unfold txt
 rw [toList_length]
 congr 1
 congr 1
 ·rw [Bool.eq_iff_iff]
  simp only [decide_eq_true_eq, Bool.not_eq_true', decide_eq_false_iff_not]
  constructor
  ·intro h k
   exact h (List.eq_nil_of_length_eq_zero (by rw [toList_length]; omega))
  ·intro h k
   have := toList_length s
   rw [k] at this
   simp at this
   omega
 ·rw [Bool.eq_iff_iff]
  simp only [decide_eq_true_eq, Bool.not_eq_true', decide_eq_false_iff_not]
  omega
set_option maxRecDepth 100000 in
set_option maxHeartbeats 1000000 in
theorem refXattrs_any (ao : Option Addr) (n c : Nat) (xs : List (ByteArray × List Int)) (w : World) (h : XsR w ao n xs) (hc : n ≤ c) (hcm : c ≤ 9223372036854775807) (q : Bool) (hq : xsOk xs = q) :
  Calls Try.prog 45 #[.slice ao n c] w fun e w' => e = .returned (.bool q) ∧ Below w.heap.size w w' := by
 have HN := hide h.1
 have HX := hide h
 have HE : Hid (q = (decide ((n : Int) ≤ 8) && xs1 [] xs)) := by
  show _ = _
  rw [← hq, xsOk, h.1]
  congr 1
  rw [Bool.eq_iff_iff, decide_eq_true_eq, decide_eq_true_eq]; omega
 clear hq h
 go_enter Try.func45, Try.ntmps45
 go_wp2
 go_loopw [3, 4, 5] (fun r _ _ wr => ∃ (i : Nat), r = .int .i64 i ∧ i ≤ n ∧ Below w.heap.size w wr ∧ xs1 [] xs = xs1 (prev xs i) (xs.drop i)) (fun r _ _ _ => n - (intOf r).toNat)
 case atStart => exact ⟨0, rfl, Nat.zero_le _, Below.refl _ _, rfl⟩
 case round =>
  obtain ⟨i, rfl, hi0, hbel, hinv⟩ := hrel
  have HI := hide hinv
  have HB := hide hbel
  by_cases hp : i < n
  ·have hd : decide ((i : Int) < n) = true := by simpa using hp
   obtain ⟨ba, oa, rfl, hba, hca⟩ := (HX.out.below hbel).at (by omega)
   have HCA := hide hca
   obtain ⟨c1, va, vn, vc, c2, b1, _, _, _, hsz⟩ := hca i hp
   have HS := hide (xs1_step (prev xs i) xs i (by rw [HN.out]; exact hp))
   have HL := hide b1.1
   obtain ⟨a1, ha1⟩ : ∃ q, decide (((gx xs i).1.size : Int) < 1) = q := ⟨_, rfl⟩
   obtain ⟨a2, ha2⟩ : ∃ q, decide ((40 : Int) < (gx xs i).1.size) = q := ⟨_, rfl⟩
   obtain ⟨a3, ha3⟩ : ∃ q, (gx xs i).1.toList.any (· == 0) = q := ⟨_, rfl⟩
   obtain ⟨a4, ha4⟩ : ∃ q, decide ((200 : Int) < vn) = q := ⟨_, rfl⟩
   have HT := hide (txt40 (gx xs i).1 a1 a2 a3 ha1 ha2 ha3)
   have HA3 := hide ha3
   have HV : Hid (decide ((gx xs i).2.length ≤ 200) = !a4) := by
    show _ = _
    rw [← ha4, HL.out, Bool.eq_iff_iff]
    simp only [decide_eq_true_eq, Bool.not_eq_true', decide_eq_false_iff_not]
    omega
   have bel : Hid (∀ o k, Below w.heap.size w ((wr.alloc o).drewN k)) := fun o k => (HB.out.alloc HB.out.size _).trans (drewN_below _ _)
   clear hca b1 hinv hbel ha3
   cases a1 with
   | true =>
    have g1 : (gx xs i).1.size < 1 := by have := of_decide_eq_true ha1; omega
    have HEF : Hid (false = q) := by show _ = _; rw [HE.out, HI.out, HS.out, HT.out]; simp
    go_wp2_with (go_at_call 44; refine (nul_any _ _ a3 HA3.out hsz).mono ?_; rintro e w' ⟨rfl, rfl⟩)
    go_quiet (fail)
    go_wp2
    go_ret
    exact ⟨ret_bool HEF.out, bel.out _ _⟩
   | false =>
   have g1 : ¬ (gx xs i).1.size < 1 := by have := of_decide_eq_false ha1; omega
   cases a2 with
   | true =>
    have g2 : (40 : Int) < (gx xs i).1.size := of_decide_eq_true ha2
    have HEF : Hid (false = q) := by show _ = _; rw [HE.out, HI.out, HS.out, HT.out]; simp
    go_wp2_with (go_at_call 44; refine (nul_any _ _ a3 HA3.out hsz).mono ?_; rintro e w' ⟨rfl, rfl⟩)
    go_quiet (fail)
    go_wp2
    go_ret
    exact ⟨ret_bool HEF.out, bel.out _ _⟩
   | false =>
   have g2 : ¬ (40 : Int) < (gx xs i).1.size := of_decide_eq_false ha2
   cases a3 with
   | true =>
    have HEF : Hid (false = q) := by show _ = _; rw [HE.out, HI.out, HS.out, HT.out]; simp
    go_wp2_with (go_at_call 44; refine (nul_any _ _ true HA3.out hsz).mono ?_; rintro e w' ⟨rfl, rfl⟩)
    go_quiet (fail)
    go_wp2
    go_ret
    exact ⟨ret_bool HEF.out, bel.out _ _⟩
   | false =>
   cases a4 with
   | true =>
    have g4 : (200 : Int) < vn := of_decide_eq_true ha4
    have HEF : Hid (false = q) := by show _ = _; rw [HE.out, HI.out, HS.out, HT.out, HV.out]; simp
    go_wp2_with (go_at_call 44; refine (nul_any _ _ false HA3.out hsz).mono ?_; rintro e w' ⟨rfl, rfl⟩)
    go_quiet (fail)
    go_wp2
    go_ret
    exact ⟨ret_bool HEF.out, bel.out _ _⟩
   | false =>
   have g4 : ¬ (200 : Int) < vn := of_decide_eq_false ha4
   cases i with
   | zero =>
    rw [Nat.zero_mul, Nat.add_zero] at c1 c2
    have HL0 : Hid (Op.bytesLess (prev xs 0) (gx xs 0).1.toList = true) := by
     show Op.bytesLess [] _ = true
     have : (gx xs 0).1.toList ≠ [] := fun e => by
      have := toList_length (gx xs 0).1
      rw [e] at this; simp at this; omega
     cases hh : (gx xs 0).1.toList with
     | nil => exact absurd hh this
     | cons a r => simp [Op.bytesLess]
    go_wp2_with (go_at_call 44; refine (nul_any _ _ false HA3.out hsz).mono ?_; rintro e w' ⟨rfl, rfl⟩)
    go_quiet (fail)
    go_wp2
    refine ⟨⟨_ + 1, by go_num, by omega, bel.out _ _, ?_⟩, by simp [intOf]; omega⟩
    rw [HI.out, HS.out, HL0.out, HT.out, HV.out]; rfl
   | succ k =>
    have hz : decide ((0 : Int) < ((k + 1 : Nat) : Int)) = true := by rw [decide_eq_true_eq]; omega
    obtain ⟨p1, _, _, _, _, _⟩ := HCA.out k (by omega)
    have hk1 : (k : Int) < n := by omega
    obtain ⟨q1, hq1⟩ : ∃ q, Op.bytesLess (gx xs k).1.toList (gx xs (k + 1)).1.toList = q := ⟨_, rfl⟩
    have HQ1 : Hid (Op.bytesLess (prev xs (k + 1)) (gx xs (k + 1)).1.toList = q1) := hq1
    cases q1 with
    | true =>
     have f1 : Op.bytesLess (gx xs (k + 1)).1.toList (gx xs k).1.toList = false := bless_asymm _ _ hq1
     have f2 : ((gx xs k).1.toList == (gx xs (k + 1)).1.toList) = false := by
      rw [beq_eq_false_iff_ne]; intro he; rw [he, bless_irrefl] at hq1; cases hq1
     have f3 : ¬ (gx xs k).1.toList = (gx xs (k + 1)).1.toList := by simpa using f2
     go_wp2_with (go_at_call 44; refine (nul_any _ _ false HA3.out hsz).mono ?_; rintro e w' ⟨rfl, rfl⟩)
     go_quiet (fail)
     go_wp2
     refine ⟨⟨_ + 1, by go_num, by omega, bel.out _ _, ?_⟩, by simp [intOf]; omega⟩
     rw [HI.out, HS.out, HQ1.out, HT.out, HV.out]; rfl
    | false =>
     have HEF : Hid (false = q) := by show _ = _; rw [HE.out, HI.out, HS.out, HQ1.out]; simp
     by_cases he : (gx xs k).1.toList = (gx xs (k + 1)).1.toList
     ·have f1 : Op.bytesLess (gx xs (k + 1)).1.toList (gx xs k).1.toList = false := by rw [he]; exact bless_irrefl _
      have f2 : ((gx xs k).1.toList == (gx xs (k + 1)).1.toList) = true := by simpa using he
      clear he
      go_wp2_with (go_at_call 44; refine (nul_any _ _ false HA3.out hsz).mono ?_; rintro e w' ⟨rfl, rfl⟩)
      go_quiet (fail)
      go_wp2
      go_ret
      exact ⟨ret_bool HEF.out, bel.out _ _⟩
     ·have f1 : Op.bytesLess (gx xs (k + 1)).1.toList (gx xs k).1.toList = true := by
       rcases bless_total _ _ he with h | h
       ·rw [h] at hq1; cases hq1
       ·exact h
      clear he
      go_wp2_with (go_at_call 44; refine (nul_any _ _ false HA3.out hsz).mono ?_; rintro e w' ⟨rfl, rfl⟩)
      go_quiet (fail)
      go_wp2
      go_ret
      exact ⟨ret_bool HEF.out, bel.out _ _⟩
  ·have hd : decide ((i : Int) < n) = false := by simpa using hp
   have HEF : Hid (decide ((n : Int) ≤ 8) = q) := by
    show _ = _
    rw [HE.out, HI.out, List.drop_eq_nil_of_le (by rw [HN.out]; omega)]; simp [xs1]
   go_wp2
   go_ret
   exact ⟨ret_bool (by rw [← HEF.out]), HB.out⟩
end Go.Proofs.Ytgnjifdaccphhaa
namespace Go.Proofs.Ytgnjifdaccphhaa
open Go.RowKit Go.Maps
open Nam Tre
open Lz (g)
theorem may_rep {w : World} {v : Nv} {n : Nod} (h : Rep w v n) : may n = ((if v.kind = 1 then decide ((v.dn : Int) = 0) && v.tg.toList.isEmpty else if v.kind = 2 then decide ((v.dn : Int) ≤ 4096) && v.tg.toList.isEmpty else if v.kind = 3 then decide ((v.dn : Int) = 0) && txt v.tg.toList 200 else false) && (upB v.mode 511 && upB v.uid 65535 && upB v.gid 65535) && xsOk n.xs && !v.op) := by
 rw [may, attrB, h.mode, h.uid, h.gid, h.op, kind_eq h _ rfl]
theorem txt200 (s : ByteArray) (hb : (s.size : Int) ≤ 200) (hc : s.toList.any (· == 0) = false) (hn : s.toList.isEmpty = false) : txt s.toList 200 = true := by
 unfold txt
 rw [hc, toList_length, decide_eq_true (by omega : s.size ≤ 200), decide_eq_true (by intro e; rw [e] at hn; simp at hn)]; rfl
theorem txt_long (s : ByteArray) (m : Nat) (hb : m < s.size) : txt s.toList m = false := by
 unfold txt
 rw [toList_length, decide_eq_false (by omega : ¬ s.size ≤ m)]; simp
theorem txt_empty (s : ByteArray) (m : Nat) (hn : s.toList.isEmpty = true) : txt s.toList m = false := by
 unfold txt
 rw [decide_eq_false (by simpa using hn)]; simp
theorem txt_nul (s : ByteArray) (m : Nat) (hn : s.toList.any (· == 0) = true) : txt s.toList m = false := by
 unfold txt
 rw [hn]; simp
theorem upB_low {x m : Int} (h : x < 0) : upB x m = false := decide_eq_false (by omega)
theorem upB_high {x m : Int} (h : m < x) : upB x m = false := decide_eq_false (by omega)
theorem upB_in {x m : Int} (h : 0 ≤ x) (k : x ≤ m) : upB x m = true := decide_eq_true ⟨h, k⟩
set_option maxRecDepth 100000 in
set_option maxHeartbeats 2000000 in
theorem refMay_any (v : Nv) (n : Nod) (w : World) (h : Rep w v n) :
  Calls Try.prog 30 #[.agg v.cells] w fun e w' => e = .returned (.bool (may n)) ∧ Below w.heap.size w w' := by
 have HM := hide (may_rep h)
 have HR := hide h
 have x1 := h.xc
 have x2 := h.xcm
 have x3 := h.tgm
 have bel1 : Hid (∀ o, Below w.heap.size w (w.alloc o)) := fun o => (Below.refl _ _).alloc (Nat.le_refl _) _
 have bel2 : Hid (∀ o p, Below w.heap.size w ((w.alloc o).alloc p)) := fun o p => below_alloc2 w o p
 obtain ⟨bad, hbad⟩ : ∃ q, v.tg.toList.any (· == 0) = q := ⟨_, rfl⟩
 have HBD := hide hbad
 obtain ⟨xo, hxo⟩ : ∃ q, xsOk n.xs = q := ⟨_, rfl⟩
 have HXO := hide hxo
 rw [hxo] at HM
 clear h hbad hxo
 unfold Nv.cells
 by_cases k1 : v.kind < 1
 ·have HEF : Hid (false = may n) := by show _ = _; rw [HM.out, if_neg (by omega), if_neg (by omega), if_neg (by omega)]; rfl
  go_enter Try.func30, Try.ntmps30
  go_wp2
  go_ret
  exact ⟨ret_bool HEF.out, bel1.out _⟩
 by_cases k2 : 3 < v.kind
 ·have HEF : Hid (false = may n) := by show _ = _; rw [HM.out, if_neg (by omega), if_neg (by omega), if_neg (by omega)]; rfl
  go_enter Try.func30, Try.ntmps30
  go_wp2
  go_ret
  exact ⟨ret_bool HEF.out, bel1.out _⟩
 obtain ⟨op, hop⟩ : ∃ q, v.op = q := ⟨_, rfl⟩
 cases op with
 | true =>
  have HEF : Hid (false = may n) := by show _ = _; rw [HM.out, hop]; simp
  go_enter Try.func30, Try.ntmps30
  go_wp2
  go_ret
  exact ⟨ret_bool HEF.out, bel1.out _⟩
 | false =>
 by_cases l_mode : v.mode < 0
 ·have HEF : Hid (false = may n) := by show _ = _; rw [HM.out, upB_low (x := v.mode) l_mode]; simp
  go_enter Try.func30, Try.ntmps30
  go_wp2
  go_ret
  exact ⟨ret_bool HEF.out, bel2.out _ _⟩
 by_cases h_mode : 511 < v.mode
 ·have HEF : Hid (false = may n) := by show _ = _; rw [HM.out, upB_high (x := v.mode) h_mode]; simp
  go_enter Try.func30, Try.ntmps30
  go_wp2
  go_ret
  exact ⟨ret_bool HEF.out, bel2.out _ _⟩
 by_cases l_uid : v.uid < 0
 ·have HEF : Hid (false = may n) := by show _ = _; rw [HM.out, upB_low (x := v.uid) l_uid]; simp
  go_enter Try.func30, Try.ntmps30
  go_wp2
  go_ret
  exact ⟨ret_bool HEF.out, bel2.out _ _⟩
 by_cases h_uid : 65535 < v.uid
 ·have HEF : Hid (false = may n) := by show _ = _; rw [HM.out, upB_high (x := v.uid) h_uid]; simp
  go_enter Try.func30, Try.ntmps30
  go_wp2
  go_ret
  exact ⟨ret_bool HEF.out, bel2.out _ _⟩
 by_cases l_gid : v.gid < 0
 ·have HEF : Hid (false = may n) := by show _ = _; rw [HM.out, upB_low (x := v.gid) l_gid]; simp
  go_enter Try.func30, Try.ntmps30
  go_wp2
  go_ret
  exact ⟨ret_bool HEF.out, bel2.out _ _⟩
 by_cases h_gid : 65535 < v.gid
 ·have HEF : Hid (false = may n) := by show _ = _; rw [HM.out, upB_high (x := v.gid) h_gid]; simp
  go_enter Try.func30, Try.ntmps30
  go_wp2
  go_ret
  exact ⟨ret_bool HEF.out, bel2.out _ _⟩
 have HU : Hid ((upB v.mode 511 && upB v.uid 65535 && upB v.gid 65535) = true) := by
  show _ = _
  rw [upB_in (by omega) (by omega), upB_in (by omega) (by omega), upB_in (by omega) (by omega)]; rfl
 have XC : Hid (∀ wX, Below w.heap.size w wX → Calls Try.prog 45 #[.slice v.xa v.xn v.xc] wX fun e w' => e = .returned (.bool xo) ∧ Below w.heap.size w w') := fun wX hX =>
  (refXattrs_any v.xa v.xn v.xc n.xs wX (HR.out.below hX).xs x1 x2 xo HXO.out).mono fun e w' ⟨he, hb⟩ => ⟨he, hX.trans (hb.mono hX.size)⟩
 by_cases kd1 : v.kind = 1
 ·have kk : v.kind = 1 := by omega
  have HK := hide kk
  have e1 : (v.kind == 1) = true := by rw [kk]; rfl
  have n1 : (v.kind != 1) = false := by rw [kk]; rfl
  have e2 : (v.kind == 2) = false := by rw [kk]; rfl
  have n2 : (v.kind != 2) = true := by rw [kk]; rfl
  have e3 : (v.kind == 3) = false := by rw [kk]; rfl
  have n3 : (v.kind != 3) = true := by rw [kk]; rfl
  clear kk
  by_cases hd : (0 : Int) < v.dn
  ·have HEF : Hid (false = may n) := by show _ = _; rw [HM.out, if_pos HK.out, decide_eq_false (by omega)]; rfl
   go_enter Try.func30, Try.ntmps30
   go_wp2
   go_ret
   exact ⟨ret_bool HEF.out, bel2.out _ _⟩
  have hd2 : ¬ (4096 : Int) < v.dn := by omega
  obtain ⟨em, hem⟩ : ∃ q, v.tg.toList.isEmpty = q := ⟨_, rfl⟩
  cases em with
  | false =>
   have HEF : Hid (false = may n) := by show _ = _; rw [HM.out, if_pos HK.out, hem]; simp
   go_enter Try.func30, Try.ntmps30
   go_wp2_with (go_at_call 44; refine (nul_any _ _ bad HBD.out x3).mono ?_; rintro e w' ⟨rfl, rfl⟩)
   go_ret
   exact ⟨ret_bool HEF.out, bel2.out _ _⟩
  | true =>
   have HEQ : Hid (xo = may n) := by show _ = _; rw [HM.out, if_pos HK.out, hem, HU.out, decide_eq_true (by omega)]; simp [hop]
   go_enter Try.func30, Try.ntmps30
   go_wp2_with (first | (go_at_call 44; refine (nul_any _ _ bad HBD.out x3).mono ?_; rintro e w' ⟨rfl, rfl⟩) | (go_at_call 45; refine (XC.out _ (bel2.out _ _)).mono ?_; rintro e w' ⟨rfl, hb⟩))
   go_ret
   exact ⟨ret_bool HEQ.out, hb⟩
 by_cases kd2 : v.kind = 2
 ·have kk : v.kind = 2 := by omega
  have HK := hide kk
  have e1 : (v.kind == 1) = false := by rw [kk]; rfl
  have n1 : (v.kind != 1) = true := by rw [kk]; rfl
  have e2 : (v.kind == 2) = true := by rw [kk]; rfl
  have n2 : (v.kind != 2) = false := by rw [kk]; rfl
  have e3 : (v.kind == 3) = false := by rw [kk]; rfl
  have n3 : (v.kind != 3) = true := by rw [kk]; rfl
  clear kk
  by_cases hd : (4096 : Int) < v.dn
  ·have HEF : Hid (false = may n) := by show _ = _; rw [HM.out, if_neg (by rw [HK.out]; decide), if_pos HK.out, decide_eq_false (by omega)]; rfl
   go_enter Try.func30, Try.ntmps30
   go_wp2
   go_ret
   exact ⟨ret_bool HEF.out, bel2.out _ _⟩
  obtain ⟨em, hem⟩ : ∃ q, v.tg.toList.isEmpty = q := ⟨_, rfl⟩
  cases em with
  | false =>
   have HEF : Hid (false = may n) := by show _ = _; rw [HM.out, if_neg (by rw [HK.out]; decide), if_pos HK.out, hem]; simp
   go_enter Try.func30, Try.ntmps30
   go_wp2_with (go_at_call 44; refine (nul_any _ _ bad HBD.out x3).mono ?_; rintro e w' ⟨rfl, rfl⟩)
   go_ret
   exact ⟨ret_bool HEF.out, bel2.out _ _⟩
  | true =>
   have HEQ : Hid (xo = may n) := by show _ = _; rw [HM.out, if_neg (by rw [HK.out]; decide), if_pos HK.out, hem, HU.out, decide_eq_true (by omega)]; simp [hop]
   go_enter Try.func30, Try.ntmps30
   go_wp2_with (first | (go_at_call 44; refine (nul_any _ _ bad HBD.out x3).mono ?_; rintro e w' ⟨rfl, rfl⟩) | (go_at_call 45; refine (XC.out _ (bel2.out _ _)).mono ?_; rintro e w' ⟨rfl, hb⟩))
   go_ret
   exact ⟨ret_bool HEQ.out, hb⟩
 ·have kk : v.kind = 3 := by omega
  have HK := hide kk
  have e1 : (v.kind == 1) = false := by rw [kk]; rfl
  have n1 : (v.kind != 1) = true := by rw [kk]; rfl
  have e2 : (v.kind == 2) = false := by rw [kk]; rfl
  have n2 : (v.kind != 2) = true := by rw [kk]; rfl
  have e3 : (v.kind == 3) = true := by rw [kk]; rfl
  have n3 : (v.kind != 3) = false := by rw [kk]; rfl
  clear kk
  by_cases hd : (0 : Int) < v.dn
  ·have HEF : Hid (false = may n) := by show _ = _; rw [HM.out, if_neg (by rw [HK.out]; decide), if_neg (by rw [HK.out]; decide), if_pos HK.out, decide_eq_false (by omega)]; rfl
   go_enter Try.func30, Try.ntmps30
   go_wp2
   go_ret
   exact ⟨ret_bool HEF.out, bel2.out _ _⟩
  have hd2 : ¬ (4096 : Int) < v.dn := by omega
  obtain ⟨em, hem⟩ : ∃ q, v.tg.toList.isEmpty = q := ⟨_, rfl⟩
  cases em with
  | true =>
   have HEF : Hid (false = may n) := by show _ = _; rw [HM.out, if_neg (by rw [HK.out]; decide), if_neg (by rw [HK.out]; decide), if_pos HK.out, txt_empty _ _ hem]; simp
   go_enter Try.func30, Try.ntmps30
   go_wp2_with (go_at_call 44; refine (nul_any _ _ bad HBD.out x3).mono ?_; rintro e w' ⟨rfl, rfl⟩)
   go_ret
   exact ⟨ret_bool HEF.out, bel2.out _ _⟩
  | false =>
  by_cases hl : (200 : Int) < v.tg.size
  ·have HEF : Hid (false = may n) := by show _ = _; rw [HM.out, if_neg (by rw [HK.out]; decide), if_neg (by rw [HK.out]; decide), if_pos HK.out, txt_long _ _ (by omega)]; simp
   go_enter Try.func30, Try.ntmps30
   go_wp2_with (go_at_call 44; refine (nul_any _ _ bad HBD.out x3).mono ?_; rintro e w' ⟨rfl, rfl⟩)
   go_ret
   exact ⟨ret_bool HEF.out, bel2.out _ _⟩
  cases bad with
  | true =>
   have HEF : Hid (false = may n) := by show _ = _; rw [HM.out, if_neg (by rw [HK.out]; decide), if_neg (by rw [HK.out]; decide), if_pos HK.out, txt_nul _ _ HBD.out]; simp
   go_enter Try.func30, Try.ntmps30
   go_wp2_with (go_at_call 44; refine (nul_any _ _ true HBD.out x3).mono ?_; rintro e w' ⟨rfl, rfl⟩)
   go_ret
   exact ⟨ret_bool HEF.out, bel2.out _ _⟩
  | false =>
   have HEQ : Hid (xo = may n) := by show _ = _; rw [HM.out, if_neg (by rw [HK.out]; decide), if_neg (by rw [HK.out]; decide), if_pos HK.out, txt200 _ (by omega) HBD.out hem, HU.out, decide_eq_true (by omega)]; simp [hop]
   go_enter Try.func30, Try.ntmps30
   go_wp2_with (first | (go_at_call 44; refine (nul_any _ _ false HBD.out x3).mono ?_; rintro e w' ⟨rfl, rfl⟩) | (go_at_call 45; refine (XC.out _ (bel2.out _ _)).mono ?_; rintro e w' ⟨rfl, hb⟩))
   go_ret
   exact ⟨ret_bool HEQ.out, hb⟩
end Go.Proofs.Ytgnjifdaccphhaa

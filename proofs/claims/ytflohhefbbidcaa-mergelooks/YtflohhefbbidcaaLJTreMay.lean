import Derived.Test.YtflohhefbbidcaaLJTreAlike
import Derived.Lib.Strings
import Derived.Lib.Slices
import Derived.Lib.Walk
import Derived.Lib.Bytealg
set_option linter.unusedVariables false
namespace Go.Proofs.Ytflohhefbbidcaa
open Go.RowKit Go.Maps
open Nam Tre
open Lz (g)
def upB (x m : Int) : Bool := decide (0 ≤ x ∧ x ≤ m)
theorem attrB (n : Nod) : attrOk n = (upB n.mode 511 && upB n.uid 65535 && upB n.gid 65535) := by
 unfold attrOk upB
 rw [Bool.eq_iff_iff]
 simp only [Bool.and_eq_true, decide_eq_true_eq, and_assoc]
theorem kind_eq {w : World} {v : Nv} {n : Nod} (h : Rep w v n) (q : Bool) (hq : kdOk n = q) : (if v.kind = 1 then decide ((v.dn : Int) = 0) && v.tg.toList.isEmpty else if v.kind = 2 then decide ((v.dn : Int) ≤ 4096) && v.tg.toList.isEmpty else if v.kind = 3 then decide ((v.dn : Int) = 0) && txt v.tg.toList 200 else false) = q := by
 rw [← hq, kdOk, h.kind, h.tg, h.data.1]
 have e1 : decide ((v.dn : Int) = 0) = decide (v.dn = 0) := by rw [Bool.eq_iff_iff]; simp only [decide_eq_true_eq]; omega
 have e2 : decide ((v.dn : Int) ≤ 4096) = decide (v.dn ≤ 4096) := by rw [Bool.eq_iff_iff]; simp only [decide_eq_true_eq]; omega
 rw [e1, e2]
end Go.Proofs.Ytflohhefbbidcaa
namespace Go.Proofs.Ytflohhefbbidcaa
open Go.RowKit Go.Maps
open Nam Tre
open Lz (g)
theorem xs1_step (s : List UInt8) (xs : List (ByteArray × List Int)) (i : Nat) (h : i < xs.length) : xs1 s (xs.drop i) = (Op.bytesLess s (gx xs i).1.toList && txt (gx xs i).1.toList 40 && decide ((gx xs i).2.length ≤ 200) && xs1 (gx xs i).1.toList (xs.drop (i + 1))) := by
 rw [xs_drop xs i h, xs1]
end Go.Proofs.Ytflohhefbbidcaa
namespace Go.Proofs.Ytflohhefbbidcaa
open Go.RowKit Go.Maps
open Nam Tre
open Lz (g)
theorem nul_step (s : ByteArray) (i : Nat) (h : i < s.size) : (s.toList.drop i).any (· == 0) = (((s[i]'h).toNat : Int) == 0 || (s.toList.drop (i + 1)).any (· == 0)) := by
 have hl : i < s.toList.length := by rw [toList_length]; exact h
 rw [List.drop_eq_getElem_cons hl, List.any_cons]
 congr 1
 have e : s.toList[i] = s[i] := by simp only [ByteArray.toList_eq]; rfl
 rw [e, Bool.eq_iff_iff, beq_iff_eq, beq_iff_eq]
 constructor
 ·intro k; rw [k]; rfl
 ·intro k
  exact UInt8.toNat_inj.1 (by simpa using k)
set_option maxRecDepth 100000 in
theorem nul_any (s : ByteArray) (w : World) (q : Bool) (hq : s.toList.any (· == 0) = q) (hs : s.size ≤ 9223372036854775807) : Calls Try.prog 65 #[.string s] w fun e w' => e = .returned (.bool q) ∧ w' = w := by
 have HS := hide (toList_length s)
 have HQ := hide hq
 clear hq
 go_enter Try.func65, Try.ntmps65
 go_wp2
 go_loopw [3] (fun r wr => ∃ i : Nat, wr = w ∧ r = .int .i64 i ∧ i ≤ s.size ∧ q = (s.toList.drop i).any (· == 0)) (fun r _ => s.size - (intOf r).toNat)
 case atStart => exact ⟨0, rfl, rfl, Nat.zero_le _, HQ.out.symm⟩
 case round =>
  obtain ⟨i, rfl, rfl, hi0, hinv⟩ := hrel
  have HI := hide hinv
  clear hinv
  by_cases hp : i < s.size
  ·have hd : decide ((i : Int) < s.size) = true := by simpa using hp
   have HN := hide (nul_step s i hp)
   by_cases h0 : ((s[i]'hp).toNat : Int) = 0
   ·have h1 : (((s[i]'hp).toNat : Int) == 0) = true := by simpa using h0
    have HH := hide h1
    have h2 : (s[i]'hp).toNat = 0 := by omega
    clear h0
    go_wp2
    go_ret
    exact ⟨ret_bool (by rw [HI.out, HN.out, HH.out]; rfl), rfl⟩
   ·have h1 : (((s[i]'hp).toNat : Int) == 0) = false := by simpa using h0
    have HH := hide h1
    have h2 : ¬ (s[i]'hp).toNat = 0 := by omega
    clear h0
    go_wp2
    refine ⟨⟨i + 1, trivial, by go_num, by omega, ?_⟩, by simp [intOf]; omega⟩
    rw [HI.out, HN.out, HH.out]; rfl
  ·have hd : decide ((i : Int) < s.size) = false := by simpa using hp
   go_wp2
   go_ret
   exact ⟨ret_bool (by rw [HI.out, List.drop_eq_nil_of_le (by rw [HS.out]; omega)]; rfl), rfl⟩
def prev (xs : List (ByteArray × List Int)) : Nat → List UInt8
 | 0 => []
 | i + 1 => (gx xs i).1.toList
theorem txt40 (s : ByteArray) (a b c : Bool) (ha : decide ((s.size : Int) < 1) = a) (hb : decide ((40 : Int) < s.size) = b) (hc : s.toList.any (· == 0) = c) : txt s.toList 40 = (!a && !b && !c) := by
 subst ha hb hc
 unfold txt
 rw [toList_length]
 congr 1
 congr 1
 ·rw [Bool.eq_iff_iff]
  simp only [decide_eq_true_eq, Bool.not_eq_true', decide_eq_false_iff_not]
  constructor
  ·intro h k
   exact h (List.eq_nil_of_length_eq_zero (by rw [toList_length]; omega))
  ·intro h k
   have := toList_length s
   rw [k] at this
   simp at this
   omega
 ·rw [Bool.eq_iff_iff]
  simp only [decide_eq_true_eq, Bool.not_eq_true', decide_eq_false_iff_not]
  omega
set_option maxRecDepth 100000 in
set_option maxHeartbeats 1000000 in
theorem refXattrs_any (ao : Option Addr) (n c : Nat) (xs : List (ByteArray × List Int)) (w : World) (h : XsR w ao n xs) (hc : n ≤ c) (hcm : c ≤ 9223372036854775807) (q : Bool) (hq : xsOk xs = q) :
  Calls Try.prog 66 #[.slice ao n c] w fun e w' => e = .returned (.bool q) ∧ Below w.heap.size w w' := by
 have HN := hide h.1
 have HX := hide h
 have HE : Hid (q = (decide ((n : Int) ≤ 8) && xs1 [] xs)) := by
  show _ = _
  rw [← hq, xsOk, h.1]
  congr 1
  rw [Bool.eq_iff_iff, decide_eq_true_eq, decide_eq_true_eq]; omega
 clear hq h
 go_enter Try.func66, Try.ntmps66
 go_wp2
 go_loopw [3, 4, 5] (fun r _ _ wr => ∃ (i : Nat), r = .int .i64 i ∧ i ≤ n ∧ Below w.heap.size w wr ∧ xs1 [] xs = xs1 (prev xs i) (xs.drop i)) (fun r _ _ _ => n - (intOf r).toNat)
 case atStart => exact ⟨0, rfl, Nat.zero_le _, Below.refl _ _, rfl⟩
 case round =>
  obtain ⟨i, rfl, hi0, hbel, hinv⟩ := hrel
  have HI := hide hinv
  have HB := hide hbel
  by_cases hp : i < n
  ·have hd : decide ((i : Int) < n) = true := by simpa using hp
   obtain ⟨ba, oa, rfl, hba, hca⟩ := (HX.out.below hbel).at (by omega)
   have HCA := hide hca
   obtain ⟨c1, va, vn, vc, c2, b1, _, _, _, hsz⟩ := hca i hp
   have HS := hide (xs1_step (prev xs i) xs i (by rw [HN.out]; exact hp))
   have HL := hide b1.1
   obtain ⟨a1, ha1⟩ : ∃ q, decide (((gx xs i).1.size : Int) < 1) = q := ⟨_, rfl⟩
   obtain ⟨a2, ha2⟩ : ∃ q, decide ((40 : Int) < (gx xs i).1.size) = q := ⟨_, rfl⟩
   obtain ⟨a3, ha3⟩ : ∃ q, (gx xs i).1.toList.any (· == 0) = q := ⟨_, rfl⟩
   obtain ⟨a4, ha4⟩ : ∃ q, decide ((200 : Int) < vn) = q := ⟨_, rfl⟩
   have HT := hide (txt40 (gx xs i).1 a1 a2 a3 ha1 ha2 ha3)
   have HA3 := hide ha3
   have HV : Hid (decide ((gx xs i).2.length ≤ 200) = !a4) := by
    show _ = _
    rw [← ha4, HL.out, Bool.eq_iff_iff]
    simp only [decide_eq_true_eq, Bool.not_eq_true', decide_eq_false_iff_not]
    omega
   have bel : Hid (∀ o k, Below w.heap.size w ((wr.alloc o).drewN k)) := fun o k => (HB.out.alloc HB.out.size _).trans (drewN_below _ _)
   clear hca b1 hinv hbel ha3
   cases a1 with
   | true =>
    have g1 : (gx xs i).1.size < 1 := by have := of_decide_eq_true ha1; omega
    have HEF : Hid (false = q) := by show _ = _; rw [HE.out, HI.out, HS.out, HT.out]; simp
    go_wp2_with (go_at_call 65; refine (nul_any _ _ a3 HA3.out hsz).mono ?_; rintro e w' ⟨rfl, rfl⟩)
    go_quiet (fail)
    go_wp2
    go_ret
    exact ⟨ret_bool HEF.out, bel.out _ _⟩
   | false =>
   have g1 : ¬ (gx xs i).1.size < 1 := by have := of_decide_eq_false ha1; omega
   cases a2 with
   | true =>
    have g2 : (40 : Int) < (gx xs i).1.size := of_decide_eq_true ha2
    have HEF : Hid (false = q) := by show _ = _; rw [HE.out, HI.out, HS.out, HT.out]; simp
    go_wp2_with (go_at_call 65; refine (nul_any _ _ a3 HA3.out hsz).mono ?_; rintro e w' ⟨rfl, rfl⟩)
    go_quiet (fail)
    go_wp2
    go_ret
    exact ⟨ret_bool HEF.out, bel.out _ _⟩
   | false =>
   have g2 : ¬ (40 : Int) < (gx xs i).1.size := of_decide_eq_false ha2
   cases a3 with
   | true =>
    have HEF : Hid (false = q) := by show _ = _; rw [HE.out, HI.out, HS.out, HT.out]; simp
    go_wp2_with (go_at_call 65; refine (nul_any _ _ true HA3.out hsz).mono ?_; rintro e w' ⟨rfl, rfl⟩)
    go_quiet (fail)
    go_wp2
    go_ret
    exact ⟨ret_bool HEF.out, bel.out _ _⟩
   | false =>
   cases a4 with
   | true =>
    have g4 : (200 : Int) < vn := of_decide_eq_true ha4
    have HEF : Hid (false = q) := by show _ = _; rw [HE.out, HI.out, HS.out, HT.out, HV.out]; simp
    go_wp2_with (go_at_call 65; refine (nul_any _ _ false HA3.out hsz).mono ?_; rintro e w' ⟨rfl, rfl⟩)
    go_quiet (fail)
    go_wp2
    go_ret
    exact ⟨ret_bool HEF.out, bel.out _ _⟩
   | false =>
   have g4 : ¬ (200 : Int) < vn := of_decide_eq_false ha4
   cases i with
   | zero =>
    rw [Nat.zero_mul, Nat.add_zero] at c1 c2
    have HL0 : Hid (Op.bytesLess (prev xs 0) (gx xs 0).1.toList = true) := by
     show Op.bytesLess [] _ = true
     have : (gx xs 0).1.toList ≠ [] := fun e => by
      have := toList_length (gx xs 0).1
      rw [e] at this; simp at this; omega
     cases hh : (gx xs 0).1.toList with
     | nil => exact absurd hh this
     | cons a r => simp [Op.bytesLess]
    go_wp2_with (go_at_call 65; refine (nul_any _ _ false HA3.out hsz).mono ?_; rintro e w' ⟨rfl, rfl⟩)
    go_quiet (fail)
    go_wp2
    refine ⟨⟨_ + 1, by go_num, by omega, bel.out _ _, ?_⟩, by simp [intOf]; omega⟩
    rw [HI.out, HS.out, HL0.out, HT.out, HV.out]; rfl
   | succ k =>
    have hz : decide ((0 : Int) < ((k + 1 : Nat) : Int)) = true := by rw [decide_eq_true_eq]; omega
    obtain ⟨p1, _, _, _, _, _⟩ := HCA.out k (by omega)
    have hk1 : (k : Int) < n := by omega
    obtain ⟨q1, hq1⟩ : ∃ q, Op.bytesLess (gx xs k).1.toList (gx xs (k + 1)).1.toList = q := ⟨_, rfl⟩
    have HQ1 : Hid (Op.bytesLess (prev xs (k + 1)) (gx xs (k + 1)).1.toList = q1) := hq1
    cases q1 with
    | true =>
     have f1 : Op.bytesLess (gx xs (k + 1)).1.toList (gx xs k).1.toList = false := bless_asymm _ _ hq1
     have f2 : ((gx xs k).1.toList == (gx xs (k + 1)).1.toList) = false := by
      rw [beq_eq_false_iff_ne]; intro he; rw [he, bless_irrefl] at hq1; cases hq1
     have f3 : ¬ (gx xs k).1.toList = (gx xs (k + 1)).1.toList := by simpa using f2
     go_wp2_with (go_at_call 65; refine (nul_any _ _ false HA3.out hsz).mono ?_; rintro e w' ⟨rfl, rfl⟩)
     go_quiet (fail)
     go_wp2
     refine ⟨⟨_ + 1, by go_num, by omega, bel.out _ _, ?_⟩, by simp [intOf]; omega⟩
     rw [HI.out, HS.out, HQ1.out, HT.out, HV.out]; rfl
    | false =>
     have HEF : Hid (false = q) := by show _ = _; rw [HE.out, HI.out, HS.out, HQ1.out]; simp
     by_cases he : (gx xs k).1.toList = (gx xs (k + 1)).1.toList
     ·have f1 : Op.bytesLess (gx xs (k + 1)).1.toList (gx xs k).1.toList = false := by rw [he]; exact bless_irrefl _
      have f2 : ((gx xs k).1.toList == (gx xs (k + 1)).1.toList) = true := by simpa using he
      clear he
      go_wp2_with (go_at_call 65; refine (nul_any _ _ false HA3.out hsz).mono ?_; rintro e w' ⟨rfl, rfl⟩)
      go_quiet (fail)
      go_wp2
      go_ret
      exact ⟨ret_bool HEF.out, bel.out _ _⟩
     ·have f1 : Op.bytesLess (gx xs (k + 1)).1.toList (gx xs k).1.toList = true := by
       rcases bless_total _ _ he with h | h
       ·rw [h] at hq1; cases hq1
       ·exact h
      clear he
      go_wp2_with (go_at_call 65; refine (nul_any _ _ false HA3.out hsz).mono ?_; rintro e w' ⟨rfl, rfl⟩)
      go_quiet (fail)
      go_wp2
      go_ret
      exact ⟨ret_bool HEF.out, bel.out _ _⟩
  ·have hd : decide ((i : Int) < n) = false := by simpa using hp
   have HEF : Hid (decide ((n : Int) ≤ 8) = q) := by
    show _ = _
    rw [HE.out, HI.out, List.drop_eq_nil_of_le (by rw [HN.out]; omega)]; simp [xs1]
   go_wp2
   go_ret
   exact ⟨ret_bool (by rw [← HEF.out]), HB.out⟩
end Go.Proofs.Ytflohhefbbidcaa
namespace Go.Proofs.Ytflohhefbbidcaa
open Go.RowKit Go.Maps
open Nam Tre
open Lz (g)
theorem may_rep {w : World} {v : Nv} {n : Nod} (h : Rep w v n) : may n = ((if v.kind = 1 then decide ((v.dn : Int) = 0) && v.tg.toList.isEmpty else if v.kind = 2 then decide ((v.dn : Int) ≤ 4096) && v.tg.toList.isEmpty else if v.kind = 3 then decide ((v.dn : Int) = 0) && txt v.tg.toList 200 else false) && (upB v.mode 511 && upB v.uid 65535 && upB v.gid 65535) && xsOk n.xs && !v.op) := by
 rw [may, attrB, h.mode, h.uid, h.gid, h.op, kind_eq h _ rfl]
theorem txt200 (s : ByteArray) (hb : (s.size : Int) ≤ 200) (hc : s.toList.any (· == 0) = false) (hn : s.toList.isEmpty = false) : txt s.toList 200 = true := by
 unfold txt
 rw [hc, toList_length, decide_eq_true (by omega : s.size ≤ 200), decide_eq_true (by intro e; rw [e] at hn; simp at hn)]; rfl
theorem txt_long (s : ByteArray) (m : Nat) (hb : m < s.size) : txt s.toList m = false := by
 unfold txt
 rw [toList_length, decide_eq_false (by omega : ¬ s.size ≤ m)]; simp
theorem txt_empty (s : ByteArray) (m : Nat) (hn : s.toList.isEmpty = true) : txt s.toList m = false := by
 unfold txt
 rw [decide_eq_false (by simpa using hn)]; simp
theorem txt_nul (s : ByteArray) (m : Nat) (hn : s.toList.any (· == 0) = true) : txt s.toList m = false := by
 unfold txt
 rw [hn]; simp
theorem upB_low {x m : Int} (h : x < 0) : upB x m = false := decide_eq_false (by omega)
theorem upB_high {x m : Int} (h : m < x) : upB x m = false := decide_eq_false (by omega)
theorem upB_in {x m : Int} (h : 0 ≤ x) (k : x ≤ m) : upB x m = true := decide_eq_true ⟨h, k⟩
set_option maxRecDepth 100000 in
set_option maxHeartbeats 2000000 in
theorem refMay_any (v : Nv) (n : Nod) (w : World) (h : Rep w v n) :
  Calls Try.prog 57 #[.agg v.cells] w fun e w' => e = .returned (.bool (may n)) ∧ Below w.heap.size w w' := by
 have HM := hide (may_rep h)
 have HR := hide h
 have x1 := h.xc
 have x2 := h.xcm
 have x3 := h.tgm
 have bel1 : Hid (∀ o, Below w.heap.size w (w.alloc o)) := fun o => (Below.refl _ _).alloc (Nat.le_refl _) _
 have bel2 : Hid (∀ o p, Below w.heap.size w ((w.alloc o).alloc p)) := fun o p => below_alloc2 w o p
 obtain ⟨bad, hbad⟩ : ∃ q, v.tg.toList.any (· == 0) = q := ⟨_, rfl⟩
 have HBD := hide hbad
 obtain ⟨xo, hxo⟩ : ∃ q, xsOk n.xs = q := ⟨_, rfl⟩
 have HXO := hide hxo
 rw [hxo] at HM
 clear h hbad hxo
 unfold Nv.cells
 by_cases k1 : v.kind < 1
 ·have HEF : Hid (false = may n) := by show _ = _; rw [HM.out, if_neg (by omega), if_neg (by omega), if_neg (by omega)]; rfl
  go_enter Try.func57, Try.ntmps57
  go_wp2
  go_ret
  exact ⟨ret_bool HEF.out, bel1.out _⟩
 by_cases k2 : 3 < v.kind
 ·have HEF : Hid (false = may n) := by show _ = _; rw [HM.out, if_neg (by omega), if_neg (by omega), if_neg (by omega)]; rfl
  go_enter Try.func57, Try.ntmps57
  go_wp2
  go_ret
  exact ⟨ret_bool HEF.out, bel1.out _⟩
 obtain ⟨op, hop⟩ : ∃ q, v.op = q := ⟨_, rfl⟩
 cases op with
 | true =>
  have HEF : Hid (false = may n) := by show _ = _; rw [HM.out, hop]; simp
  go_enter Try.func57, Try.ntmps57
  go_wp2
  go_ret
  exact ⟨ret_bool HEF.out, bel1.out _⟩
 | false =>
 by_cases l_mode : v.mode < 0
 ·have HEF : Hid (false = may n) := by show _ = _; rw [HM.out, upB_low (x := v.mode) l_mode]; simp
  go_enter Try.func57, Try.ntmps57
  go_wp2
  go_ret
  exact ⟨ret_bool HEF.out, bel2.out _ _⟩
 by_cases h_mode : 511 < v.mode
 ·have HEF : Hid (false = may n) := by show _ = _; rw [HM.out, upB_high (x := v.mode) h_mode]; simp
  go_enter Try.func57, Try.ntmps57
  go_wp2
  go_ret
  exact ⟨ret_bool HEF.out, bel2.out _ _⟩
 by_cases l_uid : v.uid < 0
 ·have HEF : Hid (false = may n) := by show _ = _; rw [HM.out, upB_low (x := v.uid) l_uid]; simp
  go_enter Try.func57, Try.ntmps57
  go_wp2
  go_ret
  exact ⟨ret_bool HEF.out, bel2.out _ _⟩
 by_cases h_uid : 65535 < v.uid
 ·have HEF : Hid (false = may n) := by show _ = _; rw [HM.out, upB_high (x := v.uid) h_uid]; simp
  go_enter Try.func57, Try.ntmps57
  go_wp2
  go_ret
  exact ⟨ret_bool HEF.out, bel2.out _ _⟩
 by_cases l_gid : v.gid < 0
 ·have HEF : Hid (false = may n) := by show _ = _; rw [HM.out, upB_low (x := v.gid) l_gid]; simp
  go_enter Try.func57, Try.ntmps57
  go_wp2
  go_ret
  exact ⟨ret_bool HEF.out, bel2.out _ _⟩
 by_cases h_gid : 65535 < v.gid
 ·have HEF : Hid (false = may n) := by show _ = _; rw [HM.out, upB_high (x := v.gid) h_gid]; simp
  go_enter Try.func57, Try.ntmps57
  go_wp2
  go_ret
  exact ⟨ret_bool HEF.out, bel2.out _ _⟩
 have HU : Hid ((upB v.mode 511 && upB v.uid 65535 && upB v.gid 65535) = true) := by
  show _ = _
  rw [upB_in (by omega) (by omega), upB_in (by omega) (by omega), upB_in (by omega) (by omega)]; rfl
 have XC : Hid (∀ wX, Below w.heap.size w wX → Calls Try.prog 66 #[.slice v.xa v.xn v.xc] wX fun e w' => e = .returned (.bool xo) ∧ Below w.heap.size w w') := fun wX hX =>
  (refXattrs_any v.xa v.xn v.xc n.xs wX (HR.out.below hX).xs x1 x2 xo HXO.out).mono fun e w' ⟨he, hb⟩ => ⟨he, hX.trans (hb.mono hX.size)⟩
 by_cases kd1 : v.kind = 1
 ·have kk : v.kind = 1 := by omega
  have HK := hide kk
  have e1 : (v.kind == 1) = true := by rw [kk]; rfl
  have n1 : (v.kind != 1) = false := by rw [kk]; rfl
  have e2 : (v.kind == 2) = false := by rw [kk]; rfl
  have n2 : (v.kind != 2) = true := by rw [kk]; rfl
  have e3 : (v.kind == 3) = false := by rw [kk]; rfl
  have n3 : (v.kind != 3) = true := by rw [kk]; rfl
  clear kk
  by_cases hd : (0 : Int) < v.dn
  ·have HEF : Hid (false = may n) := by show _ = _; rw [HM.out, if_pos HK.out, decide_eq_false (by omega)]; rfl
   go_enter Try.func57, Try.ntmps57
   go_wp2
   go_ret
   exact ⟨ret_bool HEF.out, bel2.out _ _⟩
  have hd2 : ¬ (4096 : Int) < v.dn := by omega
  obtain ⟨em, hem⟩ : ∃ q, v.tg.toList.isEmpty = q := ⟨_, rfl⟩
  cases em with
  | false =>
   have HEF : Hid (false = may n) := by show _ = _; rw [HM.out, if_pos HK.out, hem]; simp
   go_enter Try.func57, Try.ntmps57
   go_wp2_with (go_at_call 65; refine (nul_any _ _ bad HBD.out x3).mono ?_; rintro e w' ⟨rfl, rfl⟩)
   go_ret
   exact ⟨ret_bool HEF.out, bel2.out _ _⟩
  | true =>
   have HEQ : Hid (xo = may n) := by show _ = _; rw [HM.out, if_pos HK.out, hem, HU.out, decide_eq_true (by omega)]; simp [hop]
   go_enter Try.func57, Try.ntmps57
   go_wp2_with (first | (go_at_call 65; refine (nul_any _ _ bad HBD.out x3).mono ?_; rintro e w' ⟨rfl, rfl⟩) | (go_at_call 66; refine (XC.out _ (bel2.out _ _)).mono ?_; rintro e w' ⟨rfl, hb⟩))
   go_ret
   exact ⟨ret_bool HEQ.out, hb⟩
 by_cases kd2 : v.kind = 2
 ·have kk : v.kind = 2 := by omega
  have HK := hide kk
  have e1 : (v.kind == 1) = false := by rw [kk]; rfl
  have n1 : (v.kind != 1) = true := by rw [kk]; rfl
  have e2 : (v.kind == 2) = true := by rw [kk]; rfl
  have n2 : (v.kind != 2) = false := by rw [kk]; rfl
  have e3 : (v.kind == 3) = false := by rw [kk]; rfl
  have n3 : (v.kind != 3) = true := by rw [kk]; rfl
  clear kk
  by_cases hd : (4096 : Int) < v.dn
  ·have HEF : Hid (false = may n) := by show _ = _; rw [HM.out, if_neg (by rw [HK.out]; decide), if_pos HK.out, decide_eq_false (by omega)]; rfl
   go_enter Try.func57, Try.ntmps57
   go_wp2
   go_ret
   exact ⟨ret_bool HEF.out, bel2.out _ _⟩
  obtain ⟨em, hem⟩ : ∃ q, v.tg.toList.isEmpty = q := ⟨_, rfl⟩
  cases em with
  | false =>
   have HEF : Hid (false = may n) := by show _ = _; rw [HM.out, if_neg (by rw [HK.out]; decide), if_pos HK.out, hem]; simp
   go_enter Try.func57, Try.ntmps57
   go_wp2_with (go_at_call 65; refine (nul_any _ _ bad HBD.out x3).mono ?_; rintro e w' ⟨rfl, rfl⟩)
   go_ret
   exact ⟨ret_bool HEF.out, bel2.out _ _⟩
  | true =>
   have HEQ : Hid (xo = may n) := by show _ = _; rw [HM.out, if_neg (by rw [HK.out]; decide), if_pos HK.out, hem, HU.out, decide_eq_true (by omega)]; simp [hop]
   go_enter Try.func57, Try.ntmps57
   go_wp2_with (first | (go_at_call 65; refine (nul_any _ _ bad HBD.out x3).mono ?_; rintro e w' ⟨rfl, rfl⟩) | (go_at_call 66; refine (XC.out _ (bel2.out _ _)).mono ?_; rintro e w' ⟨rfl, hb⟩))
   go_ret
   exact ⟨ret_bool HEQ.out, hb⟩
 ·have kk : v.kind = 3 := by omega
  have HK := hide kk
  have e1 : (v.kind == 1) = false := by rw [kk]; rfl
  have n1 : (v.kind != 1) = true := by rw [kk]; rfl
  have e2 : (v.kind == 2) = false := by rw [kk]; rfl
  have n2 : (v.kind != 2) = true := by rw [kk]; rfl
  have e3 : (v.kind == 3) = true := by rw [kk]; rfl
  have n3 : (v.kind != 3) = false := by rw [kk]; rfl
  clear kk
  by_cases hd : (0 : Int) < v.dn
  ·have HEF : Hid (false = may n) := by show _ = _; rw [HM.out, if_neg (by rw [HK.out]; decide), if_neg (by rw [HK.out]; decide), if_pos HK.out, decide_eq_false (by omega)]; rfl
   go_enter Try.func57, Try.ntmps57
   go_wp2
   go_ret
   exact ⟨ret_bool HEF.out, bel2.out _ _⟩
  have hd2 : ¬ (4096 : Int) < v.dn := by omega
  obtain ⟨em, hem⟩ : ∃ q, v.tg.toList.isEmpty = q := ⟨_, rfl⟩
  cases em with
  | true =>
   have HEF : Hid (false = may n) := by show _ = _; rw [HM.out, if_neg (by rw [HK.out]; decide), if_neg (by rw [HK.out]; decide), if_pos HK.out, txt_empty _ _ hem]; simp
   go_enter Try.func57, Try.ntmps57
   go_wp2_with (go_at_call 65; refine (nul_any _ _ bad HBD.out x3).mono ?_; rintro e w' ⟨rfl, rfl⟩)
   go_ret
   exact ⟨ret_bool HEF.out, bel2.out _ _⟩
  | false =>
  by_cases hl : (200 : Int) < v.tg.size
  ·have HEF : Hid (false = may n) := by show _ = _; rw [HM.out, if_neg (by rw [HK.out]; decide), if_neg (by rw [HK.out]; decide), if_pos HK.out, txt_long _ _ (by omega)]; simp
   go_enter Try.func57, Try.ntmps57
   go_wp2_with (go_at_call 65; refine (nul_any _ _ bad HBD.out x3).mono ?_; rintro e w' ⟨rfl, rfl⟩)
   go_ret
   exact ⟨ret_bool HEF.out, bel2.out _ _⟩
  cases bad with
  | true =>
   have HEF : Hid (false = may n) := by show _ = _; rw [HM.out, if_neg (by rw [HK.out]; decide), if_neg (by rw [HK.out]; decide), if_pos HK.out, txt_nul _ _ HBD.out]; simp
   go_enter Try.func57, Try.ntmps57
   go_wp2_with (go_at_call 65; refine (nul_any _ _ true HBD.out x3).mono ?_; rintro e w' ⟨rfl, rfl⟩)
   go_ret
   exact ⟨ret_bool HEF.out, bel2.out _ _⟩
  | false =>
   have HEQ : Hid (xo = may n) := by show _ = _; rw [HM.out, if_neg (by rw [HK.out]; decide), if_neg (by rw [HK.out]; decide), if_pos HK.out, txt200 _ (by omega) HBD.out hem, HU.out, decide_eq_true (by omega)]; simp [hop]
   go_enter Try.func57, Try.ntmps57
   go_wp2_with (first | (go_at_call 65; refine (nul_any _ _ false HBD.out x3).mono ?_; rintro e w' ⟨rfl, rfl⟩) | (go_at_call 66; refine (XC.out _ (bel2.out _ _)).mono ?_; rintro e w' ⟨rfl, hb⟩))
   go_ret
   exact ⟨ret_bool HEQ.out, hb⟩
end Go.Proofs.Ytflohhefbbidcaa

import Derived.Test.YtbmeapehgajbkaaGreatGJNamRow
import Derived.Laws.StructEq
import Derived.Stop.BytesEq
set_option linter.unusedVariables false
namespace Go.Proofs.YtbmeapehgajbkaaGreat
open Go.RowKit Go.Maps
open Nam Tre
open Lz (g)
theorem bytesEqual_any (a b : Option Addr) (n c m d : Nat) (x y : List Int) (w : World) (hx : Bs w a n x) (hy : Bs w b m y) :
  Calls Tryz.prog 77 #[.slice a n c, .slice b m d] w fun e w' => e = .returned (.bool (decide (x = y))) ∧ w' = w := by
 have s1 := str_any hx c
 have s2 := str_any hy d
 have HE := hide (str_eq hx.bytes hy.bytes)
 clear hx hy
 go_enter Tryz.func77, Tryz.ntmps77
 go_wp2
 go_ret
 exact ⟨ret_bool HE.out, rfl⟩
theorem byt_eq (s t : ByteArray) : (s.toList == t.toList) = decide (s = t) := by
 rw [Bool.eq_iff_iff, beq_iff_eq, decide_eq_true_eq]
 exact ⟨toList_inj, fun h => by rw [h]⟩
set_option maxRecDepth 100000 in
theorem sameXattr_any (s t : ByteArray) (a b : Option Addr) (n c m d : Nat) (x y : List Int) (w : World) (hx : Bs w a n x) (hy : Bs w b m y) :
  Calls Tryz.prog 79 #[.agg #[.string s, .slice a n c], .agg #[.string t, .slice b m d]] w fun e w' => e = .returned (.bool (decide ((s, x) = (t, y)))) ∧ Below w.heap.size w w' := by
 have HX := hide hx
 have HY := hide hy
 clear hx hy
 by_cases h : s = t
 ·subst h
  have h1 : (s.toList == s.toList) = true := by simp
  go_enter Tryz.func79, Tryz.ntmps79
  go_wp2_with (go_at_call 77; refine (bytesEqual_any a b n c m d x y _ ((HX.out.alloc _).alloc _) ((HY.out.alloc _).alloc _)).mono ?_; rintro e w' ⟨rfl, rfl⟩)
  go_ret
  exact ⟨ret_bool (by simp), ((Below.refl _ _).alloc (Nat.le_refl _) _).alloc (by simp) _⟩
 ·have h1 : (s.toList == t.toList) = false := by rw [byt_eq]; simpa using h
  have HE : Hid (false = decide ((s, x) = (t, y))) := by
   show _ = _
   symm; rw [decide_eq_false_iff_not]; intro e; exact h (Prod.mk.inj e).1
  go_enter Tryz.func79, Tryz.ntmps79
  go_wp2_with (go_at_call 77; refine (bytesEqual_any a b n c m d x y _ ((HX.out.alloc _).alloc _) ((HY.out.alloc _).alloc _)).mono ?_; rintro e w' ⟨rfl, rfl⟩)
  go_ret
  exact ⟨ret_bool HE.out, ((Below.refl _ _).alloc (Nat.le_refl _) _).alloc (by simp) _⟩
theorem sameXattr_at (q : Bool) (x y : ByteArray × List Int) (a b : Option Addr) (n c m d : Nat) (w w0 : World) (hq : decide (x = y) = q) (hx : Bs w0 a n x.2) (hy : Bs w0 b m y.2) (h0 : Below w0.heap.size w0 w) :
  Calls Tryz.prog 79 #[.agg #[.string x.1, .slice a n c], .agg #[.string y.1, .slice b m d]] w fun e w' => e = .returned (.bool q) ∧ Below w.heap.size w w' := by
 subst hq
 exact sameXattr_any x.1 y.1 a b n c m d x.2 y.2 w (hx.below h0) (hy.below h0)
theorem below_alloc2 (w : World) (o p : Obj) : Below w.heap.size w ((w.alloc o).alloc p) := ((Below.refl _ _).alloc (Nat.le_refl _) _).alloc (by simp) _
theorem xs_drop (xs : List (ByteArray × List Int)) (i : Nat) (h : i < xs.length) : xs.drop i = gx xs i :: xs.drop (i + 1) := by
 rw [List.drop_eq_getElem_cons h, gx_lt xs i h]
theorem xs_step {l k : List (ByteArray × List Int)} {i : Nat} (h : i < l.length) (h' : i < k.length) : l.drop i = k.drop i ↔ gx l i = gx k i ∧ l.drop (i + 1) = k.drop (i + 1) := by
 rw [xs_drop l i h, xs_drop k i h', List.cons.injEq]
set_option maxRecDepth 100000 in
theorem EqualFunc_any (a b : Option Addr) (n c m d : Nat) (l k : List (ByteArray × List Int)) (w : World) (hl : XsR w a n l) (hk : XsR w b m k) (hc : n ≤ c) (hcm : c ≤ 9223372036854775807) :
  Calls Tryz.prog 78 #[.slice a n c, .slice b m d, .func (.func 79) #[] #[]] w fun e w' => e = .returned (.bool (decide (l = k))) ∧ Below w.heap.size w w' := by
 have HL := hide hl
 have HK := hide hk
 have HLN := hide hl.1
 have HKN := hide hk.1
 clear hl hk
 by_cases hnm : n = m
 ·subst hnm
  go_enter Tryz.func78, Tryz.ntmps78
  go_wp2
  go_loopw [7, 8, 9, 17] (fun _ _ _ r wr => ∃ i : Nat, r = .int .i64 i ∧ i ≤ n ∧ Below w.heap.size w wr ∧ (l = k ↔ l.drop i = k.drop i)) (fun _ _ _ r _ => n - (intOf r).toNat)
  case atStart => exact ⟨0, rfl, Nat.zero_le _, Below.refl _ _, Iff.rfl⟩
  case round =>
   obtain ⟨i, rfl, hi0, hbel, hinv⟩ := hrel
   have HI := hide hinv
   have HB := hide hbel
   by_cases hp : i < n
   ·have hd : decide ((i : Int) < n) = true := by simpa using hp
    obtain ⟨ba, oa, rfl, hba, hca⟩ := (HL.out.below hbel).at (by omega)
    obtain ⟨bb, ob, rfl, hbb, hcb⟩ := (HK.out.below hbel).at (by omega)
    obtain ⟨c1, va, vn, vc, c2, b1, _⟩ := hca i hp
    obtain ⟨c3, ua, un, uc, c4, b2, _⟩ := hcb i hp
    have B1 := hide b1
    have B2 := hide b2
    have ES := hide (xs_step (l := l) (k := k) (i := i) (by rw [HLN.out]; exact hp) (by rw [HKN.out]; exact hp))
    obtain ⟨q, hq⟩ : ∃ q, decide (gx l i = gx k i) = q := ⟨_, rfl⟩
    have HQ := hide hq
    clear hca hcb b1 b2 hinv hbel hq
    go_wp2_with fail
    refine (sameXattr_at q (gx l i) (gx k i) va ua vn vc un uc _ wr HQ.out B1.out B2.out (below_alloc2 wr _ _)).mono ?_
    rintro e w' ⟨rfl, hb⟩
    have HB2 := hide (HB.out.trans ((below_alloc2 wr _ _).mono (HB.out.size) |>.trans (hb.mono (by have := HB.out.size; simp; omega))))
    clear hb
    cases q with
    | false =>
     go_wp2
     go_ret
     refine ⟨ret_bool ?_, HB2.out⟩
     symm
     rw [decide_eq_false_iff_not, HI.out, ES.out]
     intro h
     have := HQ.out
     rw [decide_eq_false_iff_not] at this
     exact this h.1
    | true =>
     go_wp2
     refine ⟨⟨i + 1, by go_num, by omega, HB2.out, ?_⟩, by simp [intOf]; omega⟩
     rw [HI.out, ES.out]
     have : gx l i = gx k i := of_decide_eq_true HQ.out
     simp [this]
   ·have hd : decide ((i : Int) < n) = false := by simpa using hp
    go_wp2
    go_ret
    refine ⟨ret_bool ?_, HB.out⟩
    symm
    rw [decide_eq_true_eq, HI.out, List.drop_eq_nil_of_le (by rw [HLN.out]; omega), List.drop_eq_nil_of_le (by rw [HKN.out]; omega)]
 ·have hnm' : ((n : Int) != m) = true := by simp; omega
  have hne : Hid (false = decide (l = k)) := by
   show _ = _
   symm
   rw [decide_eq_false_iff_not]
   intro h
   have := congrArg List.length h
   rw [HLN.out, HKN.out] at this
   exact hnm this
  go_enter Tryz.func78, Tryz.ntmps78
  go_wp2
  go_ret
  exact ⟨ret_bool hne.out, Below.refl _ _⟩
theorem attrEq (w : World) (x y z x' y' z' : Int) : (binOp .eql 41 (.agg #[.int .i64 x, .int .i64 y, .int .i64 z]) (.agg #[.int .i64 x', .int .i64 y', .int .i64 z'])).run Tryz.prog w = .ok (.bool (decide (x = x' ∧ y = y' ∧ z = z'))) w := by
 have u3 := Tryz.underlying3
 have a3 := Tryz.isAgg3
 have z3 := Tryz.sizeOf3
 have hS : Tryz.prog.underlying 41 = some (.struct (Tryz.prog.fieldsOf 41)) := by kernel_rfl
 have hp : Tryz.prog.stoodInHeld 41 = false := by kernel_rfl
 rw [run_eql_struct, show (10000 : Nat) = 9999 + 1 from rfl, run_equalIn_agg w 9999 41 _ _ hS hp]
 simp only [Program.fieldsOf, Tryz.underlying41]
 go_simp
 by_cases h1 : x = x' <;> by_cases h2 : y = y' <;> by_cases h3 : z = z' <;> simp [h1, h2, h3]
theorem alike_rep {w : World} {v u : Nv} {x y : Nod} (hv : Rep w v x) (hu : Rep w u y) (a b c d e f : Bool) (ha : (v.kind == u.kind) = a) (hb : decide (v.mode = u.mode ∧ v.uid = u.uid ∧ v.gid = u.gid) = b) (hc : (v.tg.toList == u.tg.toList) = c) (hd : (v.op == u.op) = d) (he : decide (x.data = y.data) = e) (hf : decide (x.xs = y.xs) = f) :
  alike x y = (a && b && c && d && e && f) := by
 subst ha hb hc hd he hf
 rw [Bool.eq_iff_iff, alike_iff, hv.kind, hu.kind, hv.mode, hu.mode, hv.uid, hu.uid, hv.gid, hu.gid, hv.tg, hu.tg, hv.op, hu.op, byt_eq]
 simp only [Bool.and_eq_true, decide_eq_true_eq, beq_iff_eq, and_assoc]
theorem bytesEqual_at (q : Bool) (a b : Option Addr) (n c m d : Nat) (x y : List Int) (w w0 : World) (hq : decide (x = y) = q) (hx : Bs w0 a n x) (hy : Bs w0 b m y) (h0 : Below w0.heap.size w0 w) :
  Calls Tryz.prog 77 #[.slice a n c, .slice b m d] w fun e w' => e = .returned (.bool q) ∧ w' = w := by
 subst hq
 exact bytesEqual_any a b n c m d x y w (hx.below h0) (hy.below h0)
theorem EqualFunc_at (q : Bool) (a b : Option Addr) (n c m d : Nat) (l k : List (ByteArray × List Int)) (w w0 : World) (hq : decide (l = k) = q) (hl : XsR w0 a n l) (hk : XsR w0 b m k) (h0 : Below w0.heap.size w0 w) (hc : n ≤ c) (hcm : c ≤ 9223372036854775807) :
  Calls Tryz.prog 78 #[.slice a n c, .slice b m d, .func (.func 79) #[] #[]] w fun e w' => e = .returned (.bool q) ∧ Below w.heap.size w w' := by
 subst hq
 exact EqualFunc_any a b n c m d l k w (hl.below h0) (hk.below h0) hc hcm
set_option maxRecDepth 100000 in
set_option maxHeartbeats 1000000 in
theorem Alike_any (v u : Nv) (x y : Nod) (w : World) (hv : Rep w v x) (hu : Rep w u y) :
  Calls Tryz.prog 50 #[.agg v.cells, .agg u.cells] w fun e w' => e = .returned (.bool (alike x y)) ∧ Below w.heap.size w w' := by
 obtain ⟨a, ha⟩ : ∃ q, (v.kind == u.kind) = q := ⟨_, rfl⟩
 obtain ⟨b, hb⟩ : ∃ q, decide (v.mode = u.mode ∧ v.uid = u.uid ∧ v.gid = u.gid) = q := ⟨_, rfl⟩
 obtain ⟨c, hc⟩ : ∃ q, (v.tg.toList == u.tg.toList) = q := ⟨_, rfl⟩
 obtain ⟨d, hd⟩ : ∃ q, (v.op == u.op) = q := ⟨_, rfl⟩
 obtain ⟨e, he⟩ : ∃ q, decide (x.data = y.data) = q := ⟨_, rfl⟩
 obtain ⟨f, hf⟩ : ∃ q, decide (x.xs = y.xs) = q := ⟨_, rfl⟩
 have HA := hide (alike_rep hv hu a b c d e f ha hb hc hd he hf)
 have hA : ∀ W : World, (binOp .eql 41 (.agg #[.int .i64 v.mode, .int .i64 v.uid, .int .i64 v.gid]) (.agg #[.int .i64 u.mode, .int .i64 u.uid, .int .i64 u.gid])).run Tryz.prog W = .ok (.bool b) W := fun W => by rw [attrEq, hb]
 have HV := hide hv
 have HU := hide hu
 have HE := hide he
 have HF := hide hf
 have x1 := hv.xc
 have x2 := hv.xcm
 clear hv hu he hf hb
 unfold Nv.cells
 cases a with
 | false =>
  go_enter Tryz.func50, Tryz.ntmps50
  go_wp2
  go_ret
  exact ⟨ret_bool (by rw [HA.out]; rfl), below_alloc2 w _ _⟩
 | true =>
 cases b with
 | false =>
  go_enter Tryz.func50, Tryz.ntmps50
  go_wp2
  go_ret
  exact ⟨ret_bool (by rw [HA.out]; rfl), below_alloc2 w _ _⟩
 | true =>
 cases c with
 | false =>
  go_enter Tryz.func50, Tryz.ntmps50
  go_wp2
  go_ret
  exact ⟨ret_bool (by rw [HA.out]; rfl), below_alloc2 w _ _⟩
 | true =>
 cases d with
 | false =>
  go_enter Tryz.func50, Tryz.ntmps50
  go_wp2
  go_ret
  exact ⟨ret_bool (by rw [HA.out]; rfl), below_alloc2 w _ _⟩
 | true =>
 cases e with
 | false =>
  go_enter Tryz.func50, Tryz.ntmps50
  go_wp2_with (go_at_call 77; refine (bytesEqual_at false v.da u.da v.dn v.dc u.dn u.dc x.data y.data _ w HE.out HV.out.data HU.out.data (below_alloc2 w _ _)).mono ?_; rintro e w' ⟨rfl, rfl⟩)
  go_ret
  exact ⟨ret_bool (by rw [HA.out]; rfl), below_alloc2 w _ _⟩
 | true =>
  go_enter Tryz.func50, Tryz.ntmps50
  go_wp2_with (first
   | (go_at_call 77; refine (bytesEqual_at true v.da u.da v.dn v.dc u.dn u.dc x.data y.data _ w HE.out HV.out.data HU.out.data (below_alloc2 w _ _)).mono ?_; rintro e w' ⟨rfl, rfl⟩)
   | (go_at_call 78; refine (EqualFunc_at f v.xa u.xa v.xn v.xc u.xn u.xc x.xs y.xs _ w HF.out HV.out.xs HU.out.xs (below_alloc2 w _ _) x1 x2).mono ?_; rintro e w' ⟨rfl, hb⟩))
  go_ret
  refine ⟨ret_bool (by rw [HA.out]; rfl), (below_alloc2 w _ _).trans (hb.mono (by simp; omega))⟩
end Go.Proofs.YtbmeapehgajbkaaGreat
namespace Go.Proofs.YtbmeapehgajbkaaGreat
open Go.RowKit Go.Maps
open Nam Tre
open Lz (g)
namespace Tre
def fi (p : Nod → Bool) : Nat → List Nod → Int
 | _, [] => -1
 | i, n :: r => if p n = true then i else fi p (i + 1) r
theorem fi_ge (p : Nod → Bool) : ∀ (l : List Nod) (i : Nat), decide (0 ≤ fi p i l) = l.any p
 | [], i => rfl
 | n :: r, i => by
  unfold fi
  rw [List.any_cons]
  cases h : p n with
  | true => simp
  | false => rw [if_neg (by simp), Bool.false_or]; exact fi_ge p r (i + 1)
theorem fv_drop (l : List ByteArray) (i : Nat) (h : i < l.length) : fv (l.drop i) = if valid (gs l i).toList = 0 then fv (l.drop (i + 1)) else valid (gs l i).toList := by
 rw [List.drop_eq_getElem_cons h, gs_lt l i h, fv]
end Tre
def Asks (fn : Nat) (caps : Array Value) (p : Nod → Bool) (L : List (Nv × Nod)) (w : World) : Prop :=
 ∀ q ∈ L, ∀ w1, Below w.heap.size w w1 → Calls Tryz.prog fn (#[.agg q.1.cells] ++ caps) w1 fun e w' => e = .returned (.bool (p q.2)) ∧ Below w1.heap.size w1 w'
set_option maxRecDepth 100000 in
theorem all_any (a : Option Addr) (n c : Nat) (L : List (Nv × Nod)) (fn : Nat) (caps : Array Value) (p : Nod → Bool) (w : World) (hl : Ns w a n L) (hc : n ≤ c) (hcm : c ≤ 9223372036854775807)
  (hen : ∀ (args : Array Value) (w : World), (callFunc fn args).run Tryz.prog w = .ok (.enter fn args) w) (hp : Asks fn caps p L w) :
  Calls Tryz.prog 57 #[.slice a n c, .func (.func fn) #[] caps] w fun e w' => e = .returned (.bool ((nds L).all p)) ∧ Below w.heap.size w w' := by
 have HL := hide hl
 have HLN := hide hl.1
 have HP := hide hp
 clear hl hp
 go_enter Tryz.func57, Tryz.ntmps57
 go_wp2
 go_loopw [6, 9] (fun _ r wr => ∃ i : Nat, r = .int .i64 i ∧ i ≤ n ∧ Below w.heap.size w wr ∧ (nds L).all p = ((nds L).drop i).all p) (fun _ r _ => n - (intOf r).toNat)
 case atStart => exact ⟨0, rfl, Nat.zero_le _, Below.refl _ _, rfl⟩
 case round =>
  obtain ⟨i, rfl, hi0, hbel, hinv⟩ := hrel
  have HI := hide hinv
  have HB := hide hbel
  by_cases hi : i < n
  ·have hd : decide ((i : Int) < n) = true := by simpa using hi
   obtain ⟨ba, oa, rfl, hba, hca⟩ := (HL.out.below hbel).at (by omega)
   obtain ⟨c0, c1, c2, c3, c4, c5, c6, c7, c8, c9⟩ := hca i hi
   have HE := hide (nds_drop L i (by rw [HLN.out]; exact hi))
   obtain ⟨z, hz⟩ : ∃ z, p (gl L i).2 = z := ⟨_, rfl⟩
   have HZ := hide hz
   have HQ := hide (fun w1 hb => HP.out (gl L i) (gl_mem L i (by rw [HLN.out]; exact hi)) w1 hb)
   have bel : Hid (∀ o, Below w.heap.size w (wr.alloc o)) := fun o => HB.out.alloc HB.out.size _
   clear hca hinv hbel hz
   go_wp2_with fail
   refine (HQ.out _ (bel.out _)).mono ?_
   rw [HZ.out]
   rintro e w1 ⟨rfl, hb1⟩
   have e1 := hide ((bel.out _).trans (hb1.mono (bel.out _).size))
   clear hb1
   cases z with
   | false =>
    go_wp2
    go_ret
    exact ⟨ret_bool (by rw [HI.out, HE.out, List.all_cons, HZ.out]; rfl), e1.out⟩
   | true =>
    go_wp2
    refine ⟨⟨i + 1, by go_num, by omega, e1.out, ?_⟩, by simp [intOf]; omega⟩
    rw [HI.out, HE.out, List.all_cons, HZ.out]; rfl
  ·have hd : decide ((i : Int) < n) = false := by simpa using hi
   go_wp2
   go_ret
   refine ⟨ret_bool ?_, HB.out⟩
   rw [HI.out, List.drop_eq_nil_of_le (by rw [nds_length, HLN.out]; omega)]; rfl
set_option maxRecDepth 100000 in
theorem IndexFunc_any (a : Option Addr) (n c : Nat) (L : List (Nv × Nod)) (fn : Nat) (caps : Array Value) (p : Nod → Bool) (w : World) (hl : Ns w a n L) (hc : n ≤ c) (hcm : c ≤ 9223372036854775807)
  (hen : ∀ (args : Array Value) (w : World), (callFunc fn args).run Tryz.prog w = .ok (.enter fn args) w) (hp : Asks fn caps p L w) :
  Calls Tryz.prog 80 #[.slice a n c, .func (.func fn) #[] caps] w fun e w' => e = .returned (.int .i64 (fi p 0 (nds L))) ∧ Below w.heap.size w w' := by
 have HL := hide hl
 have HLN := hide hl.1
 have HP := hide hp
 clear hl hp
 go_enter Tryz.func80, Tryz.ntmps80
 go_wp2
 go_loopw [5, 8] (fun _ r wr => ∃ i : Nat, r = .int .i64 i ∧ i ≤ n ∧ Below w.heap.size w wr ∧ fi p 0 (nds L) = fi p i ((nds L).drop i)) (fun _ r _ => n - (intOf r).toNat)
 case atStart => exact ⟨0, rfl, Nat.zero_le _, Below.refl _ _, rfl⟩
 case round =>
  obtain ⟨i, rfl, hi0, hbel, hinv⟩ := hrel
  have HI := hide hinv
  have HB := hide hbel
  by_cases hi : i < n
  ·have hd : decide ((i : Int) < n) = true := by simpa using hi
   obtain ⟨ba, oa, rfl, hba, hca⟩ := (HL.out.below hbel).at (by omega)
   obtain ⟨c0, c1, c2, c3, c4, c5, c6, c7, c8, c9⟩ := hca i hi
   have HE := hide (nds_drop L i (by rw [HLN.out]; exact hi))
   obtain ⟨z, hz⟩ : ∃ z, p (gl L i).2 = z := ⟨_, rfl⟩
   have HZ := hide hz
   have HQ := hide (fun w1 hb => HP.out (gl L i) (gl_mem L i (by rw [HLN.out]; exact hi)) w1 hb)
   clear hca hinv hbel hz
   go_wp2_with fail
   refine (HQ.out _ HB.out).mono ?_
   rw [HZ.out]
   rintro e w1 ⟨rfl, hb1⟩
   have e1 := hide (HB.out.trans (hb1.mono HB.out.size))
   clear hb1
   cases z with
   | true =>
    go_wp2
    go_ret
    exact ⟨ret_int (by rw [HI.out, HE.out, fi, HZ.out]; rfl), e1.out⟩
   | false =>
    go_wp2
    refine ⟨⟨i + 1, by go_num, by omega, e1.out, ?_⟩, by simp [intOf]; omega⟩
    rw [HI.out, HE.out, fi, HZ.out]; rfl
  ·have hd : decide ((i : Int) < n) = false := by simpa using hi
   go_wp2
   go_ret
   refine ⟨ret_int ?_, HB.out⟩
   rw [HI.out, List.drop_eq_nil_of_le (by rw [nds_length, HLN.out]; omega)]; rfl
theorem ContainsFunc_any (a : Option Addr) (n c : Nat) (L : List (Nv × Nod)) (fn : Nat) (caps : Array Value) (p : Nod → Bool) (w : World) (hl : Ns w a n L) (hc : n ≤ c) (hcm : c ≤ 9223372036854775807)
  (hen : ∀ (args : Array Value) (w : World), (callFunc fn args).run Tryz.prog w = .ok (.enter fn args) w) (hp : Asks fn caps p L w) :
  Calls Tryz.prog 52 #[.slice a n c, .func (.func fn) #[] caps] w fun e w' => e = .returned (.bool ((nds L).any p)) ∧ Below w.heap.size w w' := by
 have H := hide (IndexFunc_any a n c L fn caps p w hl hc hcm hen hp)
 have HE := hide (fi_ge p (nds L) 0)
 clear hl hp
 go_enter Tryz.func52, Tryz.ntmps52
 go_wp2_with (go_at_call 80; refine H.out.mono ?_; rintro e w' ⟨rfl, hb⟩)
 go_ret
 exact ⟨ret_bool HE.out, hb⟩
theorem isDeep_any (v : Nv) (n : Nod) (w : World) (h : Rep w v n) : Calls Tryz.prog 53 #[.agg v.cells] w fun e w' => e = .returned (.bool (deep n)) ∧ Below w.heap.size w w' := by
 have HE : Hid (decide ((16 : Int) < v.nn) = deep n) := by
  show _ = _
  rw [deep, h.names.1, Bool.eq_iff_iff, decide_eq_true_eq, decide_eq_true_eq]; omega
 clear h
 unfold Nv.cells
 go_enter Tryz.func53, Tryz.ntmps53
 go_wp2
 go_ret
 exact ⟨ret_bool (by rw [← HE.out]), (Below.refl _ _).alloc (Nat.le_refl _) _⟩
set_option maxRecDepth 100000 in
theorem wrongName_any (a : Option Addr) (n c : Nat) (L : List (Nv × Nod)) (w : World) (hl : Ns w a n L) (hc : n ≤ c) (hcm : c ≤ 9223372036854775807) :
  Calls Tryz.prog 51 #[.slice a n c] w fun e w' => e = .returned (.int .i64 (wrong (nds L))) ∧ Below w.heap.size w w' := by
 have HL := hide hl
 have HLN := hide hl.1
 clear hl
 go_enter Tryz.func51, Tryz.ntmps51
 go_wp2
 go_loopw [4, 6, 7, 10, 15, 16, 17] (fun _ _ _ r _ _ _ wr => ∃ i : Nat, r = .int .i64 i ∧ i ≤ n ∧ Below w.heap.size w wr ∧ wrong (nds L) = wrong ((nds L).drop i)) (fun _ _ _ r _ _ _ _ => n - (intOf r).toNat)
 case atStart => exact ⟨0, rfl, Nat.zero_le _, Below.refl _ _, rfl⟩
 case round =>
  obtain ⟨i, rfl, hi0, hbel, hinv⟩ := hrel
  have HI := hide hinv
  have HB := hide hbel
  by_cases hi : i < n
  ·have hd : decide ((i : Int) < n) = true := by simpa using hi
   obtain ⟨ba, oa, rfl, hba, hca⟩ := (HL.out.below hbel).at (by omega)
   obtain ⟨c0, c1, c2, c3, c4, c5, c6, c7, c8, c9⟩ := hca i hi
   have HE := hide (nds_drop L i (by rw [HLN.out]; exact hi))
   have hr := HL.out.rep i hi
   obtain ⟨na, nn, nc, c0', hN, n1, n2⟩ : ∃ na nn nc, wr.cell? ⟨ba, oa + i * 10, none⟩ = some (.slice na nn nc) ∧ Rs w na nn (gl L i).2.names ∧ nn ≤ nc ∧ nc ≤ 9223372036854775807 := ⟨_, _, _, c0, hr.names, hr.nc, hr.ncm⟩
   have HN := hide hN
   have HNN := hide hN.1
   have bel : Hid (∀ o, Below w.heap.size w (wr.alloc o)) := fun o => HB.out.alloc HB.out.size _
   clear hca hinv hbel hr c0 hN
   go_wp2
   go_loopw [6, 7, 17] (fun _ _ r ws => ∃ k : Nat, r = .int .i64 k ∧ k ≤ nn ∧ Below w.heap.size w ws ∧ fv (gl L i).2.names = fv ((gl L i).2.names.drop k)) (fun _ _ r _ => nn - (intOf r).toNat)
   case atStart => exact ⟨0, rfl, Nat.zero_le _, bel.out _, rfl⟩
   case round =>
    obtain ⟨k, rfl, hk0, hbel2, hinv2⟩ := hrel
    have HI2 := hide hinv2
    have HB2 := hide hbel2
    by_cases hk : k < nn
    ·have hd2 : decide ((k : Int) < nn) = true := by simpa using hk
     obtain ⟨bb, ob, rfl, hbb, hcb⟩ := (HN.out.below hbel2).at (by omega)
     have d1 := hcb k hk
     have HE2 := hide (fv_drop (gl L i).2.names k (by rw [HNN.out]; exact hk))
     obtain ⟨z, hz⟩ : ∃ z, valid (gs (gl L i).2.names k).toList = z := ⟨_, rfl⟩
     have HZ := hide hz
     clear hcb hinv2 hbel2 hz
     go_wp2_with (go_at_call 74; refine (Valid_any _ _).mono ?_)
     rw [HZ.out]
     rintro e w2 ⟨rfl, hb2⟩
     have e2 := hide (HB2.out.trans (hb2.mono HB2.out.size))
     clear hb2
     by_cases hzz : z = 0
     ·have hz1 : (z != 0) = false := by simp [hzz]
      have HZZ := hide hzz
      clear hzz
      go_wp2
      refine ⟨⟨k + 1, by go_num, by omega, e2.out, ?_⟩, by simp [intOf]; omega⟩
      rw [HI2.out, HE2.out, HZ.out, if_pos HZZ.out]
     ·have hz1 : (z != 0) = true := by simpa using hzz
      have HZZ := hide hzz
      clear hzz
      go_wp2
      go_ret
      refine ⟨ret_int ?_, e2.out⟩
      have hfv : fv (gl L i).2.names = z := by rw [HI2.out, HE2.out, HZ.out, if_neg HZZ.out]
      rw [HI.out, HE.out, wrong, hfv, if_neg HZZ.out]
    ·have hd2 : decide ((k : Int) < nn) = false := by simpa using hk
     go_wp2
     refine ⟨⟨i + 1, by go_num, by omega, HB2.out, ?_⟩, by simp [intOf]; omega⟩
     have hfv : fv (gl L i).2.names = 0 := by rw [HI2.out, List.drop_eq_nil_of_le (by rw [HNN.out]; omega)]; rfl
     rw [HI.out, HE.out, wrong, if_pos hfv]
  ·have hd : decide ((i : Int) < n) = false := by simpa using hi
   go_wp2
   go_ret
   refine ⟨ret_int ?_, HB.out⟩
   rw [HI.out, List.drop_eq_nil_of_le (by rw [nds_length, HLN.out]; omega)]; rfl
end Go.Proofs.YtbmeapehgajbkaaGreat

import Derived.Test.YtoohanojfoichaaGreatDoorOJNamRow
import Derived.Laws.StructEq
import Derived.Stop.BytesEq
import Derived.BigRegion
import Derived.BigQuiet
set_option linter.unusedVariables false
namespace Go.Proofs.YtoohanojfoichaaGreatDoor
open Go.RowKit Go.Maps
open Nam Tre
open Lz (g)
theorem bytesEqual_any (a b : Option Addr) (n c m d : Nat) (x y : List Int) (w : World) (hx : Bs w a n x) (hy : Bs w b m y) :
  Calls Tryz.prog 161 #[.slice a n c, .slice b m d] w fun e w' => e = .returned (.bool (decide (x = y))) ∧ w' = w := by
 have s1 := str_any hx c
 have s2 := str_any hy d
 have HE := hide (str_eq hx.bytes hy.bytes)
 clear hx hy
 go_enter Tryz.func161, Tryz.ntmps161
 go_wp2
 go_ret
 exact ⟨ret_bool HE.out, rfl⟩
theorem byt_eq (s t : ByteArray) : (s.toList == t.toList) = decide (s = t) := by
 rw [Bool.eq_iff_iff, beq_iff_eq, decide_eq_true_eq]
 exact ⟨toList_inj, fun h => by rw [h]⟩
set_option maxRecDepth 100000 in
theorem sameXattr_any (s t : ByteArray) (a b : Option Addr) (n c m d : Nat) (x y : List Int) (w : World) (hx : Bs w a n x) (hy : Bs w b m y) :
  Calls Tryz.prog 163 #[.agg #[.string s, .slice a n c], .agg #[.string t, .slice b m d]] w fun e w' => e = .returned (.bool (decide ((s, x) = (t, y)))) ∧ Below w.heap.size w w' := by
 have HX := hide hx
 have HY := hide hy
 clear hx hy
 by_cases h : s = t
 ·subst h
  have h1 : (s.toList == s.toList) = true := by simp
  go_enter Tryz.func163, Tryz.ntmps163
  go_wp2_with (go_at_call 161; refine (bytesEqual_any a b n c m d x y _ ((HX.out.alloc _).alloc _) ((HY.out.alloc _).alloc _)).mono ?_; rintro e w' ⟨rfl, rfl⟩)
  go_ret
  exact ⟨ret_bool (by simp), ((Below.refl _ _).alloc (Nat.le_refl _) _).alloc (by simp) _⟩
 ·have h1 : (s.toList == t.toList) = false := by rw [byt_eq]; simpa using h
  have HE : Hid (false = decide ((s, x) = (t, y))) := by
   show _ = _
   symm; rw [decide_eq_false_iff_not]; intro e; exact h (Prod.mk.inj e).1
  go_enter Tryz.func163, Tryz.ntmps163
  go_wp2_with (go_at_call 161; refine (bytesEqual_any a b n c m d x y _ ((HX.out.alloc _).alloc _) ((HY.out.alloc _).alloc _)).mono ?_; rintro e w' ⟨rfl, rfl⟩)
  go_ret
  exact ⟨ret_bool HE.out, ((Below.refl _ _).alloc (Nat.le_refl _) _).alloc (by simp) _⟩
theorem sameXattr_at (q : Bool) (x y : ByteArray × List Int) (a b : Option Addr) (n c m d : Nat) (w w0 : World) (hq : decide (x = y) = q) (hx : Bs w0 a n x.2) (hy : Bs w0 b m y.2) (h0 : Below w0.heap.size w0 w) :
  Calls Tryz.prog 163 #[.agg #[.string x.1, .slice a n c], .agg #[.string y.1, .slice b m d]] w fun e w' => e = .returned (.bool q) ∧ Below w.heap.size w w' := by
 subst hq
 exact sameXattr_any x.1 y.1 a b n c m d x.2 y.2 w (hx.below h0) (hy.below h0)
theorem below_alloc2 (w : World) (o p : Obj) : Below w.heap.size w ((w.alloc o).alloc p) := ((Below.refl _ _).alloc (Nat.le_refl _) _).alloc (by simp) _
theorem xs_drop (xs : List (ByteArray × List Int)) (i : Nat) (h : i < xs.length) : xs.drop i = gx xs i :: xs.drop (i + 1) := by
 rw [List.drop_eq_getElem_cons h, gx_lt xs i h]
theorem xs_step {l k : List (ByteArray × List Int)} {i : Nat} (h : i < l.length) (h' : i < k.length) : l.drop i = k.drop i ↔ gx l i = gx k i ∧ l.drop (i + 1) = k.drop (i + 1) := by
 rw [xs_drop l i h, xs_drop k i h', List.cons.injEq]
set_option maxRecDepth 100000 in
theorem EqualFunc_any (a b : Option Addr) (n c m d : Nat) (l k : List (ByteArray × List Int)) (w : World) (hl : XsR w a n l) (hk : XsR w b m k) (hc : n ≤ c) (hcm : c ≤ 9223372036854775807) :
  Calls Tryz.prog 162 #[.slice a n c, .slice b m d, .func (.func 163) #[] #[]] w fun e w' => e = .returned (.bool (decide (l = k))) ∧ Below w.heap.size w w' := by
 have HL := hide hl
 have HK := hide hk
 have HLN := hide hl.1
 have HKN := hide hk.1
 clear hl hk
 by_cases hnm : n = m
 ·subst hnm
  go_enter Tryz.func162, Tryz.ntmps162
  go_wp2
  go_loopw [7, 8, 9, 17] (fun _ _ _ r wr => ∃ i : Nat, r = .int .i64 i ∧ i ≤ n ∧ Below w.heap.size w wr ∧ (l = k ↔ l.drop i = k.drop i)) (fun _ _ _ r _ => n - (intOf r).toNat)
  case atStart => exact ⟨0, rfl, Nat.zero_le _, Below.refl _ _, Iff.rfl⟩
  case round =>
   obtain ⟨i, rfl, hi0, hbel, hinv⟩ := hrel
   have HI := hide hinv
   have HB := hide hbel
   by_cases hp : i < n
   ·have hd : decide ((i : Int) < n) = true := by simpa using hp
    obtain ⟨ba, oa, rfl, hba, hca⟩ := (HL.out.below hbel).at (by omega)
    obtain ⟨bb, ob, rfl, hbb, hcb⟩ := (HK.out.below hbel).at (by omega)
    obtain ⟨c1, va, vn, vc, c2, b1, _⟩ := hca i hp
    obtain ⟨c3, ua, un, uc, c4, b2, _⟩ := hcb i hp
    have B1 := hide b1
    have B2 := hide b2
    have ES := hide (xs_step (l := l) (k := k) (i := i) (by rw [HLN.out]; exact hp) (by rw [HKN.out]; exact hp))
    obtain ⟨q, hq⟩ : ∃ q, decide (gx l i = gx k i) = q := ⟨_, rfl⟩
    have HQ := hide hq
    clear hca hcb b1 b2 hinv hbel hq
    go_wp2_with fail
    refine (sameXattr_at q (gx l i) (gx k i) va ua vn vc un uc _ wr HQ.out B1.out B2.out (below_alloc2 wr _ _)).mono ?_
    rintro e w' ⟨rfl, hb⟩
    have HB2 := hide (HB.out.trans ((below_alloc2 wr _ _).mono (HB.out.size) |>.trans (hb.mono (by have := HB.out.size; simp; omega))))
    clear hb
    cases q with
    | false =>
     go_wp2
     go_ret
     refine ⟨ret_bool ?_, HB2.out⟩
     symm
     rw [decide_eq_false_iff_not, HI.out, ES.out]
     intro h
     have := HQ.out
     rw [decide_eq_false_iff_not] at this
     exact this h.1
    | true =>
     go_wp2
     refine ⟨⟨i + 1, by go_num, by omega, HB2.out, ?_⟩, by simp [intOf]; omega⟩
     rw [HI.out, ES.out]
     have : gx l i = gx k i := of_decide_eq_true HQ.out
     simp [this]
   ·have hd : decide ((i : Int) < n) = false := by simpa using hp
    go_wp2
    go_ret
    refine ⟨ret_bool ?_, HB.out⟩
    symm
    rw [decide_eq_true_eq, HI.out, List.drop_eq_nil_of_le (by rw [HLN.out]; omega), List.drop_eq_nil_of_le (by rw [HKN.out]; omega)]
 ·have hnm' : ((n : Int) != m) = true := by simp; omega
  have hne : Hid (false = decide (l = k)) := by
   show _ = _
   symm
   rw [decide_eq_false_iff_not]
   intro h
   have := congrArg List.length h
   rw [HLN.out, HKN.out] at this
   exact hnm this
  go_enter Tryz.func162, Tryz.ntmps162
  go_wp2
  go_ret
  exact ⟨ret_bool hne.out, Below.refl _ _⟩
theorem attrEq (w : World) (x y z x' y' z' : Int) : (binOp .eql 45 (.agg #[.int .i64 x, .int .i64 y, .int .i64 z]) (.agg #[.int .i64 x', .int .i64 y', .int .i64 z'])).run Tryz.prog w = .ok (.bool (decide (x = x' ∧ y = y' ∧ z = z'))) w := by
 have u3 := Tryz.underlying3
 have a3 := Tryz.isAgg3
 have z3 := Tryz.sizeOf3
 have hS : Tryz.prog.underlying 45 = some (.struct (Tryz.prog.fieldsOf 45)) := by kernel_rfl
 have hp : Tryz.prog.stoodInHeld 45 = false := by kernel_rfl
 rw [run_eql_struct, show (10000 : Nat) = 9999 + 1 from rfl, run_equalIn_agg w 9999 45 _ _ hS hp]
 simp only [Program.fieldsOf, Tryz.underlying45]
 go_simp
 by_cases h1 : x = x' <;> by_cases h2 : y = y' <;> by_cases h3 : z = z' <;> simp [h1, h2, h3]
theorem alike_rep {w : World} {v u : Nv} {x y : Nod} (hv : Rep w v x) (hu : Rep w u y) (a b c d e f : Bool) (ha : (v.kind == u.kind) = a) (hb : decide (v.mode = u.mode ∧ v.uid = u.uid ∧ v.gid = u.gid) = b) (hc : (v.tg.toList == u.tg.toList) = c) (hd : (v.op == u.op) = d) (he : decide (x.data = y.data) = e) (hf : decide (x.xs = y.xs) = f) :
  alike x y = (a && b && c && d && e && f) := by
 subst ha hb hc hd he hf
 rw [Bool.eq_iff_iff, alike_iff, hv.kind, hu.kind, hv.mode, hu.mode, hv.uid, hu.uid, hv.gid, hu.gid, hv.tg, hu.tg, hv.op, hu.op, byt_eq]
 simp only [Bool.and_eq_true, decide_eq_true_eq, beq_iff_eq, and_assoc]
theorem bytesEqual_at (q : Bool) (a b : Option Addr) (n c m d : Nat) (x y : List Int) (w w0 : World) (hq : decide (x = y) = q) (hx : Bs w0 a n x) (hy : Bs w0 b m y) (h0 : Below w0.heap.size w0 w) :
  Calls Tryz.prog 161 #[.slice a n c, .slice b m d] w fun e w' => e = .returned (.bool q) ∧ w' = w := by
 subst hq
 exact bytesEqual_any a b n c m d x y w (hx.below h0) (hy.below h0)
theorem EqualFunc_at (q : Bool) (a b : Option Addr) (n c m d : Nat) (l k : List (ByteArray × List Int)) (w w0 : World) (hq : decide (l = k) = q) (hl : XsR w0 a n l) (hk : XsR w0 b m k) (h0 : Below w0.heap.size w0 w) (hc : n ≤ c) (hcm : c ≤ 9223372036854775807) :
  Calls Tryz.prog 162 #[.slice a n c, .slice b m d, .func (.func 163) #[] #[]] w fun e w' => e = .returned (.bool q) ∧ Below w.heap.size w w' := by
 subst hq
 exact EqualFunc_any a b n c m d l k w (hl.below h0) (hk.below h0) hc hcm
set_option maxRecDepth 100000 in
set_option maxHeartbeats 1000000 in
theorem Alike_any (v u : Nv) (x y : Nod) (w : World) (hv : Rep w v x) (hu : Rep w u y) :
  Calls Tryz.prog 115 #[.agg v.cells, .agg u.cells] w fun e w' => e = .returned (.bool (alike x y)) ∧ Below w.heap.size w w' := by
 obtain ⟨a, ha⟩ : ∃ q, (v.kind == u.kind) = q := ⟨_, rfl⟩
 obtain ⟨b, hb⟩ : ∃ q, decide (v.mode = u.mode ∧ v.uid = u.uid ∧ v.gid = u.gid) = q := ⟨_, rfl⟩
 obtain ⟨c, hc⟩ : ∃ q, (v.tg.toList == u.tg.toList) = q := ⟨_, rfl⟩
 obtain ⟨d, hd⟩ : ∃ q, (v.op == u.op) = q := ⟨_, rfl⟩
 obtain ⟨e, he⟩ : ∃ q, decide (x.data = y.data) = q := ⟨_, rfl⟩
 obtain ⟨f, hf⟩ : ∃ q, decide (x.xs = y.xs) = q := ⟨_, rfl⟩
 have HA := hide (alike_rep hv hu a b c d e f ha hb hc hd he hf)
 have hA : ∀ W : World, (binOp .eql 45 (.agg #[.int .i64 v.mode, .int .i64 v.uid, .int .i64 v.gid]) (.agg #[.int .i64 u.mode, .int .i64 u.uid, .int .i64 u.gid])).run Tryz.prog W = .ok (.bool b) W := fun W => by rw [attrEq, hb]
 have HV := hide hv
 have HU := hide hu
 have HE := hide he
 have HF := hide hf
 have x1 := hv.xc
 have x2 := hv.xcm
 clear hv hu he hf hb
 unfold Nv.cells
 cases a with
 | false =>
  go_enter Tryz.func115, Tryz.ntmps115
  go_wp2
  go_ret
  exact ⟨ret_bool (by rw [HA.out]; rfl), below_alloc2 w _ _⟩
 | true =>
 cases b with
 | false =>
  go_enter Tryz.func115, Tryz.ntmps115
  go_wp2
  go_ret
  exact ⟨ret_bool (by rw [HA.out]; rfl), below_alloc2 w _ _⟩
 | true =>
 cases c with
 | false =>
  go_enter Tryz.func115, Tryz.ntmps115
  go_wp2
  go_ret
  exact ⟨ret_bool (by rw [HA.out]; rfl), below_alloc2 w _ _⟩
 | true =>
 cases d with
 | false =>
  go_enter Tryz.func115, Tryz.ntmps115
  go_wp2
  go_ret
  exact ⟨ret_bool (by rw [HA.out]; rfl), below_alloc2 w _ _⟩
 | true =>
 cases e with
 | false =>
  go_enter Tryz.func115, Tryz.ntmps115
  go_wp2_with (go_at_call 161; refine (bytesEqual_at false v.da u.da v.dn v.dc u.dn u.dc x.data y.data _ w HE.out HV.out.data HU.out.data (below_alloc2 w _ _)).mono ?_; rintro e w' ⟨rfl, rfl⟩)
  go_ret
  exact ⟨ret_bool (by rw [HA.out]; rfl), below_alloc2 w _ _⟩
 | true =>
  go_enter Tryz.func115, Tryz.ntmps115
  go_wp2_with (first
   | (go_at_call 161; refine (bytesEqual_at true v.da u.da v.dn v.dc u.dn u.dc x.data y.data _ w HE.out HV.out.data HU.out.data (below_alloc2 w _ _)).mono ?_; rintro e w' ⟨rfl, rfl⟩)
   | (go_at_call 162; refine (EqualFunc_at f v.xa u.xa v.xn v.xc u.xn u.xc x.xs y.xs _ w HF.out HV.out.xs HU.out.xs (below_alloc2 w _ _) x1 x2).mono ?_; rintro e w' ⟨rfl, hb⟩))
  go_ret
  refine ⟨ret_bool (by rw [HA.out]; rfl), (below_alloc2 w _ _).trans (hb.mono (by simp; omega))⟩
end Go.Proofs.YtoohanojfoichaaGreatDoor
namespace Go.Proofs.YtoohanojfoichaaGreatDoor
open Go.RowKit Go.Maps
open Nam Tre
open Lz (g)
namespace Tre
def fi (p : Nod → Bool) : Nat → List Nod → Int
 | _, [] => -1
 | i, n :: r => if p n = true then i else fi p (i + 1) r
theorem fi_ge (p : Nod → Bool) : ∀ (l : List Nod) (i : Nat), decide (0 ≤ fi p i l) = l.any p
 | [], i => rfl
 | n :: r, i => by
  unfold fi
  rw [List.any_cons]
  cases h : p n with
  | true => simp
  | false => rw [if_neg (by simp), Bool.false_or]; exact fi_ge p r (i + 1)
theorem fv_drop (l : List ByteArray) (i : Nat) (h : i < l.length) : fv (l.drop i) = if valid (gs l i).toList = 0 then fv (l.drop (i + 1)) else valid (gs l i).toList := by
 rw [List.drop_eq_getElem_cons h, gs_lt l i h, fv]
end Tre
def Asks (fn : Nat) (caps : Array Value) (p : Nod → Bool) (L : List (Nv × Nod)) (w : World) : Prop :=
 ∀ q ∈ L, ∀ w1, Below w.heap.size w w1 → Calls Tryz.prog fn (#[.agg q.1.cells] ++ caps) w1 fun e w' => e = .returned (.bool (p q.2)) ∧ Below w1.heap.size w1 w'
set_option maxRecDepth 100000 in
theorem all_any (a : Option Addr) (n c : Nat) (L : List (Nv × Nod)) (fn : Nat) (caps : Array Value) (p : Nod → Bool) (w : World) (hl : Ns w a n L) (hc : n ≤ c) (hcm : c ≤ 9223372036854775807)
  (hen : ∀ (args : Array Value) (w : World), (callFunc fn args).run Tryz.prog w = .ok (.enter fn args) w) (hp : Asks fn caps p L w) :
  Calls Tryz.prog 76 #[.slice a n c, .func (.func fn) #[] caps] w fun e w' => e = .returned (.bool ((nds L).all p)) ∧ Below w.heap.size w w' := by
 have HL := hide hl
 have HLN := hide hl.1
 have HP := hide hp
 clear hl hp
 go_enter Tryz.func76, Tryz.ntmps76
 go_wp2
 go_loopw [6, 9] (fun _ r wr => ∃ i : Nat, r = .int .i64 i ∧ i ≤ n ∧ Below w.heap.size w wr ∧ (nds L).all p = ((nds L).drop i).all p) (fun _ r _ => n - (intOf r).toNat)
 case atStart => exact ⟨0, rfl, Nat.zero_le _, Below.refl _ _, rfl⟩
 case round =>
  obtain ⟨i, rfl, hi0, hbel, hinv⟩ := hrel
  have HI := hide hinv
  have HB := hide hbel
  by_cases hi : i < n
  ·have hd : decide ((i : Int) < n) = true := by simpa using hi
   obtain ⟨ba, oa, rfl, hba, hca⟩ := (HL.out.below hbel).at (by omega)
   obtain ⟨c0, c1, c2, c3, c4, c5, c6, c7, c8, c9⟩ := hca i hi
   have HE := hide (nds_drop L i (by rw [HLN.out]; exact hi))
   obtain ⟨z, hz⟩ : ∃ z, p (gl L i).2 = z := ⟨_, rfl⟩
   have HZ := hide hz
   have HQ := hide (fun w1 hb => HP.out (gl L i) (gl_mem L i (by rw [HLN.out]; exact hi)) w1 hb)
   have bel : Hid (∀ o, Below w.heap.size w (wr.alloc o)) := fun o => HB.out.alloc HB.out.size _
   clear hca hinv hbel hz
   go_wp2_with fail
   refine (HQ.out _ (bel.out _)).mono ?_
   rw [HZ.out]
   rintro e w1 ⟨rfl, hb1⟩
   have e1 := hide ((bel.out _).trans (hb1.mono (bel.out _).size))
   clear hb1
   cases z with
   | false =>
    go_wp2
    go_ret
    exact ⟨ret_bool (by rw [HI.out, HE.out, List.all_cons, HZ.out]; rfl), e1.out⟩
   | true =>
    go_wp2
    refine ⟨⟨i + 1, by go_num, by omega, e1.out, ?_⟩, by simp [intOf]; omega⟩
    rw [HI.out, HE.out, List.all_cons, HZ.out]; rfl
  ·have hd : decide ((i : Int) < n) = false := by simpa using hi
   go_wp2
   go_ret
   refine ⟨ret_bool ?_, HB.out⟩
   rw [HI.out, List.drop_eq_nil_of_le (by rw [nds_length, HLN.out]; omega)]; rfl
set_option maxRecDepth 100000 in
theorem IndexFunc_any (a : Option Addr) (n c : Nat) (L : List (Nv × Nod)) (fn : Nat) (caps : Array Value) (p : Nod → Bool) (w : World) (hl : Ns w a n L) (hc : n ≤ c) (hcm : c ≤ 9223372036854775807)
  (hen : ∀ (args : Array Value) (w : World), (callFunc fn args).run Tryz.prog w = .ok (.enter fn args) w) (hp : Asks fn caps p L w) :
  Calls Tryz.prog 109 #[.slice a n c, .func (.func fn) #[] caps] w fun e w' => e = .returned (.int .i64 (fi p 0 (nds L))) ∧ Below w.heap.size w w' := by
 have HL := hide hl
 have HLN := hide hl.1
 have HP := hide hp
 clear hl hp
 go_enter Tryz.func109, Tryz.ntmps109
 go_wp2
 go_loopw [5, 8] (fun _ r wr => ∃ i : Nat, r = .int .i64 i ∧ i ≤ n ∧ Below w.heap.size w wr ∧ fi p 0 (nds L) = fi p i ((nds L).drop i)) (fun _ r _ => n - (intOf r).toNat)
 case atStart => exact ⟨0, rfl, Nat.zero_le _, Below.refl _ _, rfl⟩
 case round =>
  obtain ⟨i, rfl, hi0, hbel, hinv⟩ := hrel
  have HI := hide hinv
  have HB := hide hbel
  by_cases hi : i < n
  ·have hd : decide ((i : Int) < n) = true := by simpa using hi
   obtain ⟨ba, oa, rfl, hba, hca⟩ := (HL.out.below hbel).at (by omega)
   obtain ⟨c0, c1, c2, c3, c4, c5, c6, c7, c8, c9⟩ := hca i hi
   have HE := hide (nds_drop L i (by rw [HLN.out]; exact hi))
   obtain ⟨z, hz⟩ : ∃ z, p (gl L i).2 = z := ⟨_, rfl⟩
   have HZ := hide hz
   have HQ := hide (fun w1 hb => HP.out (gl L i) (gl_mem L i (by rw [HLN.out]; exact hi)) w1 hb)
   clear hca hinv hbel hz
   go_wp2_with fail
   refine (HQ.out _ HB.out).mono ?_
   rw [HZ.out]
   rintro e w1 ⟨rfl, hb1⟩
   have e1 := hide (HB.out.trans (hb1.mono HB.out.size))
   clear hb1
   cases z with
   | true =>
    go_wp2
    go_ret
    exact ⟨ret_int (by rw [HI.out, HE.out, fi, HZ.out]; rfl), e1.out⟩
   | false =>
    go_wp2
    refine ⟨⟨i + 1, by go_num, by omega, e1.out, ?_⟩, by simp [intOf]; omega⟩
    rw [HI.out, HE.out, fi, HZ.out]; rfl
  ·have hd : decide ((i : Int) < n) = false := by simpa using hi
   go_wp2
   go_ret
   refine ⟨ret_int ?_, HB.out⟩
   rw [HI.out, List.drop_eq_nil_of_le (by rw [nds_length, HLN.out]; omega)]; rfl
theorem ContainsFunc_any (a : Option Addr) (n c : Nat) (L : List (Nv × Nod)) (fn : Nat) (caps : Array Value) (p : Nod → Bool) (w : World) (hl : Ns w a n L) (hc : n ≤ c) (hcm : c ≤ 9223372036854775807)
  (hen : ∀ (args : Array Value) (w : World), (callFunc fn args).run Tryz.prog w = .ok (.enter fn args) w) (hp : Asks fn caps p L w) :
  Calls Tryz.prog 71 #[.slice a n c, .func (.func fn) #[] caps] w fun e w' => e = .returned (.bool ((nds L).any p)) ∧ Below w.heap.size w w' := by
 have H := hide (IndexFunc_any a n c L fn caps p w hl hc hcm hen hp)
 have HE := hide (fi_ge p (nds L) 0)
 clear hl hp
 go_enter Tryz.func71, Tryz.ntmps71
 go_wp2_with (go_at_call 109; refine H.out.mono ?_; rintro e w' ⟨rfl, hb⟩)
 go_ret
 exact ⟨ret_bool HE.out, hb⟩
theorem isDeep_any (v : Nv) (n : Nod) (w : World) (h : Rep w v n) : Calls Tryz.prog 72 #[.agg v.cells] w fun e w' => e = .returned (.bool (deep n)) ∧ Below w.heap.size w w' := by
 have HE : Hid (decide ((16 : Int) < v.nn) = deep n) := by
  show _ = _
  rw [deep, h.names.1, Bool.eq_iff_iff, decide_eq_true_eq, decide_eq_true_eq]; omega
 clear h
 unfold Nv.cells
 go_enter Tryz.func72, Tryz.ntmps72
 go_wp2
 go_ret
 exact ⟨ret_bool (by rw [← HE.out]), (Below.refl _ _).alloc (Nat.le_refl _) _⟩
set_option maxRecDepth 100000 in
theorem wrongName_any (a : Option Addr) (n c : Nat) (L : List (Nv × Nod)) (w : World) (hl : Ns w a n L) (hc : n ≤ c) (hcm : c ≤ 9223372036854775807) :
  Calls Tryz.prog 70 #[.slice a n c] w fun e w' => e = .returned (.int .i64 (wrong (nds L))) ∧ Below w.heap.size w w' := by
 have HL := hide hl
 have HLN := hide hl.1
 clear hl
 go_enter Tryz.func70, Tryz.ntmps70
 go_wp2
 go_loopw [4, 6, 7, 10, 15, 16, 17] (fun _ _ _ r _ _ _ wr => ∃ i : Nat, r = .int .i64 i ∧ i ≤ n ∧ Below w.heap.size w wr ∧ wrong (nds L) = wrong ((nds L).drop i)) (fun _ _ _ r _ _ _ _ => n - (intOf r).toNat)
 case atStart => exact ⟨0, rfl, Nat.zero_le _, Below.refl _ _, rfl⟩
 case round =>
  obtain ⟨i, rfl, hi0, hbel, hinv⟩ := hrel
  have HI := hide hinv
  have HB := hide hbel
  by_cases hi : i < n
  ·have hd : decide ((i : Int) < n) = true := by simpa using hi
   obtain ⟨ba, oa, rfl, hba, hca⟩ := (HL.out.below hbel).at (by omega)
   obtain ⟨c0, c1, c2, c3, c4, c5, c6, c7, c8, c9⟩ := hca i hi
   have HE := hide (nds_drop L i (by rw [HLN.out]; exact hi))
   have hr := HL.out.rep i hi
   obtain ⟨na, nn, nc, c0', hN, n1, n2⟩ : ∃ na nn nc, wr.cell? ⟨ba, oa + i * 10, none⟩ = some (.slice na nn nc) ∧ Rs w na nn (gl L i).2.names ∧ nn ≤ nc ∧ nc ≤ 9223372036854775807 := ⟨_, _, _, c0, hr.names, hr.nc, hr.ncm⟩
   have HN := hide hN
   have HNN := hide hN.1
   have bel : Hid (∀ o, Below w.heap.size w (wr.alloc o)) := fun o => HB.out.alloc HB.out.size _
   clear hca hinv hbel hr c0 hN
   go_wp2
   go_loopw [6, 7, 17] (fun _ _ r ws => ∃ k : Nat, r = .int .i64 k ∧ k ≤ nn ∧ Below w.heap.size w ws ∧ fv (gl L i).2.names = fv ((gl L i).2.names.drop k)) (fun _ _ r _ => nn - (intOf r).toNat)
   case atStart => exact ⟨0, rfl, Nat.zero_le _, bel.out _, rfl⟩
   case round =>
    obtain ⟨k, rfl, hk0, hbel2, hinv2⟩ := hrel
    have HI2 := hide hinv2
    have HB2 := hide hbel2
    by_cases hk : k < nn
    ·have hd2 : decide ((k : Int) < nn) = true := by simpa using hk
     obtain ⟨bb, ob, rfl, hbb, hcb⟩ := (HN.out.below hbel2).at (by omega)
     have d1 := hcb k hk
     have HE2 := hide (fv_drop (gl L i).2.names k (by rw [HNN.out]; exact hk))
     obtain ⟨z, hz⟩ : ∃ z, valid (gs (gl L i).2.names k).toList = z := ⟨_, rfl⟩
     have HZ := hide hz
     clear hcb hinv2 hbel2 hz
     go_wp2_with (go_at_call 108; refine (Valid_any _ _).mono ?_)
     rw [HZ.out]
     rintro e w2 ⟨rfl, hb2⟩
     have e2 := hide (HB2.out.trans (hb2.mono HB2.out.size))
     clear hb2
     by_cases hzz : z = 0
     ·have hz1 : (z != 0) = false := by simp [hzz]
      have HZZ := hide hzz
      clear hzz
      go_wp2
      refine ⟨⟨k + 1, by go_num, by omega, e2.out, ?_⟩, by simp [intOf]; omega⟩
      rw [HI2.out, HE2.out, HZ.out, if_pos HZZ.out]
     ·have hz1 : (z != 0) = true := by simpa using hzz
      have HZZ := hide hzz
      clear hzz
      go_wp2
      go_ret
      refine ⟨ret_int ?_, e2.out⟩
      have hfv : fv (gl L i).2.names = z := by rw [HI2.out, HE2.out, HZ.out, if_neg HZZ.out]
      rw [HI.out, HE.out, wrong, hfv, if_neg HZZ.out]
    ·have hd2 : decide ((k : Int) < nn) = false := by simpa using hk
     go_wp2
     refine ⟨⟨i + 1, by go_num, by omega, HB2.out, ?_⟩, by simp [intOf]; omega⟩
     have hfv : fv (gl L i).2.names = 0 := by rw [HI2.out, List.drop_eq_nil_of_le (by rw [HNN.out]; omega)]; rfl
     rw [HI.out, HE.out, wrong, if_pos hfv]
  ·have hd : decide ((i : Int) < n) = false := by simpa using hi
   go_wp2
   go_ret
   refine ⟨ret_int ?_, HB.out⟩
   rw [HI.out, List.drop_eq_nil_of_le (by rw [nds_length, HLN.out]; omega)]; rfl
end Go.Proofs.YtoohanojfoichaaGreatDoor
namespace Go.Proofs.YtoohanojfoichaaGreatDoor
open Go.RowKit Go.Maps
open Nam Tre
theorem nm_dec (l k : List ByteArray) : decide (nm l = nm k) = decide (l = k) := by
 rw [Bool.eq_iff_iff, decide_eq_true_eq, decide_eq_true_eq]
 exact ⟨nm_inj, fun h => by rw [h]⟩
theorem refSame_one (a b : Option Addr) (n c m d : Nat) (l k : List ByteArray) (w : World) (hl : Rs w a n l) (hk : Rs w b m k) (hn : n ≤ 1000000) :
  Calls Tryz.prog 28 #[.slice a n c, .slice b m d] w fun e w' => e = .returned (.bool (decide (l = k))) ∧ ∃ q, w' = w.drewN q := by
 by_cases hnm : n = m
 ·have := refSame_any a b n c m d l k w hl hk hn (by omega)
  rw [nm_dec] at this
  exact this
 ·have hnm' : ((n : Int) != m) = true := by simp; omega
  have hne : Hid (false = decide (l = k)) := by
   show _ = _
   symm
   rw [decide_eq_false_iff_not]
   intro h
   have := congrArg List.length h
   rw [hl.1, hk.1] at this
   exact hnm this
  clear hl hk
  go_enter Tryz.func28, Tryz.ntmps28
  go_wp2
  go_ret
  exact ⟨ret_bool hne.out, 0, rfl⟩
namespace Tre
def nmd (m : List ByteArray) (n : Nod) : Bool := decide (n.names = m)
theorem fi_spec (p : Nod → Bool) : ∀ (l : List Nod) (i : Nat), (fi p i l = -1 ∧ l.find? p = none) ∨ ∃ j, fi p i l = ((i + j : Nat) : Int) ∧ ∃ (h : j < l.length), l.find? p = some l[j]
 | [], i => .inl ⟨rfl, rfl⟩
 | n :: r, i => by
  unfold fi
  rw [List.find?_cons]
  cases hp : p n with
  | true => exact .inr ⟨0, by simp, by simp, rfl⟩
  | false =>
   simp only [Bool.false_eq_true, if_false]
   rcases fi_spec p r (i + 1) with h | ⟨j, h1, h2, h3⟩
   ·exact .inl h
   ·exact .inr ⟨j + 1, by rw [h1]; congr 1; omega, by simp; omega, by simpa using h3⟩
end Tre
set_option maxRecDepth 100000 in
theorem refFind_any (a : Option Addr) (n c : Nat) (L : List (Nv × Nod)) (b : Option Addr) (m d : Nat) (k : List ByteArray) (w : World) (hl : Ns w a n L) (hc : n ≤ c) (hcm : c ≤ 9223372036854775807) (hk : Rs w b m k) (h20 : ∀ p ∈ L, p.2.names.length ≤ 1000000) :
  Calls Tryz.prog 155 #[.slice a n c, .slice b m d] w fun e w' => e = .returned (.int .i64 (fi (nmd k) 0 (nds L))) ∧ ∃ q, w' = w.drewN q := by
 have HL := hide hl
 have HLN := hide hl.1
 have HK := hide hk
 have H20 := hide h20
 clear hl hk h20
 go_enter Tryz.func155, Tryz.ntmps155
 go_wp2
 go_loopw [5, 6] (fun r _ wr => ∃ i q : Nat, wr = w.drewN q ∧ r = .int .i64 i ∧ i ≤ n ∧ fi (nmd k) 0 (nds L) = fi (nmd k) i ((nds L).drop i)) (fun r _ _ => n - (intOf r).toNat)
 case atStart => exact ⟨0, 0, rfl, rfl, Nat.zero_le _, rfl⟩
 case round =>
  obtain ⟨i, q, rfl, rfl, hi0, hinv⟩ := hrel
  have HI := hide hinv
  by_cases hi : i < n
  ·have hd : decide ((i : Int) < n) = true := by simpa using hi
   obtain ⟨ba, oa, rfl, hba, hca⟩ := HL.out.at (by omega)
   obtain ⟨c0, _, _, _, _, _, _, _, _, _⟩ := hca i hi
   have HE := hide (nds_drop L i (by rw [HLN.out]; exact hi))
   have hr := HL.out.rep i hi
   have hnn : (gl L i).1.nn ≤ 1000000 := by have := hr.names.1; have := H20.out (gl L i) (gl_mem L i (by rw [HLN.out]; exact hi)); omega
   have HC := hide (refSame_one (gl L i).1.na b (gl L i).1.nn (gl L i).1.nc m d (gl L i).2.names k (w.drewN q) (hr.names.drewN q) (HK.out.drewN q) hnn)
   obtain ⟨z, hz⟩ : ∃ z, nmd k (gl L i).2 = z := ⟨_, rfl⟩
   have HZ := hide hz
   rw [show decide ((gl L i).2.names = k) = z from hz] at HC
   clear hca hinv hz hr
   go_wp2_with (go_at_call 28; refine HC.out.mono ?_)
   rintro e w1 ⟨rfl, q1, rfl⟩
   cases z with
   | true =>
    go_wp2
    go_ret
    exact ⟨ret_int (by rw [HI.out, HE.out, fi, HZ.out]; rfl), _, rfl⟩
   | false =>
    go_wp2
    refine ⟨⟨i + 1, q + q1, by simp, by go_num, by omega, ?_⟩, by simp [intOf]; omega⟩
    rw [HI.out, HE.out, fi, HZ.out]; rfl
  ·have hd : decide ((i : Int) < n) = false := by simpa using hi
   go_wp2
   go_ret
   refine ⟨ret_int ?_, q, rfl⟩
   rw [HI.out, List.drop_eq_nil_of_le (by rw [nds_length, HLN.out]; omega)]; rfl
set_option maxRecDepth 100000 in
theorem refIsDir_any (a : Option Addr) (n c : Nat) (L : List (Nv × Nod)) (b : Option Addr) (m d : Nat) (k : List ByteArray) (w : World) (hl : Ns w a n L) (hc : n ≤ c) (hcm : c ≤ 9223372036854775807) (hk : Rs w b m k) (h20 : ∀ p ∈ L, p.2.names.length ≤ 1000000) :
  Calls Tryz.prog 105 #[.slice a n c, .slice b m d] w fun e w' => e = .returned (.bool (isDir (nds L) k)) ∧ ∃ q, w' = w.drewN q := by
 have HF := hide (refFind_any a n c L b m d k w hl hc hcm hk h20)
 have HL := hide hl
 have HLN := hide hl.1
 rcases fi_spec (nmd k) (nds L) 0 with ⟨h1, h2⟩ | ⟨j, h1, h2, h3⟩
 ·rw [h1] at HF
  have HD : Hid (isDir (nds L) k = false) := by
   show _ = _
   unfold isDir
   have h2' : (nds L).find? (fun n => decide (n.names = k)) = none := h2
   rw [h2']
  clear hl hk h1 h2
  go_enter Tryz.func105, Tryz.ntmps105
  go_wp2_with (go_at_call 155; refine HF.out.mono ?_; rintro e w1 ⟨rfl, q1, rfl⟩)
  go_ret
  exact ⟨ret_bool HD.out.symm, q1, rfl⟩
 ·rw [Nat.zero_add] at h1
  rw [h1] at HF
  have hj : j < n := by rw [nds_length, hl.1] at h2; exact h2
  obtain ⟨ba, oa, rfl, hba, hca⟩ := hl.at (by omega)
  obtain ⟨_, _, c2, _, _, _, _, _, _, _⟩ := hca j hj
  have HD : Hid (((gl L j).1.kind == 1) = isDir (nds L) k) := by
   show _ = _
   unfold isDir
   have h3' : (nds L).find? (fun n => decide (n.names = k)) = some (nds L)[j] := h3
   have e : (nds L)[j] = (gl L j).2 := by rw [gl_lt L j (by rw [HLN.out]; exact hj)]; simp [nds]
   rw [h3', e, ← (hl.rep j hj).kind]
   rw [Bool.eq_iff_iff, beq_iff_eq, decide_eq_true_eq]
  have hj1 : (j : Int) < n := by omega
  have hj0 : (0 : Int) ≤ j := by omega
  clear hl hk h1 h2 h3 hca
  go_enter Tryz.func105, Tryz.ntmps105
  go_wp2_with (go_at_call 155; refine HF.out.mono ?_; rintro e w1 ⟨rfl, q1, rfl⟩)
  go_ret
  exact ⟨ret_bool HD.out, q1, rfl⟩
end Go.Proofs.YtoohanojfoichaaGreatDoor
namespace Go.Proofs.YtoohanojfoichaaGreatDoor
open Go.RowKit Go.Maps
open Stb
def ivs (n : Nat) (C : Nat → Nat) : List Value := (List.range n).map fun k => Value.int .i64 (C k : Int)
theorem ivs_length (n : Nat) (C : Nat → Nat) : (ivs n C).length = n := by simp [ivs]
theorem ivs_get (n : Nat) (C : Nat → Nat) (k : Nat) (h : k < n) : (ivs n C)[k]? = some (.int .i64 (C k : Int)) := by simp [ivs, h]
theorem ivs_set (n : Nat) (C : Nat → Nat) (i z : Nat) : (ivs n C).set i (.int .i64 (z : Int)) = ivs n (fun k => if k = i then z else C k) := by
 apply List.ext_getElem?
 intro k
 rw [List.getElem?_set]
 by_cases hk : k < n
 ·rw [ivs_get _ _ k hk, ivs_get _ _ k hk]
  by_cases e : i = k
  ·subst e; simp [ivs_length, hk]
  ·simp [e, Ne.symm e]
 ·rw [List.getElem?_eq_none (by rw [ivs_length]; omega), List.getElem?_eq_none (by rw [ivs_length]; omega)]
  by_cases e : i = k
  ·subst e; simp [ivs_length, hk]
  ·simp [e]
structure IR (w0 : World) (B blk n cap : Nat) (w : World) (C : Nat → Nat) : Prop where
 row : w.ownsRow B 3 1 (.slice (some ⟨blk, 0, none⟩) n cap) n (ivs n C)
 bel : Below blk w0 w
theorem IR.set {w0 w : World} {B blk n cap : Nat} {C : Nat → Nat} (h : IR w0 B blk n cap w C) (i z : Nat) : IR w0 B blk n cap (w.setCell ⟨blk, i, none⟩ (.int .i64 (z : Int))) (fun k => if k = i then z else C k) := by
 exact ⟨by have := (h.row.stored i (.int .i64 (z : Int))).1; rw [ivs_set] at this; exact this, h.bel.setCell (Nat.le_refl _) _⟩
theorem IR.same {w0 w : World} {B blk n cap : Nat} {C D : Nat → Nat} (h : IR w0 B blk n cap w C) (e : ∀ k, k < n → D k = C k) : IR w0 B blk n cap w D := by
 have : ivs n D = ivs n C := List.map_congr_left fun k hk => by rw [e k (by simpa using hk)]
 exact ⟨by rw [this]; exact h.row, h.bel⟩
theorem IR.swap {w0 w : World} {B blk n cap : Nat} {C : Nat → Nat} (h : IR w0 B blk n cap w C) (i j : Nat) (hne : i ≠ j) : IR w0 B blk n cap ((w.setCell ⟨blk, i, none⟩ (.int .i64 (C j : Int))).setCell ⟨blk, j, none⟩ (.int .i64 (C i : Int))) (swp C i j) := by
 refine ((h.set i (C j)).set j (C i)).same fun k _ => ?_
 simp only [swp]
 by_cases e : k = i
 ·simp only [if_pos e, if_neg (show ¬ k = j by omega)]
 ·by_cases f : k = j
  ·simp only [if_pos f, if_neg e]
  ·simp only [if_neg f, if_neg e]
theorem IR.swap' {w0 w : World} {B blk n cap : Nat} {C : Nat → Nat} (h : IR w0 B blk n cap w C) (i j : Nat) (hne : i ≠ j) : IR w0 B blk n cap ((w.setCell ⟨blk, j, none⟩ (.int .i64 (C i : Int))).setCell ⟨blk, i, none⟩ (.int .i64 (C j : Int))) (swp C i j) := by
 refine ((h.set j (C i)).set i (C j)).same fun k _ => ?_
 simp only [swp]
theorem IR.swaps {w0 w : World} {B blk n cap : Nat} {C : Nat → Nat} (h : IR w0 B blk n cap w C) {i j : Nat} (hi : i < n) (hj : j < n) (hne : i ≠ j) :
  w.cell? ⟨blk, i, none⟩ = some (.int .i64 (C i : Int)) ∧ w.cell? ⟨blk, j, none⟩ = some (.int .i64 (C j : Int)) ∧ w.frozen? ⟨blk, i, none⟩ = false ∧ w.frozen? ⟨blk, j, none⟩ = false ∧
  (w.setCell ⟨blk, i, none⟩ (.int .i64 (C j : Int))).cell? ⟨blk, j, none⟩ = some (.int .i64 (C j : Int)) ∧ (w.setCell ⟨blk, j, none⟩ (.int .i64 (C i : Int))).cell? ⟨blk, i, none⟩ = some (.int .i64 (C i : Int)) ∧
  (w.setCell ⟨blk, i, none⟩ (.int .i64 (C j : Int))).frozen? ⟨blk, j, none⟩ = false ∧ (w.setCell ⟨blk, j, none⟩ (.int .i64 (C i : Int))).frozen? ⟨blk, i, none⟩ = false := by
 have hc : ∀ {W : World} {D : Nat → Nat}, IR w0 B blk n cap W D → ∀ k, k < n → W.cell? ⟨blk, k, none⟩ = some (.int .i64 (D k : Int)) := fun h k hk => by rw [h.row.cellAt k (by omega), ivs_get _ _ _ hk]
 refine ⟨hc h i hi, hc h j hj, h.row.frozenAt _, h.row.frozenAt _, ?_, ?_, (h.set i (C j)).row.frozenAt _, (h.set j (C i)).row.frozenAt _⟩
 ·rw [hc (h.set i (C j)) j hj, if_neg (Ne.symm hne)]
 ·rw [hc (h.set j (C i)) i hi, if_neg hne]
theorem IR.drew {w0 w : World} {B blk n cap : Nat} {C : Nat → Nat} (h : IR w0 B blk n cap w C) (q : Nat) : IR w0 B blk n cap (w.drewN q) C := by
 exact ⟨h.row, ⟨h.bel.os, h.bel.tape, h.bel.output, h.bel.size, h.bel.block⟩⟩
theorem IR.drew1 {w0 w : World} {B blk n cap : Nat} {C : Nat → Nat} (h : IR w0 B blk n cap w C) : IR w0 B blk n cap w.drew C := ⟨h.row, h.bel.drew⟩
theorem IR.cell {w0 w : World} {B blk n cap : Nat} {C : Nat → Nat} (h : IR w0 B blk n cap w C) {k : Nat} (hk : k < n) : w.cell? ⟨blk, k, none⟩ = some (.int .i64 (C k : Int)) := by
 rw [h.row.cellAt k (by omega), ivs_get _ _ _ hk]
set_option maxRecDepth 100000 in
theorem swapRange_any (w0 : World) (B blk n cap : Nat) (fv : Value) (a b m : Nat) (C : Nat → Nat) (w : World) (h : IR w0 B blk n cap w C) (hn : n ≤ 1000) (h1 : a + m ≤ b) (h2 : b + m ≤ n) :
  Calls Tryz.prog 217 #[.slice (some ⟨blk, 0, none⟩) n cap, .int .i64 a, .int .i64 b, .int .i64 m, fv] w fun e w' => e = .returned (.tuple #[]) ∧ IR w0 B blk n cap w' (swr C a b m) := by
 have H := hide h
 clear h
 go_enter Tryz.func217, Tryz.ntmps217
 go_wp2
 go_loopw [10] (fun r wr => ∃ i : Nat, r = .int .i64 i ∧ i ≤ m ∧ IR w0 B blk n cap wr (swr C a b i)) (fun r _ => m - (intOf r).toNat)
 case atStart => exact ⟨0, rfl, Nat.zero_le _, by rw [swr_zero]; exact H.out⟩
 case round =>
  obtain ⟨i, rfl, hi0, hir⟩ := hrel
  have HI := hide hir
  by_cases hi : i < m
  ·have hd : decide ((i : Int) < m) = true := by simpa using hi
   have w1 : IntKind.i64.wrap ((a : Int) + i) = ((a + i : Nat) : Int) := by rw [IntWalk.i64_in _ (by omega)]; omega
   have w2 : IntKind.i64.wrap ((b : Int) + i) = ((b + i : Nat) : Int) := by rw [IntWalk.i64_in _ (by omega)]; omega
   obtain ⟨c1, c2, z1, z2, c3, c4, z3, z4⟩ := hir.swaps (i := a + i) (j := b + i) (by omega) (by omega) (by omega)
   have HS := hide (hir.swap (a + i) (b + i) (by omega))
   have HS2 := hide (hir.swap' (a + i) (b + i) (by omega))
   have HE := hide (swr_succ C a b i (by omega))
   have i1 : ((a + i : Nat) : Int) < n := by omega
   have i2 : ((b + i : Nat) : Int) < n := by omega
   generalize swr C a b i (a + i) = x1 at *
   generalize swr C a b i (b + i) = x2 at *
   obtain ⟨p1, hp1⟩ : ∃ p, p = a + i := ⟨_, rfl⟩
   obtain ⟨p2, hp2⟩ : ∃ p, p = b + i := ⟨_, rfl⟩
   rw [← hp1] at w1 c1 z1 c3 c4 z3 z4 i1 HS HS2 HE
   rw [← hp2] at w2 c2 z2 c3 c4 z3 z4 i2 HS HS2 HE
   clear hir hp1 hp2
   go_wp2_with fail
   go_region
   have HR : Hid (∀ o, o = ((wr.setCell ⟨blk, p1, none⟩ (.int .i64 (x2 : Int))).setCell ⟨blk, p2, none⟩ (.int .i64 (x1 : Int))).drew → IR w0 B blk n cap o (swr C a b (i + 1))) := fun o e => by rw [e, ← HE.out]; exact HS.out.drew1
   clear HS HS2 HE c1 c2 c3 c4 z1 z2 z3 z4
   go_wp2
   exact ⟨⟨i + 1, by go_num, by omega, HR.out _ rfl⟩, by simp [intOf]; omega⟩
  ·have hd : decide ((i : Int) < m) = false := by simpa using hi
   obtain rfl : i = m := by omega
   go_wp2
   go_end0
   exact ⟨rfl, HI.out⟩
set_option maxRecDepth 100000 in
theorem rotate_any (w0 : World) (B blk n cap : Nat) (fv : Value) (a m b : Nat) (C : Nat → Nat) (w : World) (h : IR w0 B blk n cap w C) (hn : n ≤ 1000) (h1 : a < m) (h2 : m < b) (h3 : b ≤ n) :
  Calls Tryz.prog 216 #[.slice (some ⟨blk, 0, none⟩) n cap, .int .i64 a, .int .i64 m, .int .i64 b, fv] w fun e w' => e = .returned (.tuple #[]) ∧ IR w0 B blk n cap w' (rot C a m b) := by
 have H := hide h
 have v1 : IntKind.i64.wrap ((m : Int) - a) = ((m - a : Nat) : Int) := by rw [IntWalk.i64_in _ (by omega)]; omega
 have v2 : IntKind.i64.wrap ((b : Int) - m) = ((b - m : Nat) : Int) := by rw [IntWalk.i64_in _ (by omega)]; omega
 clear h
 go_enter Tryz.func216, Tryz.ntmps216
 go_wp2
 go_loopw [10, 11] (fun r10 r11 wr => ∃ (i j : Nat) (D : Nat → Nat), r10 = .int .i64 i ∧ r11 = .int .i64 j ∧ 0 < i ∧ 0 < j ∧ i ≤ m ∧ m + j ≤ n ∧ IR w0 B blk n cap wr D ∧ rot D (m - i) m (m + j) = rot C a m b) (fun r10 r11 _ => (intOf r10).toNat + (intOf r11).toNat)
 case atStart => exact ⟨m - a, b - m, C, rfl, rfl, by omega, by omega, by omega, by omega, H.out, by congr 1 <;> omega⟩
 case round =>
  obtain ⟨i, j, D, rfl, rfl, hi0, hj0, him, hjn, hir, hrot⟩ := hrel
  have HI := hide hir
  have HRT := hide hrot
  clear hir hrot v1 v2
  have v1 : IntKind.i64.wrap ((m : Int) - i) = ((m - i : Nat) : Int) := by rw [IntWalk.i64_in _ (by omega)]; omega
  rcases Nat.lt_trichotomy i j with c | c | c
  ·have hd : ((i : Int) != j) = true := by simp; omega
   have hd2 : decide ((i : Int) > j) = false := by simp; omega
   have hd3 : decide ((j : Int) < i) = false := by simp; omega
   have v2 : IntKind.i64.wrap ((m : Int) + j) = ((m + j : Nat) : Int) := by rw [IntWalk.i64_in _ (by omega)]; omega
   have v3 : IntKind.i64.wrap (((m + j : Nat) : Int) - i) = ((m + j - i : Nat) : Int) := by rw [IntWalk.i64_in _ (by omega)]; omega
   have v4 : IntKind.i64.wrap ((j : Int) - i) = ((j - i : Nat) : Int) := by rw [IntWalk.i64_in _ (by omega)]; omega
   have HC := hide (swapRange_any w0 B blk n cap fv (m - i) (m + j - i) i D wr HI.out hn (by omega) (by omega))
   have HE := hide (rot_lt D i j m him c)
   generalize m + j - i = p3 at *
   generalize hp4 : j - i = p4 at *
   generalize hp2 : m + j = p2 at *
   generalize hp1 : m - i = p1 at *
   go_wp2_with (go_at_call 217; refine HC.out.mono ?_)
   rintro e w1 ⟨rfl, hir1⟩
   have HI1 := hide hir1
   clear hir1 HC
   go_wp2
   exact ⟨⟨i, p4, _, rfl, rfl, hi0, by omega, him, by omega, HI1.out, by rw [hp1, HE.out, HRT.out]⟩, by simp [intOf]; omega⟩
  ·subst c
   have hd : ((i : Int) != i) = false := by simp
   have HC := hide (swapRange_any w0 B blk n cap fv (m - i) m i D wr HI.out hn (by omega) (by omega))
   have HE := hide (rot_eq D i m him)
   generalize m - i = p1 at *
   go_wp2_with (go_at_call 217; refine HC.out.mono ?_)
   rintro e w1 ⟨rfl, hir1⟩
   have HI1 := hide hir1
   clear hir1 HC
   go_wp2
   go_end0
   exact ⟨rfl, by rw [← HRT.out, ← HE.out]; exact HI1.out⟩
  ·have hd : ((i : Int) != j) = true := by simp; omega
   have hd2 : decide ((i : Int) > j) = true := by simp; omega
   have hd3 : decide ((j : Int) < i) = true := by simp; omega
   have v4 : IntKind.i64.wrap ((i : Int) - j) = ((i - j : Nat) : Int) := by rw [IntWalk.i64_in _ (by omega)]; omega
   have HC := hide (swapRange_any w0 B blk n cap fv (m - i) m j D wr HI.out hn (by omega) (by omega))
   have HE := hide (rot_gt D i j m him c)
   generalize hp4 : i - j = p4 at *
   generalize m - i = p1 at *
   go_wp2_with (go_at_call 217; refine HC.out.mono ?_)
   rintro e w1 ⟨rfl, hir1⟩
   have HI1 := hide hir1
   clear hir1 HC
   go_wp2
   exact ⟨⟨p4, j, _, rfl, rfl, by omega, hj0, by omega, hjn, HI1.out, by rw [← HRT.out, ← HE.out]⟩, by simp [intOf]; omega⟩
end Go.Proofs.YtoohanojfoichaaGreatDoor
namespace Go.Proofs.YtoohanojfoichaaGreatDoor
open Go.RowKit Go.Maps
open Stb
def Cmps (fn : Nat) (caps : Array Value) (kc : Nat → Nat → Int) (S : Nat → Prop) (w0 : World) (blk : Nat) : Prop :=
 ∀ w : World, Below blk w0 w → ∀ x y, S x → S y →
  Calls Tryz.prog fn (#[.int .i64 (x : Int), .int .i64 (y : Int)] ++ caps) w fun e w' => e = .returned (.int .i64 (kc x y)) ∧ ∃ q, w' = w.drewN q
structure Odr (kc : Nat → Nat → Int) (lt : Nat → Nat → Prop) : Prop where
 neg : ∀ x y, y < x → kc x y < 0 → lt x y
 pos : ∀ x y, y < x → ¬ kc x y < 0 → lt y x
 tr : ∀ x y z, lt x y → lt y z → lt x z
theorem Cmps.quiet {fn : Nat} {caps : Array Value} {kc : Nat → Nat → Int} {S : Nat → Prop} {w0 : World} {blk B n cap : Nat} (h : Cmps fn caps kc S w0 blk) {w : World} {C : Nat → Nat} (hir : IR w0 B blk n cap w C) (x y : Nat) (hx : S x) (hy : S y) (k : Nat) :
  Calls Tryz.prog fn (#[.int .i64 (x : Int), .int .i64 (y : Int)] ++ caps) (w.drewN k) fun e w' => e = .returned (.int .i64 (kc x y)) ∧ ∃ q, w' = w.drewN q := by
 refine (h (w.drewN k) (hir.drew k).bel x y hx hy).mono ?_
 rintro e w' ⟨rfl, q, rfl⟩
 exact ⟨rfl, k + q, World.drewN_drewN w k q⟩
theorem rot_all {S : Nat → Prop} {C : Nat → Nat} {n s m e : Nat} (h : ∀ k, k < n → S (C k)) (h1 : s ≤ m) (h2 : m ≤ e) (h3 : e ≤ n) : ∀ k, k < n → S (rot C s m e k) := fun k hk => by
 obtain ⟨j, _, j2, e⟩ := (In.rot (C := C) (a := 0) (Nat.zero_le _) h1 h2 h3).1 ⟨k, Nat.zero_le _, hk, rfl⟩
 rw [← e]; exact h j j2
theorem Mg.all {lt : Nat → Nat → Prop} {S : Nat → Prop} {C D : Nat → Nat} {n a b : Nat} (h : Mg lt C D a b) (hb : b ≤ n) (hs : ∀ k, k < n → S (C k)) : ∀ k, k < n → S (D k) := fun k hk => by
 by_cases c : k < a ∨ b ≤ k
 ·rw [h.out k c]; exact hs k hk
 ·obtain ⟨j, _, j2, e⟩ := (h.inn _).1 ⟨k, by omega, by omega, rfl⟩
  rw [← e]; exact hs j (by omega)
set_option maxRecDepth 100000 in
set_option maxHeartbeats 1000000 in
theorem insertion_any (w0 : World) (B blk n cap : Nat) (fn : Nat) (caps : Array Value) (kc : Nat → Nat → Int) (lt : Nat → Nat → Prop) (S : Nat → Prop) (a b : Nat) (C : Nat → Nat) (w : World)
  (hen : ∀ (args : Array Value) (w : World), (callFunc fn args).run Tryz.prog w = .ok (.enter fn args) w) (hq : Cmps fn caps kc S w0 blk) (ho : Odr kc lt)
  (h : IR w0 B blk n cap w C) (hn : n ≤ 1000) (hab : a ≤ b) (hb : b ≤ n) (hS : ∀ k, k < n → S (C k)) (hc : ∀ i j, a ≤ i → i < j → j < b → C i < C j) :
  Calls Tryz.prog 210 #[.slice (some ⟨blk, 0, none⟩) n cap, .int .i64 a, .int .i64 b, .func (.func fn) #[] caps] w fun e w' => e = .returned (.tuple #[]) ∧ ∃ D, IR w0 B blk n cap w' D ∧ Mg lt C D a b := by
 have H := hide h
 have HQ := hide hq
 have HO := hide ho
 have HS := hide hS
 have HC := hide hc
 have v1 : IntKind.i64.wrap ((a : Int) + 1) = ((a + 1 : Nat) : Int) := by rw [IntWalk.i64_in _ (by omega)]; omega
 clear h hq ho hS hc
 go_enter Tryz.func210, Tryz.ntmps210
 go_wp2
 go_loopw [8, 9] (fun r _ wr => ∃ (i : Nat) (D : Nat → Nat), r = .int .i64 i ∧ a < i ∧ (i ≤ b ∨ (i = a + 1 ∧ D = C)) ∧ IR w0 B blk n cap wr D ∧ Mg lt C D a i) (fun r _ _ => b - (intOf r).toNat)
 case atStart => exact ⟨a + 1, C, rfl, by omega, .inr ⟨rfl, rfl⟩, H.out, fun _ _ => rfl, fun _ => Iff.rfl, fun i j h1 h2 h3 => by omega⟩
 case round =>
  obtain ⟨i, D, rfl, hai, hib, hir, hmg⟩ := hrel
  have HM := hide hmg
  by_cases hi : i < b
  ·have hd : decide ((i : Int) < b) = true := by simpa using hi
   have HI := hide hir
   have HI0 : Hid (IR w0 B blk n cap wr (rot D i i (i + 1))) := by
    show IR _ _ _ _ _ _ _
    rw [rot_none D i i (i + 1) (Nat.le_refl _) (by omega) (.inl rfl)]; exact hir
   have HDS := hide (Mg.all hmg (by omega) HS.out)
   have HDX : Hid (∀ k, a ≤ k → k < i → D k < D i) := fun k k1 k2 => by
    obtain ⟨p, p1, p2, p3⟩ := (hmg.inn _).1 ⟨k, k1, k2, rfl⟩
    rw [← p3, hmg.out i (.inr (Nat.le_refl _))]
    exact HC.out p i p1 p2 hi
   clear hir hmg hib v1
   obtain ⟨W, rfl⟩ : ∃ W, W = wr := ⟨wr, rfl⟩
   go_wp2
   go_loopw [9] (fun r wr => ∃ j : Nat, r = .int .i64 j ∧ a ≤ j ∧ j ≤ i ∧ IR w0 B blk n cap wr (rot D j i (i + 1)) ∧ (j = i ∨ lt (D i) (D j))) (fun r _ => (intOf r).toNat)
   case atStart => exact ⟨i, rfl, by omega, Nat.le_refl _, HI0.out, .inl rfl⟩
   case round =>
    obtain ⟨j, rfl, haj, hji, hir, hlt⟩ := hrel
    have HLT := hide hlt
    have HJ := hide hir
    by_cases hj : a < j
    ·have hdj : decide ((j : Int) > a) = true := by simpa using hj
     have hdj2 : decide ((a : Int) < j) = true := by simpa using hj
     obtain ⟨t, hjt⟩ : ∃ t, j = t + 1 := ⟨j - 1, by omega⟩
     have HJT := hide hjt
     have v1 : IntKind.i64.wrap ((j : Int) - 1) = (t : Int) := by rw [IntWalk.i64_in _ (by omega)]; omega
     have e1 : rot D j i (i + 1) j = D i := by rw [rot_one D (Nat.le_refl _) (by omega)]; congr 1; omega
     have e2 : rot D j i (i + 1) t = D t := rot_out D hji (by omega) (.inl (by omega))
     have HSW := hide (fun q => hir.drew q)
     have c1 := hir.cell (k := j) (by omega)
     have c2 := hir.cell (k := t) (by omega)
     have HRD : Hid (swp (rot D j i (i + 1)) j t = rot D t i (i + 1)) := by rw [hjt]; exact rot_down D t i (by omega)
     rw [e1] at c1
     rw [e2] at c2
     have HQ1 := hide (HQ.out.quiet hir (D i) (D t) (HDS.out i (by omega)) (HDS.out t (by omega)))
     have hx := HDX.out t (by omega) (by omega)
     have HNEG := hide (HO.out.neg _ _ hx)
     have HPOS := hide (HO.out.pos _ _ hx)
     have i1 : (j : Int) < n := by omega
     have i2 : (t : Int) < n := by omega
     generalize hx1 : D i = x1 at *
     generalize hx2 : D t = x2 at *
     generalize kc x1 x2 = z at *
     have HX2 := hide hx2
     have HX1 := hide hx1
     have HE1 := hide e1
     have HE2 := hide e2
     clear hir hlt hx e1 e2 hx2 hx1 hjt
     by_cases hz : z < 0
     ·have hdz : decide (z < 0) = true := by simpa using hz
      have HN := hide (HNEG.out hz)
      clear HNEG HPOS hz
      go_wp2_with fail
      go_quiet ((exact HQ1.out _))
      obtain ⟨w2, hw2⟩ : ∃ w2, w2 = wr.drewN nq := ⟨_, rfl⟩
      rw [← hw2]
      have hir2 : IR w0 B blk n cap w2 (rot D j i (i + 1)) := by rw [hw2]; exact HSW.out nq
      have hjt : j ≠ t := by have := HJT.out; omega
      obtain ⟨c1, c2, z1, z2, c3, c4, z3, z4⟩ := hir2.swaps (i := j) (j := t) (by omega) (by omega) hjt
      have HS2 := hide (hir2.swap j t hjt)
      rw [HE1.out] at c1 c4 z4 HS2
      rw [HE2.out] at c2 c3 z3 HS2
      clear hir2 hw2 hjt
      go_wp2_with fail
      go_region
      have HR : Hid (∀ o, o = ((w2.setCell ⟨blk, j, none⟩ (.int .i64 (x2 : Int))).setCell ⟨blk, t, none⟩ (.int .i64 (x1 : Int))).drew → IR w0 B blk n cap o (rot D t i (i + 1))) := fun o e => by rw [e, ← HRD.out]; exact HS2.out.drew1
      clear c1 c2 z1 z2 c3 c4 z3 z4 HS2
      go_wp2
      have := HJT.out
      exact ⟨⟨t, rfl, by omega, by omega, HR.out _ rfl, .inr (by rw [HX2.out]; exact HN.out)⟩, by simp [intOf]; omega⟩
     ·have hdz : decide (z < 0) = false := by simpa using hz
      have HP := hide (HPOS.out hz)
      clear HNEG HPOS hz
      go_wp2_with fail
      go_quiet ((exact HQ1.out _))
      have HR : Hid (∀ o, o = wr.drewN nq → IR w0 B blk n cap o (rot D j i (i + 1))) := fun o e => by rw [e]; exact HSW.out nq
      have HFIN := hide (HM.out.more (by omega) (mg_down HO.out.tr HM.out.srd haj hji (.inr (by rw [show j - 1 = t by have := HJT.out; omega, HX2.out, HX1.out]; exact HP.out)) (by rw [HX1.out]; exact HLT.out)))
      go_wp2
      exact ⟨⟨i + 1, _, by go_num, by omega, .inl (by omega), HR.out _ rfl, HFIN.out⟩, by simp [intOf]; omega⟩
    ·have hdj : decide ((j : Int) > a) = false := by simpa using hj
     have hdj2 : decide ((a : Int) < j) = false := by simpa using hj
     have HFIN := hide (HM.out.more (by omega) (mg_down HO.out.tr HM.out.srd haj hji (.inl (by omega)) HLT.out))
     have HSW := hide (fun q => hir.drew q)
     clear hir hlt
     go_wp2_with fail
     go_quiet (fail)
     have HR : Hid (∀ o, o = wr.drewN nq → IR w0 B blk n cap o (rot D j i (i + 1))) := fun o e => by rw [e]; exact HSW.out nq
     go_wp2
     exact ⟨⟨i + 1, _, by go_num, by omega, .inl (by omega), HR.out _ rfl, HFIN.out⟩, by simp [intOf]; omega⟩
  ·have hd : decide ((i : Int) < b) = false := by simpa using hi
   go_wp2
   go_end0
   refine ⟨rfl, D, hir, ?_⟩
   rcases hib with c | ⟨c, rfl⟩
   ·obtain rfl : i = b := by omega
    exact hmg
   ·exact ⟨fun _ _ => rfl, fun _ => Iff.rfl, fun i j h1 h2 h3 => by omega⟩
end Go.Proofs.YtoohanojfoichaaGreatDoor
namespace Go.Proofs.YtoohanojfoichaaGreatDoor
open Go.RowKit Go.Maps
open Stb
set_option maxRecDepth 100000 in
set_option maxHeartbeats 1000000 in
theorem symMerge_up (w0 : World) (B blk n cap : Nat) (fn : Nat) (caps : Array Value) (kc : Nat → Nat → Int) (lt : Nat → Nat → Prop) (S : Nat → Prop) (a m b : Nat) (C : Nat → Nat) (w : World)
  (hen : ∀ (args : Array Value) (w : World), (callFunc fn args).run Tryz.prog w = .ok (.enter fn args) w) (hq : Cmps fn caps kc S w0 blk) (ho : Odr kc lt)
  (h : IR w0 B blk n cap w C) (hn : n ≤ 1000) (hm : m = a + 1) (hmb : m < b) (hb : b ≤ n) (hS : ∀ k, k < n → S (C k)) (h2 : Srd lt C m b) (hx : Idx C a m b) :
  Calls Tryz.prog 211 #[.slice (some ⟨blk, 0, none⟩) n cap, .int .i64 a, .int .i64 m, .int .i64 b, .func (.func fn) #[] caps] w fun e w' => e = .returned (.tuple #[]) ∧ ∃ D, IR w0 B blk n cap w' D ∧ Mg lt C D a b := by
 have H := hide h
 have HQ := hide hq
 have HO := hide ho
 have HS := hide hS
 have H2 := hide h2
 have HX := hide hx
 have HM := hide hm
 have v0 : IntKind.i64.wrap ((m : Int) - a) = 1 := by rw [IntWalk.i64_in _ (by omega)]; omega
 clear h hq ho hS h2 hx hm
 go_enter Tryz.func211, Tryz.ntmps211
 go_wp2
 go_loopw [10, 11, 12] (fun r10 r11 _ wr => ∃ i j : Nat, r10 = .int .i64 i ∧ r11 = .int .i64 j ∧ IR w0 B blk n cap wr C ∧ m ≤ i ∧ i ≤ j ∧ j ≤ b ∧ (i = m ∨ lt (C (i - 1)) (C a)) ∧ (j = b ∨ lt (C a) (C j))) (fun r10 r11 _ _ => (intOf r11).toNat - (intOf r10).toNat)
 case atStart => exact ⟨m, b, rfl, rfl, H.out, Nat.le_refl _, by omega, Nat.le_refl _, .inl rfl, .inl rfl⟩
 case round =>
  obtain ⟨i, j, rfl, rfl, hir, hmi, hij, hjb, hl, hr⟩ := hrel
  have HI := hide hir
  have HL := hide hl
  have HR := hide hr
  clear hl hr hir
  by_cases hlt : i < j
  ·have hd : decide ((i : Int) < j) = true := by simpa using hlt
   obtain ⟨t, ht⟩ : ∃ t, t = (i + j) / 2 := ⟨_, rfl⟩
   have vh : ((i : Int) + j) / 2 = (t : Int) := by omega
   have t1 : i ≤ t := by omega
   have t2 : t < j := by omega
   have c1 := HI.out.cell (k := t) (by omega)
   have c2 := HI.out.cell (k := a) (by have := HM.out; omega)
   have i1 : (t : Int) < n := by omega
   have i2 : (a : Int) < n := by have := HM.out; omega
   have hx := HX.out a t (Nat.le_refl _) (by have := HM.out; omega) (by omega) (by omega)
   have HNEG := hide (HO.out.neg _ _ hx)
   have HPOS := hide (HO.out.pos _ _ hx)
   have HQ1 := hide (HQ.out.quiet HI.out (C t) (C a) (HS.out t (by omega)) (HS.out a (by have := HM.out; omega)))
   generalize hx1 : C t = x1 at *
   generalize hx2 : C a = x2 at *
   generalize kc x1 x2 = z at *
   have HX1 := hide hx1
   clear hx1 hx2 hx ht
   by_cases hz : z < 0
   ·have hdz : decide (z < 0) = true := by simpa using hz
    have HN := hide (HNEG.out hz)
    clear HNEG HPOS hz
    go_wp2_with fail
    go_quiet ((exact HQ1.out _))
    have HI2 : Hid (∀ o, o = wr.drewN nq → IR w0 B blk n cap o C) := fun o e => by rw [e]; exact HI.out.drew nq
    go_wp2
    exact ⟨⟨t + 1, j, by go_num, rfl, HI2.out _ rfl, by omega, by omega, hjb, .inr (by rw [show t + 1 - 1 = t by omega, HX1.out]; exact HN.out), HR.out⟩, by simp [intOf]; omega⟩
   ·have hdz : decide (z < 0) = false := by simpa using hz
    have HP := hide (HPOS.out hz)
    clear HNEG HPOS hz
    go_wp2_with fail
    go_quiet ((exact HQ1.out _))
    have HI2 : Hid (∀ o, o = wr.drewN nq → IR w0 B blk n cap o C) := fun o e => by rw [e]; exact HI.out.drew nq
    go_wp2
    exact ⟨⟨i, t, rfl, rfl, HI2.out _ rfl, hmi, by omega, by omega, HL.out, .inr (by rw [HX1.out]; exact HP.out)⟩, by simp [intOf]; omega⟩
  ·have hd : decide ((i : Int) < j) = false := by simpa using hlt
   have hij' : i = j := by omega
   have HF : Hid (Mg lt C (rot C a m i) a b) := by
    have e := HM.out
    subst e
    exact mg_up HO.out.tr H2.out hmi (by omega) HL.out (by rw [hij']; exact HR.out)
   have HI0 := HI
   obtain ⟨s, hs⟩ : ∃ s, i = s + 1 := ⟨i - 1, by have := HM.out; omega⟩
   have HSI := hide hs
   have hsa : a ≤ s := by have := HM.out; omega
   have hsn : s < n := by omega
   have vs : IntKind.i64.wrap ((i : Int) - 1) = (s : Int) := by rw [IntWalk.i64_in _ (by omega)]; omega
   clear hij' hs HL HR hmi hij hjb
   obtain ⟨W, rfl⟩ : ∃ W, W = wr := ⟨wr, rfl⟩
   go_wp2
   go_loopw [13] (fun r wr => ∃ k : Nat, r = .int .i64 k ∧ a ≤ k ∧ k ≤ s ∧ IR w0 B blk n cap wr (rot C a m (k + 1))) (fun r _ => s - (intOf r).toNat)
   case atStart => exact ⟨a, rfl, Nat.le_refl _, hsa, by rw [rot_none C a m (a + 1) (by have := HM.out; omega) (by have := HM.out; omega) (.inr HM.out.symm)]; exact HI0.out⟩
   case round =>
    obtain ⟨k, rfl, hak, hks, hir⟩ := hrel
    by_cases hk : k < s
    ·have hdk : decide ((k : Int) < s) = true := by simpa using hk
     obtain ⟨p, hp⟩ : ∃ p, p = k + 1 := ⟨_, rfl⟩
     have vp : IntKind.i64.wrap ((k : Int) + 1) = (p : Int) := by rw [IntWalk.i64_in _ (by omega)]; omega
     have HP := hide hp
     obtain ⟨c1, c2, z1, z2, c3, c4, z3, z4⟩ := hir.swaps (i := k) (j := p) (by omega) (by omega) (by omega)
     have hsw := hir.swap k p (by omega)
     have e : swp (rot C a m (k + 1)) k p = rot C a m (p + 1) := by rw [HM.out, hp]; exact rot_up C a k hak
     rw [e] at hsw
     have HS2 := hide hsw
     have i1 : (k : Int) < n := by omega
     have i2 : (p : Int) < n := by omega
     generalize rot C a m (k + 1) k = x1 at *
     generalize rot C a m (k + 1) p = x2 at *
     clear hir hp e hsw
     go_wp2_with fail
     go_region
     have HR : Hid (∀ o, o = ((wr.setCell ⟨blk, k, none⟩ (.int .i64 (x2 : Int))).setCell ⟨blk, p, none⟩ (.int .i64 (x1 : Int))).drew → IR w0 B blk n cap o (rot C a m (p + 1))) := fun o e => by rw [e]; exact HS2.out.drew1
     clear c1 c2 z1 z2 c3 c4 z3 z4 HS2
     go_wp2
     have := HP.out
     exact ⟨⟨p, rfl, by omega, by omega, HR.out _ rfl⟩, by simp [intOf]; omega⟩
    ·have hdk : decide ((k : Int) < s) = false := by simpa using hk
     have HJ := hide hir
     have e : k = s := by omega
     have HE := hide e
     clear hir e
     go_wp2
     refine bodyPost_ret (results_none rfl _ _ _) rfl ?_
     exact ⟨rfl, _, HJ.out, by rw [HE.out, ← HSI.out]; exact HF.out⟩
set_option maxRecDepth 100000 in
set_option maxHeartbeats 1000000 in
theorem symMerge_down (w0 : World) (B blk n cap : Nat) (fn : Nat) (caps : Array Value) (kc : Nat → Nat → Int) (lt : Nat → Nat → Prop) (S : Nat → Prop) (a m b : Nat) (C : Nat → Nat) (w : World)
  (hen : ∀ (args : Array Value) (w : World), (callFunc fn args).run Tryz.prog w = .ok (.enter fn args) w) (hq : Cmps fn caps kc S w0 blk) (ho : Odr kc lt)
  (h : IR w0 B blk n cap w C) (hn : n ≤ 1000) (ham : a + 1 < m) (hm : b = m + 1) (hb : b ≤ n) (hS : ∀ k, k < n → S (C k)) (h1 : Srd lt C a m) (hx : Idx C a m b) :
  Calls Tryz.prog 211 #[.slice (some ⟨blk, 0, none⟩) n cap, .int .i64 a, .int .i64 m, .int .i64 b, .func (.func fn) #[] caps] w fun e w' => e = .returned (.tuple #[]) ∧ ∃ D, IR w0 B blk n cap w' D ∧ Mg lt C D a b := by
 have H := hide h
 have HQ := hide hq
 have HO := hide ho
 have HS := hide hS
 have H1 := hide h1
 have HX := hide hx
 have HM := hide hm
 have hmn : m < n := by omega
 obtain ⟨d, hd⟩ : ∃ d, d = m - a := ⟨_, rfl⟩
 have v0 : IntKind.i64.wrap ((m : Int) - a) = (d : Int) := by rw [IntWalk.i64_in _ (by omega)]; omega
 have v1 : ((d : Int) == 1) = false := by simp; omega
 have v1' : ¬ d = 1 := by omega
 have v2 : IntKind.i64.wrap ((b : Int) - m) = 1 := by rw [IntWalk.i64_in _ (by omega)]; omega
 clear h hq ho hS h1 hx hm hd
 go_enter Tryz.func211, Tryz.ntmps211
 go_wp2
 go_loopw [14, 15, 16] (fun r10 r11 _ wr => ∃ i j : Nat, r10 = .int .i64 i ∧ r11 = .int .i64 j ∧ IR w0 B blk n cap wr C ∧ a ≤ i ∧ i ≤ j ∧ j ≤ m ∧ (i = a ∨ lt (C (i - 1)) (C m)) ∧ (j = m ∨ lt (C m) (C j))) (fun r10 r11 _ _ => (intOf r11).toNat - (intOf r10).toNat)
 case atStart => exact ⟨a, m, rfl, rfl, H.out, Nat.le_refl _, by omega, Nat.le_refl _, .inl rfl, .inl rfl⟩
 case round =>
  obtain ⟨i, j, rfl, rfl, hir, hmi, hij, hjb, hl, hr⟩ := hrel
  have HI := hide hir
  have HL := hide hl
  have HR := hide hr
  clear hl hr hir
  by_cases hlt : i < j
  ·have hd : decide ((i : Int) < j) = true := by simpa using hlt
   obtain ⟨t, ht⟩ : ∃ t, t = (i + j) / 2 := ⟨_, rfl⟩
   have vh : ((i : Int) + j) / 2 = (t : Int) := by omega
   have t1 : i ≤ t := by omega
   have t2 : t < j := by omega
   have c1 := HI.out.cell (k := m) hmn
   have c2 := HI.out.cell (k := t) (by omega)
   have i1 : (t : Int) < n := by omega
   have i2 : (m : Int) < n := by omega
   have hx := HX.out t m (by omega) (by omega) (by omega) (by have := HM.out; omega)
   have HNEG := hide (HO.out.neg _ _ hx)
   have HPOS := hide (HO.out.pos _ _ hx)
   have HQ1 := hide (HQ.out.quiet HI.out (C m) (C t) (HS.out m hmn) (HS.out t (by omega)))
   generalize hx1 : C t = x1 at *
   generalize hx2 : C m = x2 at *
   generalize kc x2 x1 = z at *
   have HX1 := hide hx1
   clear hx1 hx2 hx ht
   by_cases hz : z < 0
   ·have hdz : decide (z < 0) = true := by simpa using hz
    have HN := hide (HNEG.out hz)
    clear HNEG HPOS hz
    go_wp2_with fail
    go_quiet ((exact HQ1.out _))
    have HI2 : Hid (∀ o, o = wr.drewN nq → IR w0 B blk n cap o C) := fun o e => by rw [e]; exact HI.out.drew nq
    go_wp2
    exact ⟨⟨i, t, rfl, rfl, HI2.out _ rfl, hmi, by omega, by omega, HL.out, .inr (by rw [HX1.out]; exact HN.out)⟩, by simp [intOf]; omega⟩
   ·have hdz : decide (z < 0) = false := by simpa using hz
    have HP := hide (HPOS.out hz)
    clear HNEG HPOS hz
    go_wp2_with fail
    go_quiet ((exact HQ1.out _))
    have HI2 : Hid (∀ o, o = wr.drewN nq → IR w0 B blk n cap o C) := fun o e => by rw [e]; exact HI.out.drew nq
    go_wp2
    exact ⟨⟨t + 1, j, by go_num, rfl, HI2.out _ rfl, by omega, by omega, hjb, .inr (by rw [show t + 1 - 1 = t by omega, HX1.out]; exact HP.out), HR.out⟩, by simp [intOf]; omega⟩
  ·have hd : decide ((i : Int) < j) = false := by simpa using hlt
   have hij' : i = j := by omega
   have him : i ≤ m := by omega
   have HF : Hid (Mg lt C (rot C i m b) a b) := by
    have e := HM.out
    subst e
    exact mg_down HO.out.tr H1.out hmi (by omega) HL.out (by rw [hij']; exact HR.out)
   clear hij' HL HR hij hjb
   obtain ⟨W, rfl⟩ : ∃ W, W = wr := ⟨wr, rfl⟩
   go_wp2
   go_loopw [17] (fun r wr => ∃ k : Nat, r = .int .i64 k ∧ i ≤ k ∧ k ≤ m ∧ IR w0 B blk n cap wr (rot C k m b)) (fun r _ => (intOf r).toNat)
   case atStart => exact ⟨m, rfl, him, Nat.le_refl _, by rw [rot_none C m m b (Nat.le_refl _) (by have := HM.out; omega) (.inl rfl)]; exact HI.out⟩
   case round =>
    obtain ⟨k, rfl, hak, hks, hir⟩ := hrel
    by_cases hk : i < k
    ·have hdk : decide ((k : Int) > i) = true := by simpa using hk
     have hdk2 : decide ((i : Int) < k) = true := by simpa using hk
     obtain ⟨p, hp⟩ : ∃ p, k = p + 1 := ⟨k - 1, by omega⟩
     have vp : IntKind.i64.wrap ((k : Int) - 1) = (p : Int) := by rw [IntWalk.i64_in _ (by omega)]; omega
     have HP := hide hp
     obtain ⟨c1, c2, z1, z2, c3, c4, z3, z4⟩ := hir.swaps (i := k) (j := p) (by omega) (by omega) (by omega)
     have hsw := hir.swap k p (by omega)
     have e : swp (rot C k m b) k p = rot C p m b := by rw [HM.out, hp]; exact rot_down C p m (by omega)
     rw [e] at hsw
     have HS2 := hide hsw
     have i1 : (k : Int) < n := by omega
     have i2 : (p : Int) < n := by omega
     generalize rot C k m b k = x1 at *
     generalize rot C k m b p = x2 at *
     clear hir hp e hsw
     go_wp2_with fail
     go_region
     have HR : Hid (∀ o, o = ((wr.setCell ⟨blk, k, none⟩ (.int .i64 (x2 : Int))).setCell ⟨blk, p, none⟩ (.int .i64 (x1 : Int))).drew → IR w0 B blk n cap o (rot C p m b)) := fun o e => by rw [e]; exact HS2.out.drew1
     clear c1 c2 z1 z2 c3 c4 z3 z4 HS2
     go_wp2
     have := HP.out
     exact ⟨⟨p, rfl, by omega, by omega, HR.out _ rfl⟩, by simp [intOf]; omega⟩
    ·have hdk : decide ((k : Int) > i) = false := by simpa using hk
     have hdk2 : decide ((i : Int) < k) = false := by simpa using hk
     have HJ := hide hir
     have e : k = i := by omega
     have HE := hide e
     clear hir e
     go_wp2
     refine bodyPost_ret (results_none rfl _ _ _) rfl ?_
     exact ⟨rfl, _, HJ.out, by rw [HE.out]; exact HF.out⟩
end Go.Proofs.YtoohanojfoichaaGreatDoor
namespace Go.Proofs.YtoohanojfoichaaGreatDoor
open Go.RowKit Go.Maps
open Nam Tre
namespace Tre
def nam (l : List Nod) : Int := if wrong l ≠ 0 then wrong l else if l.any deep = true then 9 else if ¬ (l.map Nod.names).Nodup then 6 else 0
theorem fi_at (p : Nod → Bool) : ∀ (l : List Nod) (o i : Nat) (h : i < l.length), p l[i] = true → ∃ j, fi p o l = ((o + j : Nat) : Int) ∧ j ≤ i ∧ ∃ (hj : j < l.length), p l[j] = true ∧ ∀ t (ht : t < j), p (l[t]'(by omega)) = false
 | n :: r, o, i, h, hp => by
  unfold fi
  cases hn : p n with
  | true => exact ⟨0, by simp, Nat.zero_le _, by simp, hn, fun t ht => by omega⟩
  | false =>
   cases i with
   | zero => simp only [List.getElem_cons_zero] at hp; rw [hn] at hp; cases hp
   | succ i =>
    simp only [List.getElem_cons_succ] at hp
    obtain ⟨j, h1, h2, h3, h4, h5⟩ := fi_at p r (o + 1) i (by simpa using h) hp
    refine ⟨j + 1, by simp only [Bool.false_eq_true, if_false]; rw [h1]; congr 1; omega, by omega, by simp; omega, by simpa using h4, fun t ht => ?_⟩
    cases t with
    | zero => simpa using hn
    | succ t => simpa using h5 t (by omega)
theorem take_nodup {l : List Nod} {i : Nat} (h : i < l.length) (hn : ((l.take i).map Nod.names).Nodup) (hf : ¬ fi (nmd l[i].names) 0 l < (i : Int)) : ((l.take (i + 1)).map Nod.names).Nodup := by
 obtain ⟨j, h1, h2, h3, h4, h5⟩ := fi_at (nmd l[i].names) l 0 i h (by simp [nmd])
 rw [Nat.zero_add] at h1
 have hj : j = i := by omega
 subst hj
 rw [List.take_succ_eq_append_getElem h, List.map_append, List.nodup_append]
 refine ⟨hn, by simp, fun a ha b hb => ?_⟩
 simp only [List.map_cons, List.map_nil, List.mem_singleton] at hb
 rw [List.mem_map] at ha
 obtain ⟨x, hx, rfl⟩ := ha
 rw [List.mem_take_iff_getElem] at hx
 obtain ⟨t, ht, rfl⟩ := hx
 rw [hb]
 have := h5 t (by omega)
 simpa [nmd] using this
theorem not_nodup {l : List Nod} {i : Nat} (h : i < l.length) (hf : fi (nmd l[i].names) 0 l < (i : Int)) : ¬ (l.map Nod.names).Nodup := by
 obtain ⟨j, h1, h2, h3, h4, h5⟩ := fi_at (nmd l[i].names) l 0 i h (by simp [nmd])
 rw [Nat.zero_add] at h1
 intro hn
 have hne : j ≠ i := by omega
 rw [List.Nodup, List.pairwise_iff_getElem] at hn
 have := hn j i (by simpa using h3) (by simpa using h) (by omega)
 simp only [List.getElem_map] at this
 exact this (by simpa [nmd] using h4)
end Tre
set_option maxRecDepth 100000 in
set_option maxHeartbeats 1000000 in
theorem named_any (a : Option Addr) (n c : Nat) (L : List (Nv × Nod)) (w : World) (hl : Ns w a n L) (hc : n ≤ c) (hcm : c ≤ 9223372036854775807) (h20 : ∀ p ∈ L, p.2.names.length ≤ 1000000) :
  Calls Tryz.prog 104 #[.slice a n c] w fun e w' => e = .returned (.int .i64 (nam (nds L))) ∧ ∃ q, w' = w.drewN q := by
 have HL := hide hl
 have HLN := hide hl.1
 have H20 := hide h20
 clear hl h20
 go_enter Tryz.func104, Tryz.ntmps104
 go_wp2
 go_loopw [3, 4, 5] (fun r _ _ wr => ∃ i q : Nat, wr = w.drewN q ∧ r = .int .i64 i ∧ i ≤ n ∧ wrong (nds L) = wrong ((nds L).drop i)) (fun r _ _ _ => n - (intOf r).toNat)
 case atStart => exact ⟨0, 0, rfl, rfl, Nat.zero_le _, rfl⟩
 case round =>
  obtain ⟨i, q, rfl, rfl, hi0, hinv⟩ := hrel
  have HI := hide hinv
  by_cases hi : i < n
  ·have hd : decide ((i : Int) < n) = true := by simpa using hi
   obtain ⟨ba, oa, rfl, hba, hca⟩ := HL.out.at (by omega)
   have HE := hide (nds_drop L i (by rw [HLN.out]; exact hi))
   have hr := HL.out.rep i hi
   obtain ⟨na, nn, nc, c0', hN, n1, n2⟩ : ∃ na nn nc, w.cell? ⟨ba, oa + i * 10, none⟩ = some (.slice na nn nc) ∧ Rs w na nn (gl L i).2.names ∧ nn ≤ nc ∧ nc ≤ 9223372036854775807 := ⟨_, _, _, (hca i hi).c0, hr.names, hr.nc, hr.ncm⟩
   have HN := hide hN
   have HNN := hide hN.1
   have hi' : (i : Int) < n := by omega
   clear hca hinv hr hN
   go_wp2
   go_loopw [4, 5] (fun r _ ws => ∃ k q : Nat, ws = w.drewN q ∧ r = .int .i64 k ∧ k ≤ nn ∧ fv (gl L i).2.names = fv ((gl L i).2.names.drop k)) (fun r _ _ => nn - (intOf r).toNat)
   case atStart => exact ⟨0, q, rfl, rfl, Nat.zero_le _, rfl⟩
   case round =>
    obtain ⟨k, q2, rfl, rfl, hk0, hinv2⟩ := hrel
    have HI2 := hide hinv2
    by_cases hk : k < nn
    ·have hd2 : decide ((k : Int) < nn) = true := by simpa using hk
     obtain ⟨bb, ob, rfl, hbb, hcb⟩ := HN.out.at (by omega)
     have d1 := hcb k hk
     have HE2 := hide (fv_drop (gl L i).2.names k (by rw [HNN.out]; exact hk))
     obtain ⟨z, hz⟩ : ∃ z, valid (gs (gl L i).2.names k).toList = z := ⟨_, rfl⟩
     have HZ := hide hz
     clear hcb hinv2 hz
     go_wp2_with (go_at_call 154; refine (refValid_any _ _).mono ?_)
     rw [HZ.out]
     rintro e w2 ⟨rfl, rfl⟩
     by_cases hzz : z = 0
     ·have hz1 : (z != 0) = false := by simp [hzz]
      have HZZ := hide hzz
      clear hzz
      go_wp2
      refine ⟨⟨k + 1, q2, rfl, by go_num, by omega, ?_⟩, by simp [intOf]; omega⟩
      rw [HI2.out, HE2.out, HZ.out, if_pos HZZ.out]
     ·have hz1 : (z != 0) = true := by simpa using hzz
      have HZZ := hide hzz
      clear hzz
      go_wp2
      go_ret
      refine ⟨ret_int ?_, q2, rfl⟩
      have hfv : fv (gl L i).2.names = z := by rw [HI2.out, HE2.out, HZ.out, if_neg HZZ.out]
      have hw : wrong (nds L) = z := by rw [HI.out, HE.out, wrong, hfv, if_neg HZZ.out]
      rw [nam, if_pos (by rw [hw]; exact HZZ.out), hw]
    ·have hd2 : decide ((k : Int) < nn) = false := by simpa using hk
     go_wp2
     refine ⟨⟨i + 1, q2, rfl, by go_num, by omega, ?_⟩, by simp [intOf]; omega⟩
     have hfv : fv (gl L i).2.names = 0 := by rw [HI2.out, List.drop_eq_nil_of_le (by rw [HNN.out]; omega)]; rfl
     rw [HI.out, HE.out, wrong, if_pos hfv]
  ·have hd : decide ((i : Int) < n) = false := by simpa using hi
   have HW : Hid (wrong (nds L) = 0) := by
    show _ = _
    rw [HI.out, List.drop_eq_nil_of_le (by rw [nds_length, HLN.out]; omega)]; rfl
   clear hinv
   go_wp2
   go_loopw [6] (fun r wr => ∃ i q : Nat, wr = w.drewN q ∧ r = .int .i64 i ∧ i ≤ n ∧ (nds L).any deep = ((nds L).drop i).any deep) (fun r _ => n - (intOf r).toNat)
   case atStart => exact ⟨0, q, rfl, rfl, Nat.zero_le _, rfl⟩
   case round =>
    obtain ⟨i, q, rfl, rfl, hi0, hinv⟩ := hrel
    have HI := hide hinv
    by_cases hi : i < n
    ·have hd : decide ((i : Int) < n) = true := by simpa using hi
     obtain ⟨ba, oa, rfl, hba, hca⟩ := HL.out.at (by omega)
     have HE := hide (nds_drop L i (by rw [HLN.out]; exact hi))
     have hr := HL.out.rep i hi
     have c0 := (hca i hi).c0
     have hi' : (i : Int) < n := by omega
     have hdp : deep (gl L i).2 = decide ((16 : Int) < (gl L i).1.nn) := by
      rw [deep, hr.names.1, Bool.eq_iff_iff, decide_eq_true_eq, decide_eq_true_eq]; omega
     clear hca hinv hr
     by_cases h16 : (16 : Int) < (gl L i).1.nn
     ·have HQ : Hid ((nds L).any deep = true) := by
       show _ = _
       rw [HI.out, HE.out, List.any_cons, hdp, decide_eq_true h16]; rfl
      clear hdp
      go_wp2
      go_ret
      refine ⟨ret_int ?_, q, rfl⟩
      rw [nam, if_neg (by rw [HW.out]; simp), if_pos HQ.out]
     ·have HQ : Hid ((nds L).any deep = ((nds L).drop (i + 1)).any deep) := by
       show _ = _
       rw [HI.out, HE.out, List.any_cons, hdp, decide_eq_false h16]; rfl
      clear hdp
      go_wp2
      exact ⟨⟨i + 1, q, rfl, by go_num, by omega, HQ.out⟩, by simp [intOf]; omega⟩
    ·have hd : decide ((i : Int) < n) = false := by simpa using hi
     have HD : Hid ((nds L).any deep = false) := by
      show _ = _
      rw [HI.out, List.drop_eq_nil_of_le (by rw [nds_length, HLN.out]; omega)]; rfl
     clear hinv
     go_wp2
     go_loopw [7] (fun r wr => ∃ i q : Nat, wr = w.drewN q ∧ r = .int .i64 i ∧ i ≤ n ∧ (((nds L).take i).map Nod.names).Nodup) (fun r _ => n - (intOf r).toNat)
     case atStart => exact ⟨0, q, rfl, rfl, Nat.zero_le _, by simp⟩
     case round =>
      obtain ⟨i, q, rfl, rfl, hi0, hinv⟩ := hrel
      have HI := hide hinv
      by_cases hi : i < n
      ·have hd : decide ((i : Int) < n) = true := by simpa using hi
       obtain ⟨ba, oa, rfl, hba, hca⟩ := HL.out.at (by omega)
       have hr := HL.out.rep i hi
       have c0 := (hca i hi).c0
       have hi' : (i : Int) < n := by omega
       have hlt : i < (nds L).length := by rw [nds_length, HLN.out]; exact hi
       have hget : (nds L)[i] = (gl L i).2 := by rw [gl_lt L i (by rw [HLN.out]; exact hi)]; simp [nds]
       have HF := hide (refFind_any (some ⟨ba, oa, none⟩) n c L (gl L i).1.na (gl L i).1.nn (gl L i).1.nc (gl L i).2.names (w.drewN q) (HL.out.below (drewN_below w q)) hc hcm (hr.names.drewN q) H20.out)
       have T1 := hide (fun h => take_nodup hlt HI.out h)
       have T2 := hide (fun h => not_nodup hlt h)
       rw [hget] at T1 T2
       generalize fi (nmd (gl L i).2.names) 0 (nds L) = z at *
       clear hca hinv hr hget
       by_cases hz : z < (i : Int)
       ·have HN : Hid (nam (nds L) = 6) := by
         show _ = _
         rw [nam, if_neg (by rw [HW.out]; simp), if_neg (by rw [HD.out]; simp), if_pos (T2.out hz)]
        go_wp2_with (go_at_call 155; refine HF.out.mono ?_; rintro e w2 ⟨rfl, q2, rfl⟩)
        go_ret
        exact ⟨ret_int HN.out.symm, _, rfl⟩
       ·go_wp2_with (go_at_call 155; refine HF.out.mono ?_; rintro e w2 ⟨rfl, q2, rfl⟩)
        exact ⟨⟨i + 1, q + q2, by simp, by go_num, by omega, T1.out hz⟩, by simp [intOf]; omega⟩
      ·have hd : decide ((i : Int) < n) = false := by simpa using hi
       have HN : Hid (nam (nds L) = 0) := by
        show _ = _
        rw [List.take_of_length_le (by rw [nds_length, HLN.out]; omega)] at hinv
        rw [nam, if_neg (by rw [HW.out]; simp), if_neg (by rw [HD.out]; simp), if_neg (by simpa using hinv)]
       clear hinv
       go_wp2
       go_ret
       exact ⟨ret_int HN.out.symm, q, rfl⟩
end Go.Proofs.YtoohanojfoichaaGreatDoor
namespace Go.Proofs.YtoohanojfoichaaGreatDoor
open Go.RowKit Go.Maps
open Nam Tre
open Lz (g)
theorem attrNeq (w : World) (x y z x' y' z' : Int) : (binOp .neq 45 (.agg #[.int .i64 x, .int .i64 y, .int .i64 z]) (.agg #[.int .i64 x', .int .i64 y', .int .i64 z'])).run Tryz.prog w = .ok (.bool (!decide (x = x' ∧ y = y' ∧ z = z'))) w := by
 have u3 := Tryz.underlying3
 have a3 := Tryz.isAgg3
 have z3 := Tryz.sizeOf3
 have hS : Tryz.prog.underlying 45 = some (.struct (Tryz.prog.fieldsOf 45)) := by kernel_rfl
 have hp : Tryz.prog.stoodInHeld 45 = false := by kernel_rfl
 rw [run_neq_struct, show (10000 : Nat) = 9999 + 1 from rfl, run_equalIn_agg w 9999 45 _ _ hS hp]
 simp only [Program.fieldsOf, Tryz.underlying45]
 go_simp
 by_cases h1 : x = x' <;> by_cases h2 : y = y' <;> by_cases h3 : z = z' <;> simp [h1, h2, h3]
theorem bne_of {a b : Int} {q : Bool} (h : (a == b) = q) : (a != b) = !q := by rw [bne, h]
theorem str_conv0 {w w0 : World} {a : Option Addr} {n : Nat} {x : List Int} (hx : Bs w0 a n x) (h0 : Below w0.heap.size w0 w) (c : Nat) : (convert 25 9 (.slice a n c)).run Tryz.prog w = .ok (.string (strOfNums x)) w :=
 str_any (hx.below h0) c
set_option maxRecDepth 100000 in
set_option maxHeartbeats 1000000 in
theorem refAlike_any (v u : Nv) (x y : Nod) (w : World) (hv : Rep w v x) (hu : Rep w u y) :
  Calls Tryz.prog 29 #[.agg v.cells, .agg u.cells] w fun e w' => e = .returned (.bool (alike x y)) ∧ Below w.heap.size w w' := by
 obtain ⟨a, ha⟩ : ∃ q, (v.kind == u.kind) = q := ⟨_, rfl⟩
 obtain ⟨b, hb⟩ : ∃ q, decide (v.mode = u.mode ∧ v.uid = u.uid ∧ v.gid = u.gid) = q := ⟨_, rfl⟩
 obtain ⟨c, hc⟩ : ∃ q, (v.tg.toList == u.tg.toList) = q := ⟨_, rfl⟩
 obtain ⟨d, hd⟩ : ∃ q, (v.op == u.op) = q := ⟨_, rfl⟩
 obtain ⟨e, he⟩ : ∃ q, decide (x.data = y.data) = q := ⟨_, rfl⟩
 obtain ⟨f, hf⟩ : ∃ q, decide (x.xs = y.xs) = q := ⟨_, rfl⟩
 have HA := hide (alike_rep hv hu a b c d e f ha hb hc hd he hf)
 have hA : ∀ W : World, (binOp .neq 45 (.agg #[.int .i64 v.mode, .int .i64 v.uid, .int .i64 v.gid]) (.agg #[.int .i64 u.mode, .int .i64 u.uid, .int .i64 u.gid])).run Tryz.prog W = .ok (.bool (!b)) W := fun W => by rw [attrNeq, hb]
 have ha' := bne_of ha
 have HE := hide ((str_eq hv.data.bytes hu.data.bytes).trans he)
 have s1 := fun o p => str_conv0 hv.data (below_alloc2 w o p) v.dc
 have s2 := fun o p => str_conv0 hu.data (below_alloc2 w o p) u.dc
 have HE' := HE.out
 generalize strOfNums x.data = S1 at s1 HE'
 generalize strOfNums y.data = S2 at s2 HE'
 clear HE
 have HV := hide hv
 have HU := hide hu
 have HF := hide hf
 have x1 := hv.xc
 have x2 := hv.xcm
 clear hv hu he hf hb
 unfold Nv.cells
 cases a with
 | false =>
  go_enter Tryz.func29, Tryz.ntmps29
  go_wp2
  go_ret
  exact ⟨ret_bool (by rw [HA.out]; rfl), below_alloc2 w _ _⟩
 | true =>
 cases b with
 | false =>
  go_enter Tryz.func29, Tryz.ntmps29
  go_wp2
  go_ret
  exact ⟨ret_bool (by rw [HA.out]; rfl), below_alloc2 w _ _⟩
 | true =>
 cases e with
 | false =>
  go_enter Tryz.func29, Tryz.ntmps29
  go_wp2
  go_ret
  exact ⟨ret_bool (by rw [HA.out]; cases c <;> cases d <;> rfl), below_alloc2 w _ _⟩
 | true =>
 cases c with
 | false =>
  go_enter Tryz.func29, Tryz.ntmps29
  go_wp2
  go_ret
  exact ⟨ret_bool (by rw [HA.out]; rfl), below_alloc2 w _ _⟩
 | true =>
 cases d with
 | false =>
  have hd' : (v.op != u.op) = true := by rw [bne, hd]; rfl
  go_enter Tryz.func29, Tryz.ntmps29
  go_wp2
  go_ret
  exact ⟨ret_bool (by rw [HA.out]; rfl), below_alloc2 w _ _⟩
 | true =>
 have hd' : (v.op != u.op) = false := by rw [bne, hd]; rfl
 have HLN := hide HV.out.xs.1
 have HKN := hide HU.out.xs.1
 by_cases hnm : v.xn = u.xn
 ·have hn' : ((v.xn : Int) != u.xn) = false := by simp; omega
  have HNM := hide hnm
  obtain ⟨W, hW⟩ : ∃ W, W = (w.alloc (.cells v.cells 48)).alloc (.cells u.cells 48) := ⟨_, rfl⟩
  have HW := hide hW
  have hbel : Hid (Below w.heap.size w W) := by show Below _ _ _; rw [hW]; exact below_alloc2 w _ _
  have g1 : W.cell? ⟨w.heap.size, 8, none⟩ = some (.slice v.xa v.xn v.xc) := by rw [hW]; simp [Nv.cells]
  have g2 : W.cell? ⟨w.heap.size + 1, 8, none⟩ = some (.slice u.xa u.xn u.xc) := by rw [hW]; simp [Nv.cells]
  clear hW hnm
  go_enter Tryz.func29, Tryz.ntmps29
  go_wp2
  go_loopw [5] (fun r wr => ∃ i q : Nat, wr = W.drewN q ∧ r = .int .i64 i ∧ i ≤ v.xn ∧ (x.xs = y.xs ↔ x.xs.drop i = y.xs.drop i)) (fun r _ => v.xn - (intOf r).toNat)
  case atStart => exact ⟨0, 0, HW.out.symm, rfl, Nat.zero_le _, Iff.rfl⟩
  case round =>
   obtain ⟨i, q, rfl, rfl, hi0, hinv⟩ := hrel
   have HI := hide hinv
   by_cases hp : i < v.xn
   ·have hd0 : decide ((i : Int) < v.xn) = true := by simpa using hp
    have hp2 : i < u.xn := by rw [← HNM.out]; exact hp
    have hp3 : (i : Int) < u.xn := by omega
    obtain ⟨ba, oa, ea, hba, hca⟩ := (HV.out.xs.below hbel.out).at (by omega)
    obtain ⟨bb, ob, eb, hbb, hcb⟩ := (HU.out.xs.below hbel.out).at (by omega)
    obtain ⟨c1, va, vn, vc, c2, b1, _⟩ := hca i hp
    obtain ⟨c3, ua, un, uc, c4, b2, _⟩ := hcb i hp2
    rw [ea] at g1
    rw [eb] at g2
    have r1 : ∀ k, (convert 25 9 (.slice va vn vc)).run Tryz.prog (W.drewN k) = .ok (.string (strOfNums (gx x.xs i).2)) (W.drewN k) := fun k => str_any (b1.below (drewN_below W k)) vc
    have r2 : ∀ k, (convert 25 9 (.slice ua un uc)).run Tryz.prog (W.drewN k) = .ok (.string (strOfNums (gx y.xs i).2)) (W.drewN k) := fun k => str_any (b2.below (drewN_below W k)) uc
    have ES := hide (xs_step (l := x.xs) (k := y.xs) (i := i) (by rw [HLN.out]; exact hp) (by rw [HKN.out]; exact hp2))
    have HSE := hide (str_eq b1.bytes b2.bytes)
    have HSE' := HSE.out
    generalize strOfNums (gx x.xs i).2 = T1 at r1 HSE'
    generalize strOfNums (gx y.xs i).2 = T2 at r2 HSE'
    have HSQ := hide HSE'
    clear hca hcb b1 b2 hinv HSE HSE' s1 s2
    obtain ⟨q1, hq1⟩ : ∃ q, ((gx x.xs i).1.toList == (gx y.xs i).1.toList) = q := ⟨_, rfl⟩
    cases q1 with
    | false =>
     have hq2 : (!(gx x.xs i).1.toList == (gx y.xs i).1.toList) = true := by rw [hq1]; rfl
     have HQ : Hid (f = false) := by
      show _ = _
      rw [← HF.out, decide_eq_false_iff_not, HI.out, ES.out]
      intro h
      rw [h.1] at hq1
      simp at hq1
     go_wp2
     go_quiet (fail)
     go_wp2
     go_ret
     refine ⟨ret_bool (by rw [HA.out, HQ.out]; rfl), ?_⟩
     simp only [World.drewN_drewN]
     exact hbel.out.trans (drewN_below _ _)
    | true =>
     have hq2 : (!(gx x.xs i).1.toList == (gx y.xs i).1.toList) = false := by rw [hq1]; rfl
     have HN1 : Hid ((gx x.xs i).1 = (gx y.xs i).1) := toList_inj (by simpa using hq1)
     go_wp2
     go_quiet (fail)
     go_wp2
     ·have e : (!T1.toList == T2.toList) = true := by assumption
      have HQ : Hid (f = false) := by
       show _ = _
       rw [← HF.out, decide_eq_false_iff_not, HI.out, ES.out]
       intro h
       rw [HSQ.out, h.1] at e
       simp at e
      go_ret
      refine ⟨ret_bool (by rw [HA.out, HQ.out]; rfl), ?_⟩
      simp only [World.drewN_drewN]
      exact hbel.out.trans (drewN_below _ _)
     ·have e : (!T1.toList == T2.toList) = false := by assumption
      refine ⟨⟨i + 1, _, rfl, by go_num, by omega, ?_⟩, by simp [intOf]; omega⟩
      rw [HI.out, ES.out]
      rw [HSQ.out] at e
      have e2 : (gx x.xs i).2 = (gx y.xs i).2 := by simpa using e
      have : gx x.xs i = gx y.xs i := Prod.ext HN1.out e2
      simp [this]
   ·have hd0 : decide ((i : Int) < v.xn) = false := by simpa using hp
    have HQ : Hid (f = true) := by
     show _ = _
     rw [← HF.out, decide_eq_true_eq, HI.out, List.drop_eq_nil_of_le (by rw [HLN.out]; omega), List.drop_eq_nil_of_le (by rw [HKN.out]; have := HNM.out; omega)]
    go_wp2
    go_ret
    refine ⟨ret_bool (by rw [HA.out, HQ.out]; rfl), hbel.out.trans (drewN_below _ _)⟩
 ·have hn' : ((v.xn : Int) != u.xn) = true := by simp; omega
  have HN : Hid (f = false) := by
   show _ = _
   rw [← HF.out, decide_eq_false_iff_not]
   intro h
   have := congrArg List.length h
   rw [HLN.out, HKN.out] at this
   exact hnm this
  go_enter Tryz.func29, Tryz.ntmps29
  go_wp2
  go_ret
  exact ⟨ret_bool (by rw [HA.out, HN.out]; rfl), below_alloc2 w _ _⟩
end Go.Proofs.YtoohanojfoichaaGreatDoor

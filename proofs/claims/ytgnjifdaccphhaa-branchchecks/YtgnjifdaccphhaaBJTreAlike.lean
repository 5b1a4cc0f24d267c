import Derived.Test.YtgnjifdaccphhaaBJNamRow
import Derived.Laws.StructEq
import Derived.Stop.BytesEq
set_option linter.unusedVariables false
namespace Go.Proofs.Ytgnjifdaccphhaa
open Go.RowKit Go.Maps
open Nam Tre
open Lz (g)
theorem bytesEqual_any (a b : Option Addr) (n c m d : Nat) (x y : List Int) (w : World) (hx : Bs w a n x) (hy : Bs w b m y) :
  Calls Try.prog 32 #[.slice a n c, .slice b m d] w fun e w' => e = .returned (.bool (decide (x = y))) ∧ w' = w := by
 have s1 := str_any hx c
 have s2 := str_any hy d
 have HE := hide (str_eq hx.bytes hy.bytes)
 clear hx hy
 go_enter Try.func32, Try.ntmps32
 go_wp2
 go_ret
 exact ⟨ret_bool HE.out, rfl⟩
theorem byt_eq (s t : ByteArray) : (s.toList == t.toList) = decide (s = t) := by
 rw [Bool.eq_iff_iff, beq_iff_eq, decide_eq_true_eq]
 exact ⟨toList_inj, fun h => by rw [h]⟩
set_option maxRecDepth 100000 in
theorem sameXattr_any (s t : ByteArray) (a b : Option Addr) (n c m d : Nat) (x y : List Int) (w : World) (hx : Bs w a n x) (hy : Bs w b m y) :
  Calls Try.prog 34 #[.agg #[.string s, .slice a n c], .agg #[.string t, .slice b m d]] w fun e w' => e = .returned (.bool (decide ((s, x) = (t, y)))) ∧ Below w.heap.size w w' := by
 have HX := hide hx
 have HY := hide hy
 clear hx hy
 by_cases h : s = t
 ·subst h
  have h1 : (s.toList == s.toList) = true := by simp
  go_enter Try.func34, Try.ntmps34
  go_wp2_with (go_at_call 32; refine (bytesEqual_any a b n c m d x y _ ((HX.out.alloc _).alloc _) ((HY.out.alloc _).alloc _)).mono ?_; rintro e w' ⟨rfl, rfl⟩)
  go_ret
  exact ⟨ret_bool (by simp), ((Below.refl _ _).alloc (Nat.le_refl _) _).alloc (by simp) _⟩
 ·have h1 : (s.toList == t.toList) = false := by rw [byt_eq]; simpa using h
  have HE : Hid (false = decide ((s, x) = (t, y))) := by
   show _ = _
   symm; rw [decide_eq_false_iff_not]; intro e; exact h (Prod.mk.inj e).1
  go_enter Try.func34, Try.ntmps34
  go_wp2_with (go_at_call 32; refine (bytesEqual_any a b n c m d x y _ ((HX.out.alloc _).alloc _) ((HY.out.alloc _).alloc _)).mono ?_; rintro e w' ⟨rfl, rfl⟩)
  go_ret
  exact ⟨ret_bool HE.out, ((Below.refl _ _).alloc (Nat.le_refl _) _).alloc (by simp) _⟩
theorem sameXattr_at (q : Bool) (x y : ByteArray × List Int) (a b : Option Addr) (n c m d : Nat) (w w0 : World) (hq : decide (x = y) = q) (hx : Bs w0 a n x.2) (hy : Bs w0 b m y.2) (h0 : Below w0.heap.size w0 w) :
  Calls Try.prog 34 #[.agg #[.string x.1, .slice a n c], .agg #[.string y.1, .slice b m d]] w fun e w' => e = .returned (.bool q) ∧ Below w.heap.size w w' := by
 subst hq
 exact sameXattr_any x.1 y.1 a b n c m d x.2 y.2 w (hx.below h0) (hy.below h0)
theorem below_alloc2 (w : World) (o p : Obj) : Below w.heap.size w ((w.alloc o).alloc p) := ((Below.refl _ _).alloc (Nat.le_refl _) _).alloc (by simp) _
theorem xs_drop (xs : List (ByteArray × List Int)) (i : Nat) (h : i < xs.length) : xs.drop i = gx xs i :: xs.drop (i + 1) := by
 rw [List.drop_eq_getElem_cons h, gx_lt xs i h]
theorem xs_step {l k : List (ByteArray × List Int)} {i : Nat} (h : i < l.length) (h' : i < k.length) : l.drop i = k.drop i ↔ gx l i = gx k i ∧ l.drop (i + 1) = k.drop (i + 1) := by
 rw [xs_drop l i h, xs_drop k i h', List.cons.injEq]
set_option maxRecDepth 100000 in
theorem EqualFunc_any (a b : Option Addr) (n c m d : Nat) (l k : List (ByteArray × List Int)) (w : World) (hl : XsR w a n l) (hk : XsR w b m k) (hc : n ≤ c) (hcm : c ≤ 9223372036854775807) :
  Calls Try.prog 33 #[.slice a n c, .slice b m d, .func (.func 34) #[] #[]] w fun e w' => e = .returned (.bool (decide (l = k))) ∧ Below w.heap.size w w' := by
 have HL := hide hl
 have HK := hide hk
 have HLN := hide hl.1
 have HKN := hide hk.1
 clear hl hk
 by_cases hnm : n = m
 ·subst hnm
  go_enter Try.func33, Try.ntmps33
  go_wp2
  go_loopw [7, 8, 9, 17] (fun _ _ _ r wr => ∃ i : Nat, r = .int .i64 i ∧ i ≤ n ∧ Below w.heap.size w wr ∧ (l = k ↔ l.drop i = k.drop i)) (fun _ _ _ r _ => n - (intOf r).toNat)
  case atStart => exact ⟨0, rfl, Nat.zero_le _, Below.refl _ _, Iff.rfl⟩
  case round =>
   obtain ⟨i, rfl, hi0, hbel, hinv⟩ := hrel
   have HI := hide hinv
   have HB := hide hbel
   by_cases hp : i < n
   ·have hd : decide ((i : Int) < n) = true := by simpa using hp
    obtain ⟨ba, oa, rfl, hba, hca⟩ := (HL.out.below hbel).at (by omega)
    obtain ⟨bb, ob, rfl, hbb, hcb⟩ := (HK.out.below hbel).at (by omega)
    obtain ⟨c1, va, vn, vc, c2, b1, _⟩ := hca i hp
    obtain ⟨c3, ua, un, uc, c4, b2, _⟩ := hcb i hp
    have B1 := hide b1
    have B2 := hide b2
    have ES := hide (xs_step (l := l) (k := k) (i := i) (by rw [HLN.out]; exact hp) (by rw [HKN.out]; exact hp))
    obtain ⟨q, hq⟩ : ∃ q, decide (gx l i = gx k i) = q := ⟨_, rfl⟩
    have HQ := hide hq
    clear hca hcb b1 b2 hinv hbel hq
    go_wp2_with fail
    refine (sameXattr_at q (gx l i) (gx k i) va ua vn vc un uc _ wr HQ.out B1.out B2.out (below_alloc2 wr _ _)).mono ?_
    rintro e w' ⟨rfl, hb⟩
    have HB2 := hide (HB.out.trans ((below_alloc2 wr _ _).mono (HB.out.size) |>.trans (hb.mono (by have := HB.out.size; simp; omega))))
    clear hb
    cases q with
    | false =>
     go_wp2
     go_ret
     refine ⟨ret_bool ?_, HB2.out⟩
     symm
     rw [decide_eq_false_iff_not, HI.out, ES.out]
     intro h
     have := HQ.out
     rw [decide_eq_false_iff_not] at this
     exact this h.1
    | true =>
     go_wp2
     refine ⟨⟨i + 1, by go_num, by omega, HB2.out, ?_⟩, by simp [intOf]; omega⟩
     rw [HI.out, ES.out]
     have : gx l i = gx k i := of_decide_eq_true HQ.out
     simp [this]
   ·have hd : decide ((i : Int) < n) = false := by simpa using hp
    go_wp2
    go_ret
    refine ⟨ret_bool ?_, HB.out⟩
    symm
    rw [decide_eq_true_eq, HI.out, List.drop_eq_nil_of_le (by rw [HLN.out]; omega), List.drop_eq_nil_of_le (by rw [HKN.out]; omega)]
 ·have hnm' : ((n : Int) != m) = true := by simp; omega
  have hne : Hid (false = decide (l = k)) := by
   show _ = _
   symm
   rw [decide_eq_false_iff_not]
   intro h
   have := congrArg List.length h
   rw [HLN.out, HKN.out] at this
   exact hnm this
  go_enter Try.func33, Try.ntmps33
  go_wp2
  go_ret
  exact ⟨ret_bool hne.out, Below.refl _ _⟩
theorem attrEq (w : World) (x y z x' y' z' : Int) : (binOp .eql 34 (.agg #[.int .i64 x, .int .i64 y, .int .i64 z]) (.agg #[.int .i64 x', .int .i64 y', .int .i64 z'])).run Try.prog w = .ok (.bool (decide (x = x' ∧ y = y' ∧ z = z'))) w := by
 have u3 := Try.underlying3
 have a3 := Try.isAgg3
 have z3 := Try.sizeOf3
 have hS : Try.prog.underlying 34 = some (.struct (Try.prog.fieldsOf 34)) := by kernel_rfl
 have hp : Try.prog.stoodInHeld 34 = false := by kernel_rfl
 rw [run_eql_struct, show (10000 : Nat) = 9999 + 1 from rfl, run_equalIn_agg w 9999 34 _ _ hS hp]
 simp only [Program.fieldsOf, Try.underlying34]
 go_simp
 by_cases h1 : x = x' <;> by_cases h2 : y = y' <;> by_cases h3 : z = z' <;> simp [h1, h2, h3]
theorem alike_rep {w : World} {v u : Nv} {x y : Nod} (hv : Rep w v x) (hu : Rep w u y) (a b c d e f : Bool) (ha : (v.kind == u.kind) = a) (hb : decide (v.mode = u.mode ∧ v.uid = u.uid ∧ v.gid = u.gid) = b) (hc : (v.tg.toList == u.tg.toList) = c) (hd : (v.op == u.op) = d) (he : decide (x.data = y.data) = e) (hf : decide (x.xs = y.xs) = f) :
  alike x y = (a && b && c && d && e && f) := by
 subst ha hb hc hd he hf
 rw [Bool.eq_iff_iff, alike_iff, hv.kind, hu.kind, hv.mode, hu.mode, hv.uid, hu.uid, hv.gid, hu.gid, hv.tg, hu.tg, hv.op, hu.op, byt_eq]
 simp only [Bool.and_eq_true, decide_eq_true_eq, beq_iff_eq, and_assoc]
theorem bytesEqual_at (q : Bool) (a b : Option Addr) (n c m d : Nat) (x y : List Int) (w w0 : World) (hq : decide (x = y) = q) (hx : Bs w0 a n x) (hy : Bs w0 b m y) (h0 : Below w0.heap.size w0 w) :
  Calls Try.prog 32 #[.slice a n c, .slice b m d] w fun e w' => e = .returned (.bool q) ∧ w' = w := by
 subst hq
 exact bytesEqual_any a b n c m d x y w (hx.below h0) (hy.below h0)
theorem EqualFunc_at (q : Bool) (a b : Option Addr) (n c m d : Nat) (l k : List (ByteArray × List Int)) (w w0 : World) (hq : decide (l = k) = q) (hl : XsR w0 a n l) (hk : XsR w0 b m k) (h0 : Below w0.heap.size w0 w) (hc : n ≤ c) (hcm : c ≤ 9223372036854775807) :
  Calls Try.prog 33 #[.slice a n c, .slice b m d, .func (.func 34) #[] #[]] w fun e w' => e = .returned (.bool q) ∧ Below w.heap.size w w' := by
 subst hq
 exact EqualFunc_any a b n c m d l k w (hl.below h0) (hk.below h0) hc hcm
set_option maxRecDepth 100000 in
set_option maxHeartbeats 1000000 in
theorem Alike_any (v u : Nv) (x y : Nod) (w : World) (hv : Rep w v x) (hu : Rep w u y) :
  Calls Try.prog 18 #[.agg v.cells, .agg u.cells] w fun e w' => e = .returned (.bool (alike x y)) ∧ Below w.heap.size w w' := by
 obtain ⟨a, ha⟩ : ∃ q, (v.kind == u.kind) = q := ⟨_, rfl⟩
 obtain ⟨b, hb⟩ : ∃ q, decide (v.mode = u.mode ∧ v.uid = u.uid ∧ v.gid = u.gid) = q := ⟨_, rfl⟩
 obtain ⟨c, hc⟩ : ∃ q, (v.tg.toList == u.tg.toList) = q := ⟨_, rfl⟩
 obtain ⟨d, hd⟩ : ∃ q, (v.op == u.op) = q := ⟨_, rfl⟩
 obtain ⟨e, he⟩ : ∃ q, decide (x.data = y.data) = q := ⟨_, rfl⟩
 obtain ⟨f, hf⟩ : ∃ q, decide (x.xs = y.xs) = q := ⟨_, rfl⟩
 have HA := hide (alike_rep hv hu a b c d e f ha hb hc hd he hf)
 have hA : ∀ W : World, (binOp .eql 34 (.agg #[.int .i64 v.mode, .int .i64 v.uid, .int .i64 v.gid]) (.agg #[.int .i64 u.mode, .int .i64 u.uid, .int .i64 u.gid])).run Try.prog W = .ok (.bool b) W := fun W => by rw [attrEq, hb]
 have HV := hide hv
 have HU := hide hu
 have HE := hide he
 have HF := hide hf
 have x1 := hv.xc
 have x2 := hv.xcm
 clear hv hu he hf hb
 unfold Nv.cells
 cases a with
 | false =>
  go_enter Try.func18, Try.ntmps18
  go_wp2
  go_ret
  exact ⟨ret_bool (by rw [HA.out]; rfl), below_alloc2 w _ _⟩
 | true =>
 cases b with
 | false =>
  go_enter Try.func18, Try.ntmps18
  go_wp2
  go_ret
  exact ⟨ret_bool (by rw [HA.out]; rfl), below_alloc2 w _ _⟩
 | true =>
 cases c with
 | false =>
  go_enter Try.func18, Try.ntmps18
  go_wp2
  go_ret
  exact ⟨ret_bool (by rw [HA.out]; rfl), below_alloc2 w _ _⟩
 | true =>
 cases d with
 | false =>
  go_enter Try.func18, Try.ntmps18
  go_wp2
  go_ret
  exact ⟨ret_bool (by rw [HA.out]; rfl), below_alloc2 w _ _⟩
 | true =>
 cases e with
 | false =>
  go_enter Try.func18, Try.ntmps18
  go_wp2_with (go_at_call 32; refine (bytesEqual_at false v.da u.da v.dn v.dc u.dn u.dc x.data y.data _ w HE.out HV.out.data HU.out.data (below_alloc2 w _ _)).mono ?_; rintro e w' ⟨rfl, rfl⟩)
  go_ret
  exact ⟨ret_bool (by rw [HA.out]; rfl), below_alloc2 w _ _⟩
 | true =>
  go_enter Try.func18, Try.ntmps18
  go_wp2_with (first
   | (go_at_call 32; refine (bytesEqual_at true v.da u.da v.dn v.dc u.dn u.dc x.data y.data _ w HE.out HV.out.data HU.out.data (below_alloc2 w _ _)).mono ?_; rintro e w' ⟨rfl, rfl⟩)
   | (go_at_call 33; refine (EqualFunc_at f v.xa u.xa v.xn v.xc u.xn u.xc x.xs y.xs _ w HF.out HV.out.xs HU.out.xs (below_alloc2 w _ _) x1 x2).mono ?_; rintro e w' ⟨rfl, hb⟩))
  go_ret
  refine ⟨ret_bool (by rw [HA.out]; rfl), (below_alloc2 w _ _).trans (hb.mono (by simp; omega))⟩
end Go.Proofs.Ytgnjifdaccphhaa
namespace Go.Proofs.Ytgnjifdaccphhaa
open Go.RowKit Go.Maps
open Nam Tre
open Lz (g)
namespace Tre
def fi (p : Nod → Bool) : Nat → List Nod → Int
 | _, [] => -1
 | i, n :: r => if p n = true then i else fi p (i + 1) r
theorem fi_ge (p : Nod → Bool) : ∀ (l : List Nod) (i : Nat), decide (0 ≤ fi p i l) = l.any p
 | [], i => rfl
 | n :: r, i => by
  unfold fi
  rw [List.any_cons]
  cases h : p n with
  | true => simp
  | false => rw [if_neg (by simp), Bool.false_or]; exact fi_ge p r (i + 1)
theorem fv_drop (l : List ByteArray) (i : Nat) (h : i < l.length) : fv (l.drop i) = if valid (gs l i).toList = 0 then fv (l.drop (i + 1)) else valid (gs l i).toList := by
 rw [List.drop_eq_getElem_cons h, gs_lt l i h, fv]
end Tre
def Asks (fn : Nat) (caps : Array Value) (p : Nod → Bool) (L : List (Nv × Nod)) (w : World) : Prop :=
 ∀ q ∈ L, ∀ w1, Below w.heap.size w w1 → Calls Try.prog fn (#[.agg q.1.cells] ++ caps) w1 fun e w' => e = .returned (.bool (p q.2)) ∧ Below w1.heap.size w1 w'
set_option maxRecDepth 100000 in
theorem all_any (a : Option Addr) (n c : Nat) (L : List (Nv × Nod)) (fn : Nat) (caps : Array Value) (p : Nod → Bool) (w : World) (hl : Ns w a n L) (hc : n ≤ c) (hcm : c ≤ 9223372036854775807)
  (hen : ∀ (args : Array Value) (w : World), (callFunc fn args).run Try.prog w = .ok (.enter fn args) w) (hp : Asks fn caps p L w) :
  Calls Try.prog 25 #[.slice a n c, .func (.func fn) #[] caps] w fun e w' => e = .returned (.bool ((nds L).all p)) ∧ Below w.heap.size w w' := by
 have HL := hide hl
 have HLN := hide hl.1
 have HP := hide hp
 clear hl hp
 go_enter Try.func25, Try.ntmps25
 go_wp2
 go_loopw [6, 9] (fun _ r wr => ∃ i : Nat, r = .int .i64 i ∧ i ≤ n ∧ Below w.heap.size w wr ∧ (nds L).all p = ((nds L).drop i).all p) (fun _ r _ => n - (intOf r).toNat)
 case atStart => exact ⟨0, rfl, Nat.zero_le _, Below.refl _ _, rfl⟩
 case round =>
  obtain ⟨i, rfl, hi0, hbel, hinv⟩ := hrel
  have HI := hide hinv
  have HB := hide hbel
  by_cases hi : i < n
  ·have hd : decide ((i : Int) < n) = true := by simpa using hi
   obtain ⟨ba, oa, rfl, hba, hca⟩ := (HL.out.below hbel).at (by omega)
   obtain ⟨c0, c1, c2, c3, c4, c5, c6, c7, c8, c9⟩ := hca i hi
   have HE := hide (nds_drop L i (by rw [HLN.out]; exact hi))
   obtain ⟨z, hz⟩ : ∃ z, p (gl L i).2 = z := ⟨_, rfl⟩
   have HZ := hide hz
   have HQ := hide (fun w1 hb => HP.out (gl L i) (gl_mem L i (by rw [HLN.out]; exact hi)) w1 hb)
   have bel : Hid (∀ o, Below w.heap.size w (wr.alloc o)) := fun o => HB.out.alloc HB.out.size _
   clear hca hinv hbel hz
   go_wp2_with fail
   refine (HQ.out _ (bel.out _)).mono ?_
   rw [HZ.out]
   rintro e w1 ⟨rfl, hb1⟩
   have e1 := hide ((bel.out _).trans (hb1.mono (bel.out _).size))
   clear hb1
   cases z with
   | false =>
    go_wp2
    go_ret
    exact ⟨ret_bool (by rw [HI.out, HE.out, List.all_cons, HZ.out]; rfl), e1.out⟩
   | true =>
    go_wp2
    refine ⟨⟨i + 1, by go_num, by omega, e1.out, ?_⟩, by simp [intOf]; omega⟩
    rw [HI.out, HE.out, List.all_cons, HZ.out]; rfl
  ·have hd : decide ((i : Int) < n) = false := by simpa using hi
   go_wp2
   go_ret
   refine ⟨ret_bool ?_, HB.out⟩
   rw [HI.out, List.drop_eq_nil_of_le (by rw [nds_length, HLN.out]; omega)]; rfl
set_option maxRecDepth 100000 in
theorem IndexFunc_any (a : Option Addr) (n c : Nat) (L : List (Nv × Nod)) (fn : Nat) (caps : Array Value) (p : Nod → Bool) (w : World) (hl : Ns w a n L) (hc : n ≤ c) (hcm : c ≤ 9223372036854775807)
  (hen : ∀ (args : Array Value) (w : World), (callFunc fn args).run Try.prog w = .ok (.enter fn args) w) (hp : Asks fn caps p L w) :
  Calls Try.prog 36 #[.slice a n c, .func (.func fn) #[] caps] w fun e w' => e = .returned (.int .i64 (fi p 0 (nds L))) ∧ Below w.heap.size w w' := by
 have HL := hide hl
 have HLN := hide hl.1
 have HP := hide hp
 clear hl hp
 go_enter Try.func36, Try.ntmps36
 go_wp2
 go_loopw [5, 8] (fun _ r wr => ∃ i : Nat, r = .int .i64 i ∧ i ≤ n ∧ Below w.heap.size w wr ∧ fi p 0 (nds L) = fi p i ((nds L).drop i)) (fun _ r _ => n - (intOf r).toNat)
 case atStart => exact ⟨0, rfl, Nat.zero_le _, Below.refl _ _, rfl⟩
 case round =>
  obtain ⟨i, rfl, hi0, hbel, hinv⟩ := hrel
  have HI := hide hinv
  have HB := hide hbel
  by_cases hi : i < n
  ·have hd : decide ((i : Int) < n) = true := by simpa using hi
   obtain ⟨ba, oa, rfl, hba, hca⟩ := (HL.out.below hbel).at (by omega)
   obtain ⟨c0, c1, c2, c3, c4, c5, c6, c7, c8, c9⟩ := hca i hi
   have HE := hide (nds_drop L i (by rw [HLN.out]; exact hi))
   obtain ⟨z, hz⟩ : ∃ z, p (gl L i).2 = z := ⟨_, rfl⟩
   have HZ := hide hz
   have HQ := hide (fun w1 hb => HP.out (gl L i) (gl_mem L i (by rw [HLN.out]; exact hi)) w1 hb)
   clear hca hinv hbel hz
   go_wp2_with fail
   refine (HQ.out _ HB.out).mono ?_
   rw [HZ.out]
   rintro e w1 ⟨rfl, hb1⟩
   have e1 := hide (HB.out.trans (hb1.mono HB.out.size))
   clear hb1
   cases z with
   | true =>
    go_wp2
    go_ret
    exact ⟨ret_int (by rw [HI.out, HE.out, fi, HZ.out]; rfl), e1.out⟩
   | false =>
    go_wp2
    refine ⟨⟨i + 1, by go_num, by omega, e1.out, ?_⟩, by simp [intOf]; omega⟩
    rw [HI.out, HE.out, fi, HZ.out]; rfl
  ·have hd : decide ((i : Int) < n) = false := by simpa using hi
   go_wp2
   go_ret
   refine ⟨ret_int ?_, HB.out⟩
   rw [HI.out, List.drop_eq_nil_of_le (by rw [nds_length, HLN.out]; omega)]; rfl
theorem ContainsFunc_any (a : Option Addr) (n c : Nat) (L : List (Nv × Nod)) (fn : Nat) (caps : Array Value) (p : Nod → Bool) (w : World) (hl : Ns w a n L) (hc : n ≤ c) (hcm : c ≤ 9223372036854775807)
  (hen : ∀ (args : Array Value) (w : World), (callFunc fn args).run Try.prog w = .ok (.enter fn args) w) (hp : Asks fn caps p L w) :
  Calls Try.prog 20 #[.slice a n c, .func (.func fn) #[] caps] w fun e w' => e = .returned (.bool ((nds L).any p)) ∧ Below w.heap.size w w' := by
 have H := hide (IndexFunc_any a n c L fn caps p w hl hc hcm hen hp)
 have HE := hide (fi_ge p (nds L) 0)
 clear hl hp
 go_enter Try.func20, Try.ntmps20
 go_wp2_with (go_at_call 36; refine H.out.mono ?_; rintro e w' ⟨rfl, hb⟩)
 go_ret
 exact ⟨ret_bool HE.out, hb⟩
theorem isDeep_any (v : Nv) (n : Nod) (w : World) (h : Rep w v n) : Calls Try.prog 21 #[.agg v.cells] w fun e w' => e = .returned (.bool (deep n)) ∧ Below w.heap.size w w' := by
 have HE : Hid (decide ((16 : Int) < v.nn) = deep n) := by
  show _ = _
  rw [deep, h.names.1, Bool.eq_iff_iff, decide_eq_true_eq, decide_eq_true_eq]; omega
 clear h
 unfold Nv.cells
 go_enter Try.func21, Try.ntmps21
 go_wp2
 go_ret
 exact ⟨ret_bool (by rw [← HE.out]), (Below.refl _ _).alloc (Nat.le_refl _) _⟩
set_option maxRecDepth 100000 in
theorem wrongName_any (a : Option Addr) (n c : Nat) (L : List (Nv × Nod)) (w : World) (hl : Ns w a n L) (hc : n ≤ c) (hcm : c ≤ 9223372036854775807) :
  Calls Try.prog 19 #[.slice a n c] w fun e w' => e = .returned (.int .i64 (wrong (nds L))) ∧ Below w.heap.size w w' := by
 have HL := hide hl
 have HLN := hide hl.1
 clear hl
 go_enter Try.func19, Try.ntmps19
 go_wp2
 go_loopw [4, 6, 7, 10, 15, 16, 17] (fun _ _ _ r _ _ _ wr => ∃ i : Nat, r = .int .i64 i ∧ i ≤ n ∧ Below w.heap.size w wr ∧ wrong (nds L) = wrong ((nds L).drop i)) (fun _ _ _ r _ _ _ _ => n - (intOf r).toNat)
 case atStart => exact ⟨0, rfl, Nat.zero_le _, Below.refl _ _, rfl⟩
 case round =>
  obtain ⟨i, rfl, hi0, hbel, hinv⟩ := hrel
  have HI := hide hinv
  have HB := hide hbel
  by_cases hi : i < n
  ·have hd : decide ((i : Int) < n) = true := by simpa using hi
   obtain ⟨ba, oa, rfl, hba, hca⟩ := (HL.out.below hbel).at (by omega)
   obtain ⟨c0, c1, c2, c3, c4, c5, c6, c7, c8, c9⟩ := hca i hi
   have HE := hide (nds_drop L i (by rw [HLN.out]; exact hi))
   have hr := HL.out.rep i hi
   obtain ⟨na, nn, nc, c0', hN, n1, n2⟩ : ∃ na nn nc, wr.cell? ⟨ba, oa + i * 10, none⟩ = some (.slice na nn nc) ∧ Rs w na nn (gl L i).2.names ∧ nn ≤ nc ∧ nc ≤ 9223372036854775807 := ⟨_, _, _, c0, hr.names, hr.nc, hr.ncm⟩
   have HN := hide hN
   have HNN := hide hN.1
   have bel : Hid (∀ o, Below w.heap.size w (wr.alloc o)) := fun o => HB.out.alloc HB.out.size _
   clear hca hinv hbel hr c0 hN
   go_wp2
   go_loopw [6, 7, 17] (fun _ _ r ws => ∃ k : Nat, r = .int .i64 k ∧ k ≤ nn ∧ Below w.heap.size w ws ∧ fv (gl L i).2.names = fv ((gl L i).2.names.drop k)) (fun _ _ r _ => nn - (intOf r).toNat)
   case atStart => exact ⟨0, rfl, Nat.zero_le _, bel.out _, rfl⟩
   case round =>
    obtain ⟨k, rfl, hk0, hbel2, hinv2⟩ := hrel
    have HI2 := hide hinv2
    have HB2 := hide hbel2
    by_cases hk : k < nn
    ·have hd2 : decide ((k : Int) < nn) = true := by simpa using hk
     obtain ⟨bb, ob, rfl, hbb, hcb⟩ := (HN.out.below hbel2).at (by omega)
     have d1 := hcb k hk
     have HE2 := hide (fv_drop (gl L i).2.names k (by rw [HNN.out]; exact hk))
     obtain ⟨z, hz⟩ : ∃ z, valid (gs (gl L i).2.names k).toList = z := ⟨_, rfl⟩
     have HZ := hide hz
     clear hcb hinv2 hbel2 hz
     go_wp2_with (go_at_call 35; refine (Valid_any _ _).mono ?_)
     rw [HZ.out]
     rintro e w2 ⟨rfl, hb2⟩
     have e2 := hide (HB2.out.trans (hb2.mono HB2.out.size))
     clear hb2
     by_cases hzz : z = 0
     ·have hz1 : (z != 0) = false := by simp [hzz]
      have HZZ := hide hzz
      clear hzz
      go_wp2
      refine ⟨⟨k + 1, by go_num, by omega, e2.out, ?_⟩, by simp [intOf]; omega⟩
      rw [HI2.out, HE2.out, HZ.out, if_pos HZZ.out]
     ·have hz1 : (z != 0) = true := by simpa using hzz
      have HZZ := hide hzz
      clear hzz
      go_wp2
      go_ret
      refine ⟨ret_int ?_, e2.out⟩
      have hfv : fv (gl L i).2.names = z := by rw [HI2.out, HE2.out, HZ.out, if_neg HZZ.out]
      rw [HI.out, HE.out, wrong, hfv, if_neg HZZ.out]
    ·have hd2 : decide ((k : Int) < nn) = false := by simpa using hk
     go_wp2
     refine ⟨⟨i + 1, by go_num, by omega, HB2.out, ?_⟩, by simp [intOf]; omega⟩
     have hfv : fv (gl L i).2.names = 0 := by rw [HI2.out, List.drop_eq_nil_of_le (by rw [HNN.out]; omega)]; rfl
     rw [HI.out, HE.out, wrong, if_pos hfv]
  ·have hd : decide ((i : Int) < n) = false := by simpa using hi
   go_wp2
   go_ret
   refine ⟨ret_int ?_, HB.out⟩
   rw [HI.out, List.drop_eq_nil_of_le (by rw [nds_length, HLN.out]; omega)]; rfl
end Go.Proofs.Ytgnjifdaccphhaa
namespace Go.Proofs.Ytgnjifdaccphhaa
open Go.RowKit Go.Maps
open Nam Tre
theorem nm_dec (l k : List ByteArray) : decide (nm l = nm k) = decide (l = k) := by
 rw [Bool.eq_iff_iff, decide_eq_true_eq, decide_eq_true_eq]
 exact ⟨nm_inj, fun h => by rw [h]⟩
theorem refSame_one (a b : Option Addr) (n c m d : Nat) (l k : List ByteArray) (w : World) (hl : Rs w a n l) (hk : Rs w b m k) (hn : n ≤ 1000000) :
  Calls Try.prog 53 #[.slice a n c, .slice b m d] w fun e w' => e = .returned (.bool (decide (l = k))) ∧ ∃ q, w' = w.drewN q := by
 by_cases hnm : n = m
 ·have := refSame_any a b n c m d l k w hl hk hn (by omega)
  rw [nm_dec] at this
  exact this
 ·have hnm' : ((n : Int) != m) = true := by simp; omega
  have hne : Hid (false = decide (l = k)) := by
   show _ = _
   symm
   rw [decide_eq_false_iff_not]
   intro h
   have := congrArg List.length h
   rw [hl.1, hk.1] at this
   exact hnm this
  clear hl hk
  go_enter Try.func53, Try.ntmps53
  go_wp2
  go_ret
  exact ⟨ret_bool hne.out, 0, rfl⟩
namespace Tre
def nmd (m : List ByteArray) (n : Nod) : Bool := decide (n.names = m)
theorem fi_spec (p : Nod → Bool) : ∀ (l : List Nod) (i : Nat), (fi p i l = -1 ∧ l.find? p = none) ∨ ∃ j, fi p i l = ((i + j : Nat) : Int) ∧ ∃ (h : j < l.length), l.find? p = some l[j]
 | [], i => .inl ⟨rfl, rfl⟩
 | n :: r, i => by
  unfold fi
  rw [List.find?_cons]
  cases hp : p n with
  | true => exact .inr ⟨0, by simp, by simp, rfl⟩
  | false =>
   simp only [Bool.false_eq_true, if_false]
   rcases fi_spec p r (i + 1) with h | ⟨j, h1, h2, h3⟩
   ·exact .inl h
   ·exact .inr ⟨j + 1, by rw [h1]; congr 1; omega, by simp; omega, by simpa using h3⟩
end Tre
set_option maxRecDepth 100000 in
theorem refFind_any (a : Option Addr) (n c : Nat) (L : List (Nv × Nod)) (b : Option Addr) (m d : Nat) (k : List ByteArray) (w : World) (hl : Ns w a n L) (hc : n ≤ c) (hcm : c ≤ 9223372036854775807) (hk : Rs w b m k) (h20 : ∀ p ∈ L, p.2.names.length ≤ 1000000) :
  Calls Try.prog 43 #[.slice a n c, .slice b m d] w fun e w' => e = .returned (.int .i64 (fi (nmd k) 0 (nds L))) ∧ ∃ q, w' = w.drewN q := by
 have HL := hide hl
 have HLN := hide hl.1
 have HK := hide hk
 have H20 := hide h20
 clear hl hk h20
 go_enter Try.func43, Try.ntmps43
 go_wp2
 go_loopw [5, 6] (fun r _ wr => ∃ i q : Nat, wr = w.drewN q ∧ r = .int .i64 i ∧ i ≤ n ∧ fi (nmd k) 0 (nds L) = fi (nmd k) i ((nds L).drop i)) (fun r _ _ => n - (intOf r).toNat)
 case atStart => exact ⟨0, 0, rfl, rfl, Nat.zero_le _, rfl⟩
 case round =>
  obtain ⟨i, q, rfl, rfl, hi0, hinv⟩ := hrel
  have HI := hide hinv
  by_cases hi : i < n
  ·have hd : decide ((i : Int) < n) = true := by simpa using hi
   obtain ⟨ba, oa, rfl, hba, hca⟩ := HL.out.at (by omega)
   obtain ⟨c0, _, _, _, _, _, _, _, _, _⟩ := hca i hi
   have HE := hide (nds_drop L i (by rw [HLN.out]; exact hi))
   have hr := HL.out.rep i hi
   have hnn : (gl L i).1.nn ≤ 1000000 := by have := hr.names.1; have := H20.out (gl L i) (gl_mem L i (by rw [HLN.out]; exact hi)); omega
   have HC := hide (refSame_one (gl L i).1.na b (gl L i).1.nn (gl L i).1.nc m d (gl L i).2.names k (w.drewN q) (hr.names.drewN q) (HK.out.drewN q) hnn)
   obtain ⟨z, hz⟩ : ∃ z, nmd k (gl L i).2 = z := ⟨_, rfl⟩
   have HZ := hide hz
   rw [show decide ((gl L i).2.names = k) = z from hz] at HC
   clear hca hinv hz hr
   go_wp2_with (go_at_call 53; refine HC.out.mono ?_)
   rintro e w1 ⟨rfl, q1, rfl⟩
   cases z with
   | true =>
    go_wp2
    go_ret
    exact ⟨ret_int (by rw [HI.out, HE.out, fi, HZ.out]; rfl), _, rfl⟩
   | false =>
    go_wp2
    refine ⟨⟨i + 1, q + q1, by simp, by go_num, by omega, ?_⟩, by simp [intOf]; omega⟩
    rw [HI.out, HE.out, fi, HZ.out]; rfl
  ·have hd : decide ((i : Int) < n) = false := by simpa using hi
   go_wp2
   go_ret
   refine ⟨ret_int ?_, q, rfl⟩
   rw [HI.out, List.drop_eq_nil_of_le (by rw [nds_length, HLN.out]; omega)]; rfl
set_option maxRecDepth 100000 in
theorem refIsDir_any (a : Option Addr) (n c : Nat) (L : List (Nv × Nod)) (b : Option Addr) (m d : Nat) (k : List ByteArray) (w : World) (hl : Ns w a n L) (hc : n ≤ c) (hcm : c ≤ 9223372036854775807) (hk : Rs w b m k) (h20 : ∀ p ∈ L, p.2.names.length ≤ 1000000) :
  Calls Try.prog 29 #[.slice a n c, .slice b m d] w fun e w' => e = .returned (.bool (isDir (nds L) k)) ∧ ∃ q, w' = w.drewN q := by
 have HF := hide (refFind_any a n c L b m d k w hl hc hcm hk h20)
 have HL := hide hl
 have HLN := hide hl.1
 rcases fi_spec (nmd k) (nds L) 0 with ⟨h1, h2⟩ | ⟨j, h1, h2, h3⟩
 ·rw [h1] at HF
  have HD : Hid (isDir (nds L) k = false) := by
   show _ = _
   unfold isDir
   have h2' : (nds L).find? (fun n => decide (n.names = k)) = none := h2
   rw [h2']
  clear hl hk h1 h2
  go_enter Try.func29, Try.ntmps29
  go_wp2_with (go_at_call 43; refine HF.out.mono ?_; rintro e w1 ⟨rfl, q1, rfl⟩)
  go_ret
  exact ⟨ret_bool HD.out.symm, q1, rfl⟩
 ·rw [Nat.zero_add] at h1
  rw [h1] at HF
  have hj : j < n := by rw [nds_length, hl.1] at h2; exact h2
  obtain ⟨ba, oa, rfl, hba, hca⟩ := hl.at (by omega)
  obtain ⟨_, _, c2, _, _, _, _, _, _, _⟩ := hca j hj
  have HD : Hid (((gl L j).1.kind == 1) = isDir (nds L) k) := by
   show _ = _
   unfold isDir
   have h3' : (nds L).find? (fun n => decide (n.names = k)) = some (nds L)[j] := h3
   have e : (nds L)[j] = (gl L j).2 := by rw [gl_lt L j (by rw [HLN.out]; exact hj)]; simp [nds]
   rw [h3', e, ← (hl.rep j hj).kind]
   rw [Bool.eq_iff_iff, beq_iff_eq, decide_eq_true_eq]
  have hj1 : (j : Int) < n := by omega
  have hj0 : (0 : Int) ≤ j := by omega
  clear hl hk h1 h2 h3 hca
  go_enter Try.func29, Try.ntmps29
  go_wp2_with (go_at_call 43; refine HF.out.mono ?_; rintro e w1 ⟨rfl, q1, rfl⟩)
  go_ret
  exact ⟨ret_bool HD.out, q1, rfl⟩
end Go.Proofs.Ytgnjifdaccphhaa
namespace Go.Proofs.Ytgnjifdaccphhaa
open Go.RowKit Go.Maps
open Nam Tre
namespace Tre
def nam (l : List Nod) : Int := if wrong l ≠ 0 then wrong l else if l.any deep = true then 9 else if ¬ (l.map Nod.names).Nodup then 6 else 0
theorem fi_at (p : Nod → Bool) : ∀ (l : List Nod) (o i : Nat) (h : i < l.length), p l[i] = true → ∃ j, fi p o l = ((o + j : Nat) : Int) ∧ j ≤ i ∧ ∃ (hj : j < l.length), p l[j] = true ∧ ∀ t (ht : t < j), p (l[t]'(by omega)) = false
 | n :: r, o, i, h, hp => by
  unfold fi
  cases hn : p n with
  | true => exact ⟨0, by simp, Nat.zero_le _, by simp, hn, fun t ht => by omega⟩
  | false =>
   cases i with
   | zero => simp only [List.getElem_cons_zero] at hp; rw [hn] at hp; cases hp
   | succ i =>
    simp only [List.getElem_cons_succ] at hp
    obtain ⟨j, h1, h2, h3, h4, h5⟩ := fi_at p r (o + 1) i (by simpa using h) hp
    refine ⟨j + 1, by simp only [Bool.false_eq_true, if_false]; rw [h1]; congr 1; omega, by omega, by simp; omega, by simpa using h4, fun t ht => ?_⟩
    cases t with
    | zero => simpa using hn
    | succ t => simpa using h5 t (by omega)
theorem take_nodup {l : List Nod} {i : Nat} (h : i < l.length) (hn : ((l.take i).map Nod.names).Nodup) (hf : ¬ fi (nmd l[i].names) 0 l < (i : Int)) : ((l.take (i + 1)).map Nod.names).Nodup := by
 obtain ⟨j, h1, h2, h3, h4, h5⟩ := fi_at (nmd l[i].names) l 0 i h (by simp [nmd])
 rw [Nat.zero_add] at h1
 have hj : j = i := by omega
 subst hj
 rw [List.take_succ_eq_append_getElem h, List.map_append, List.nodup_append]
 refine ⟨hn, by simp, fun a ha b hb => ?_⟩
 simp only [List.map_cons, List.map_nil, List.mem_singleton] at hb
 rw [List.mem_map] at ha
 obtain ⟨x, hx, rfl⟩ := ha
 rw [List.mem_take_iff_getElem] at hx
 obtain ⟨t, ht, rfl⟩ := hx
 rw [hb]
 have := h5 t (by omega)
 simpa [nmd] using this
theorem not_nodup {l : List Nod} {i : Nat} (h : i < l.length) (hf : fi (nmd l[i].names) 0 l < (i : Int)) : ¬ (l.map Nod.names).Nodup := by
 obtain ⟨j, h1, h2, h3, h4, h5⟩ := fi_at (nmd l[i].names) l 0 i h (by simp [nmd])
 rw [Nat.zero_add] at h1
 intro hn
 have hne : j ≠ i := by omega
 rw [List.Nodup, List.pairwise_iff_getElem] at hn
 have := hn j i (by simpa using h3) (by simpa using h) (by omega)
 simp only [List.getElem_map] at this
 exact this (by simpa [nmd] using h4)
end Tre
set_option maxRecDepth 100000 in
set_option maxHeartbeats 1000000 in
theorem named_any (a : Option Addr) (n c : Nat) (L : List (Nv × Nod)) (w : World) (hl : Ns w a n L) (hc : n ≤ c) (hcm : c ≤ 9223372036854775807) (h20 : ∀ p ∈ L, p.2.names.length ≤ 1000000) :
  Calls Try.prog 28 #[.slice a n c] w fun e w' => e = .returned (.int .i64 (nam (nds L))) ∧ ∃ q, w' = w.drewN q := by
 have HL := hide hl
 have HLN := hide hl.1
 have H20 := hide h20
 clear hl h20
 go_enter Try.func28, Try.ntmps28
 go_wp2
 go_loopw [3, 4, 5] (fun r _ _ wr => ∃ i q : Nat, wr = w.drewN q ∧ r = .int .i64 i ∧ i ≤ n ∧ wrong (nds L) = wrong ((nds L).drop i)) (fun r _ _ _ => n - (intOf r).toNat)
 case atStart => exact ⟨0, 0, rfl, rfl, Nat.zero_le _, rfl⟩
 case round =>
  obtain ⟨i, q, rfl, rfl, hi0, hinv⟩ := hrel
  have HI := hide hinv
  by_cases hi : i < n
  ·have hd : decide ((i : Int) < n) = true := by simpa using hi
   obtain ⟨ba, oa, rfl, hba, hca⟩ := HL.out.at (by omega)
   have HE := hide (nds_drop L i (by rw [HLN.out]; exact hi))
   have hr := HL.out.rep i hi
   obtain ⟨na, nn, nc, c0', hN, n1, n2⟩ : ∃ na nn nc, w.cell? ⟨ba, oa + i * 10, none⟩ = some (.slice na nn nc) ∧ Rs w na nn (gl L i).2.names ∧ nn ≤ nc ∧ nc ≤ 9223372036854775807 := ⟨_, _, _, (hca i hi).c0, hr.names, hr.nc, hr.ncm⟩
   have HN := hide hN
   have HNN := hide hN.1
   have hi' : (i : Int) < n := by omega
   clear hca hinv hr hN
   go_wp2
   go_loopw [4, 5] (fun r _ ws => ∃ k q : Nat, ws = w.drewN q ∧ r = .int .i64 k ∧ k ≤ nn ∧ fv (gl L i).2.names = fv ((gl L i).2.names.drop k)) (fun r _ _ => nn - (intOf r).toNat)
   case atStart => exact ⟨0, q, rfl, rfl, Nat.zero_le _, rfl⟩
   case round =>
    obtain ⟨k, q2, rfl, rfl, hk0, hinv2⟩ := hrel
    have HI2 := hide hinv2
    by_cases hk : k < nn
    ·have hd2 : decide ((k : Int) < nn) = true := by simpa using hk
     obtain ⟨bb, ob, rfl, hbb, hcb⟩ := HN.out.at (by omega)
     have d1 := hcb k hk
     have HE2 := hide (fv_drop (gl L i).2.names k (by rw [HNN.out]; exact hk))
     obtain ⟨z, hz⟩ : ∃ z, valid (gs (gl L i).2.names k).toList = z := ⟨_, rfl⟩
     have HZ := hide hz
     clear hcb hinv2 hz
     go_wp2_with (go_at_call 42; refine (refValid_any _ _).mono ?_)
     rw [HZ.out]
     rintro e w2 ⟨rfl, rfl⟩
     by_cases hzz : z = 0
     ·have hz1 : (z != 0) = false := by simp [hzz]
      have HZZ := hide hzz
      clear hzz
      go_wp2
      refine ⟨⟨k + 1, q2, rfl, by go_num, by omega, ?_⟩, by simp [intOf]; omega⟩
      rw [HI2.out, HE2.out, HZ.out, if_pos HZZ.out]
     ·have hz1 : (z != 0) = true := by simpa using hzz
      have HZZ := hide hzz
      clear hzz
      go_wp2
      go_ret
      refine ⟨ret_int ?_, q2, rfl⟩
      have hfv : fv (gl L i).2.names = z := by rw [HI2.out, HE2.out, HZ.out, if_neg HZZ.out]
      have hw : wrong (nds L) = z := by rw [HI.out, HE.out, wrong, hfv, if_neg HZZ.out]
      rw [nam, if_pos (by rw [hw]; exact HZZ.out), hw]
    ·have hd2 : decide ((k : Int) < nn) = false := by simpa using hk
     go_wp2
     refine ⟨⟨i + 1, q2, rfl, by go_num, by omega, ?_⟩, by simp [intOf]; omega⟩
     have hfv : fv (gl L i).2.names = 0 := by rw [HI2.out, List.drop_eq_nil_of_le (by rw [HNN.out]; omega)]; rfl
     rw [HI.out, HE.out, wrong, if_pos hfv]
  ·have hd : decide ((i : Int) < n) = false := by simpa using hi
   have HW : Hid (wrong (nds L) = 0) := by
    show _ = _
    rw [HI.out, List.drop_eq_nil_of_le (by rw [nds_length, HLN.out]; omega)]; rfl
   clear hinv
   go_wp2
   go_loopw [6] (fun r wr => ∃ i q : Nat, wr = w.drewN q ∧ r = .int .i64 i ∧ i ≤ n ∧ (nds L).any deep = ((nds L).drop i).any deep) (fun r _ => n - (intOf r).toNat)
   case atStart => exact ⟨0, q, rfl, rfl, Nat.zero_le _, rfl⟩
   case round =>
    obtain ⟨i, q, rfl, rfl, hi0, hinv⟩ := hrel
    have HI := hide hinv
    by_cases hi : i < n
    ·have hd : decide ((i : Int) < n) = true := by simpa using hi
     obtain ⟨ba, oa, rfl, hba, hca⟩ := HL.out.at (by omega)
     have HE := hide (nds_drop L i (by rw [HLN.out]; exact hi))
     have hr := HL.out.rep i hi
     have c0 := (hca i hi).c0
     have hi' : (i : Int) < n := by omega
     have hdp : deep (gl L i).2 = decide ((16 : Int) < (gl L i).1.nn) := by
      rw [deep, hr.names.1, Bool.eq_iff_iff, decide_eq_true_eq, decide_eq_true_eq]; omega
     clear hca hinv hr
     by_cases h16 : (16 : Int) < (gl L i).1.nn
     ·have HQ : Hid ((nds L).any deep = true) := by
       show _ = _
       rw [HI.out, HE.out, List.any_cons, hdp, decide_eq_true h16]; rfl
      clear hdp
      go_wp2
      go_ret
      refine ⟨ret_int ?_, q, rfl⟩
      rw [nam, if_neg (by rw [HW.out]; simp), if_pos HQ.out]
     ·have HQ : Hid ((nds L).any deep = ((nds L).drop (i + 1)).any deep) := by
       show _ = _
       rw [HI.out, HE.out, List.any_cons, hdp, decide_eq_false h16]; rfl
      clear hdp
      go_wp2
      exact ⟨⟨i + 1, q, rfl, by go_num, by omega, HQ.out⟩, by simp [intOf]; omega⟩
    ·have hd : decide ((i : Int) < n) = false := by simpa using hi
     have HD : Hid ((nds L).any deep = false) := by
      show _ = _
      rw [HI.out, List.drop_eq_nil_of_le (by rw [nds_length, HLN.out]; omega)]; rfl
     clear hinv
     go_wp2
     go_loopw [7] (fun r wr => ∃ i q : Nat, wr = w.drewN q ∧ r = .int .i64 i ∧ i ≤ n ∧ (((nds L).take i).map Nod.names).Nodup) (fun r _ => n - (intOf r).toNat)
     case atStart => exact ⟨0, q, rfl, rfl, Nat.zero_le _, by simp⟩
     case round =>
      obtain ⟨i, q, rfl, rfl, hi0, hinv⟩ := hrel
      have HI := hide hinv
      by_cases hi : i < n
      ·have hd : decide ((i : Int) < n) = true := by simpa using hi
       obtain ⟨ba, oa, rfl, hba, hca⟩ := HL.out.at (by omega)
       have hr := HL.out.rep i hi
       have c0 := (hca i hi).c0
       have hi' : (i : Int) < n := by omega
       have hlt : i < (nds L).length := by rw [nds_length, HLN.out]; exact hi
       have hget : (nds L)[i] = (gl L i).2 := by rw [gl_lt L i (by rw [HLN.out]; exact hi)]; simp [nds]
       have HF := hide (refFind_any (some ⟨ba, oa, none⟩) n c L (gl L i).1.na (gl L i).1.nn (gl L i).1.nc (gl L i).2.names (w.drewN q) (HL.out.below (drewN_below w q)) hc hcm (hr.names.drewN q) H20.out)
       have T1 := hide (fun h => take_nodup hlt HI.out h)
       have T2 := hide (fun h => not_nodup hlt h)
       rw [hget] at T1 T2
       generalize fi (nmd (gl L i).2.names) 0 (nds L) = z at *
       clear hca hinv hr hget
       by_cases hz : z < (i : Int)
       ·have HN : Hid (nam (nds L) = 6) := by
         show _ = _
         rw [nam, if_neg (by rw [HW.out]; simp), if_neg (by rw [HD.out]; simp), if_pos (T2.out hz)]
        go_wp2_with (go_at_call 43; refine HF.out.mono ?_; rintro e w2 ⟨rfl, q2, rfl⟩)
        go_ret
        exact ⟨ret_int HN.out.symm, _, rfl⟩
       ·go_wp2_with (go_at_call 43; refine HF.out.mono ?_; rintro e w2 ⟨rfl, q2, rfl⟩)
        exact ⟨⟨i + 1, q + q2, by simp, by go_num, by omega, T1.out hz⟩, by simp [intOf]; omega⟩
      ·have hd : decide ((i : Int) < n) = false := by simpa using hi
       have HN : Hid (nam (nds L) = 0) := by
        show _ = _
        rw [List.take_of_length_le (by rw [nds_length, HLN.out]; omega)] at hinv
        rw [nam, if_neg (by rw [HW.out]; simp), if_neg (by rw [HD.out]; simp), if_neg (by simpa using hinv)]
       clear hinv
       go_wp2
       go_ret
       exact ⟨ret_int HN.out.symm, q, rfl⟩
end Go.Proofs.Ytgnjifdaccphhaa
namespace Go.Proofs.Ytgnjifdaccphhaa
open Go.RowKit Go.Maps
open Nam Tre
open Lz (g)
theorem attrNeq (w : World) (x y z x' y' z' : Int) : (binOp .neq 34 (.agg #[.int .i64 x, .int .i64 y, .int .i64 z]) (.agg #[.int .i64 x', .int .i64 y', .int .i64 z'])).run Try.prog w = .ok (.bool (!decide (x = x' ∧ y = y' ∧ z = z'))) w := by
 have u3 := Try.underlying3
 have a3 := Try.isAgg3
 have z3 := Try.sizeOf3
 have hS : Try.prog.underlying 34 = some (.struct (Try.prog.fieldsOf 34)) := by kernel_rfl
 have hp : Try.prog.stoodInHeld 34 = false := by kernel_rfl
 rw [run_neq_struct, show (10000 : Nat) = 9999 + 1 from rfl, run_equalIn_agg w 9999 34 _ _ hS hp]
 simp only [Program.fieldsOf, Try.underlying34]
 go_simp
 by_cases h1 : x = x' <;> by_cases h2 : y = y' <;> by_cases h3 : z = z' <;> simp [h1, h2, h3]
theorem bne_of {a b : Int} {q : Bool} (h : (a == b) = q) : (a != b) = !q := by rw [bne, h]
theorem str_conv0 {w w0 : World} {a : Option Addr} {n : Nat} {x : List Int} (hx : Bs w0 a n x) (h0 : Below w0.heap.size w0 w) (c : Nat) : (convert 35 9 (.slice a n c)).run Try.prog w = .ok (.string (strOfNums x)) w :=
 str_any (hx.below h0) c
set_option maxRecDepth 100000 in
set_option maxHeartbeats 1000000 in
theorem refAlike_any (v u : Nv) (x y : Nod) (w : World) (hv : Rep w v x) (hu : Rep w u y) :
  Calls Try.prog 15 #[.agg v.cells, .agg u.cells] w fun e w' => e = .returned (.bool (alike x y)) ∧ Below w.heap.size w w' := by
 obtain ⟨a, ha⟩ : ∃ q, (v.kind == u.kind) = q := ⟨_, rfl⟩
 obtain ⟨b, hb⟩ : ∃ q, decide (v.mode = u.mode ∧ v.uid = u.uid ∧ v.gid = u.gid) = q := ⟨_, rfl⟩
 obtain ⟨c, hc⟩ : ∃ q, (v.tg.toList == u.tg.toList) = q := ⟨_, rfl⟩
 obtain ⟨d, hd⟩ : ∃ q, (v.op == u.op) = q := ⟨_, rfl⟩
 obtain ⟨e, he⟩ : ∃ q, decide (x.data = y.data) = q := ⟨_, rfl⟩
 obtain ⟨f, hf⟩ : ∃ q, decide (x.xs = y.xs) = q := ⟨_, rfl⟩
 have HA := hide (alike_rep hv hu a b c d e f ha hb hc hd he hf)
 have hA : ∀ W : World, (binOp .neq 34 (.agg #[.int .i64 v.mode, .int .i64 v.uid, .int .i64 v.gid]) (.agg #[.int .i64 u.mode, .int .i64 u.uid, .int .i64 u.gid])).run Try.prog W = .ok (.bool (!b)) W := fun W => by rw [attrNeq, hb]
 have ha' := bne_of ha
 have HE := hide ((str_eq hv.data.bytes hu.data.bytes).trans he)
 have s1 := fun o p => str_conv0 hv.data (below_alloc2 w o p) v.dc
 have s2 := fun o p => str_conv0 hu.data (below_alloc2 w o p) u.dc
 have HE' := HE.out
 generalize strOfNums x.data = S1 at s1 HE'
 generalize strOfNums y.data = S2 at s2 HE'
 clear HE
 have HV := hide hv
 have HU := hide hu
 have HF := hide hf
 have x1 := hv.xc
 have x2 := hv.xcm
 clear hv hu he hf hb
 unfold Nv.cells
 cases a with
 | false =>
  go_enter Try.func15, Try.ntmps15
  go_wp2
  go_ret
  exact ⟨ret_bool (by rw [HA.out]; rfl), below_alloc2 w _ _⟩
 | true =>
 cases b with
 | false =>
  go_enter Try.func15, Try.ntmps15
  go_wp2
  go_ret
  exact ⟨ret_bool (by rw [HA.out]; rfl), below_alloc2 w _ _⟩
 | true =>
 cases e with
 | false =>
  go_enter Try.func15, Try.ntmps15
  go_wp2
  go_ret
  exact ⟨ret_bool (by rw [HA.out]; cases c <;> cases d <;> rfl), below_alloc2 w _ _⟩
 | true =>
 cases c with
 | false =>
  go_enter Try.func15, Try.ntmps15
  go_wp2
  go_ret
  exact ⟨ret_bool (by rw [HA.out]; rfl), below_alloc2 w _ _⟩
 | true =>
 cases d with
 | false =>
  have hd' : (v.op != u.op) = true := by rw [bne, hd]; rfl
  go_enter Try.func15, Try.ntmps15
  go_wp2
  go_ret
  exact ⟨ret_bool (by rw [HA.out]; rfl), below_alloc2 w _ _⟩
 | true =>
 have hd' : (v.op != u.op) = false := by rw [bne, hd]; rfl
 have HLN := hide HV.out.xs.1
 have HKN := hide HU.out.xs.1
 by_cases hnm : v.xn = u.xn
 ·have hn' : ((v.xn : Int) != u.xn) = false := by simp; omega
  have HNM := hide hnm
  obtain ⟨W, hW⟩ : ∃ W, W = (w.alloc (.cells v.cells 38)).alloc (.cells u.cells 38) := ⟨_, rfl⟩
  have HW := hide hW
  have hbel : Hid (Below w.heap.size w W) := by show Below _ _ _; rw [hW]; exact below_alloc2 w _ _
  have g1 : W.cell? ⟨w.heap.size, 8, none⟩ = some (.slice v.xa v.xn v.xc) := by rw [hW]; simp [Nv.cells]
  have g2 : W.cell? ⟨w.heap.size + 1, 8, none⟩ = some (.slice u.xa u.xn u.xc) := by rw [hW]; simp [Nv.cells]
  clear hW hnm
  go_enter Try.func15, Try.ntmps15
  go_wp2
  go_loopw [5] (fun r wr => ∃ i q : Nat, wr = W.drewN q ∧ r = .int .i64 i ∧ i ≤ v.xn ∧ (x.xs = y.xs ↔ x.xs.drop i = y.xs.drop i)) (fun r _ => v.xn - (intOf r).toNat)
  case atStart => exact ⟨0, 0, HW.out.symm, rfl, Nat.zero_le _, Iff.rfl⟩
  case round =>
   obtain ⟨i, q, rfl, rfl, hi0, hinv⟩ := hrel
   have HI := hide hinv
   by_cases hp : i < v.xn
   ·have hd0 : decide ((i : Int) < v.xn) = true := by simpa using hp
    have hp2 : i < u.xn := by rw [← HNM.out]; exact hp
    have hp3 : (i : Int) < u.xn := by omega
    obtain ⟨ba, oa, ea, hba, hca⟩ := (HV.out.xs.below hbel.out).at (by omega)
    obtain ⟨bb, ob, eb, hbb, hcb⟩ := (HU.out.xs.below hbel.out).at (by omega)
    obtain ⟨c1, va, vn, vc, c2, b1, _⟩ := hca i hp
    obtain ⟨c3, ua, un, uc, c4, b2, _⟩ := hcb i hp2
    rw [ea] at g1
    rw [eb] at g2
    have r1 : ∀ k, (convert 35 9 (.slice va vn vc)).run Try.prog (W.drewN k) = .ok (.string (strOfNums (gx x.xs i).2)) (W.drewN k) := fun k => str_any (b1.below (drewN_below W k)) vc
    have r2 : ∀ k, (convert 35 9 (.slice ua un uc)).run Try.prog (W.drewN k) = .ok (.string (strOfNums (gx y.xs i).2)) (W.drewN k) := fun k => str_any (b2.below (drewN_below W k)) uc
    have ES := hide (xs_step (l := x.xs) (k := y.xs) (i := i) (by rw [HLN.out]; exact hp) (by rw [HKN.out]; exact hp2))
    have HSE := hide (str_eq b1.bytes b2.bytes)
    have HSE' := HSE.out
    generalize strOfNums (gx x.xs i).2 = T1 at r1 HSE'
    generalize strOfNums (gx y.xs i).2 = T2 at r2 HSE'
    have HSQ := hide HSE'
    clear hca hcb b1 b2 hinv HSE HSE' s1 s2
    obtain ⟨q1, hq1⟩ : ∃ q, ((gx x.xs i).1.toList == (gx y.xs i).1.toList) = q := ⟨_, rfl⟩
    cases q1 with
    | false =>
     have hq2 : (!(gx x.xs i).1.toList == (gx y.xs i).1.toList) = true := by rw [hq1]; rfl
     have HQ : Hid (f = false) := by
      show _ = _
      rw [← HF.out, decide_eq_false_iff_not, HI.out, ES.out]
      intro h
      rw [h.1] at hq1
      simp at hq1
     go_wp2
     go_quiet (fail)
     go_wp2
     go_ret
     refine ⟨ret_bool (by rw [HA.out, HQ.out]; rfl), ?_⟩
     simp only [World.drewN_drewN]
     exact hbel.out.trans (drewN_below _ _)
    | true =>
     have hq2 : (!(gx x.xs i).1.toList == (gx y.xs i).1.toList) = false := by rw [hq1]; rfl
     have HN1 : Hid ((gx x.xs i).1 = (gx y.xs i).1) := toList_inj (by simpa using hq1)
     go_wp2
     go_quiet (fail)
     go_wp2
     ·have e : (!T1.toList == T2.toList) = true := by assumption
      have HQ : Hid (f = false) := by
       show _ = _
       rw [← HF.out, decide_eq_false_iff_not, HI.out, ES.out]
       intro h
       rw [HSQ.out, h.1] at e
       simp at e
      go_ret
      refine ⟨ret_bool (by rw [HA.out, HQ.out]; rfl), ?_⟩
      simp only [World.drewN_drewN]
      exact hbel.out.trans (drewN_below _ _)
     ·have e : (!T1.toList == T2.toList) = false := by assumption
      refine ⟨⟨i + 1, _, rfl, by go_num, by omega, ?_⟩, by simp [intOf]; omega⟩
      rw [HI.out, ES.out]
      rw [HSQ.out] at e
      have e2 : (gx x.xs i).2 = (gx y.xs i).2 := by simpa using e
      have : gx x.xs i = gx y.xs i := Prod.ext HN1.out e2
      simp [this]
   ·have hd0 : decide ((i : Int) < v.xn) = false := by simpa using hp
    have HQ : Hid (f = true) := by
     show _ = _
     rw [← HF.out, decide_eq_true_eq, HI.out, List.drop_eq_nil_of_le (by rw [HLN.out]; omega), List.drop_eq_nil_of_le (by rw [HKN.out]; have := HNM.out; omega)]
    go_wp2
    go_ret
    refine ⟨ret_bool (by rw [HA.out, HQ.out]; rfl), hbel.out.trans (drewN_below _ _)⟩
 ·have hn' : ((v.xn : Int) != u.xn) = true := by simp; omega
  have HN : Hid (f = false) := by
   show _ = _
   rw [← HF.out, decide_eq_false_iff_not]
   intro h
   have := congrArg List.length h
   rw [HLN.out, HKN.out] at this
   exact hnm this
  go_enter Try.func15, Try.ntmps15
  go_wp2
  go_ret
  exact ⟨ret_bool (by rw [HA.out, HN.out]; rfl), below_alloc2 w _ _⟩
end Go.Proofs.Ytgnjifdaccphhaa

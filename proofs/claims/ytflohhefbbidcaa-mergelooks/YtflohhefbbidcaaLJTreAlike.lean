import Derived.Test.YtflohhefbbidcaaLJNamRow
import Derived.Laws.StructEq
import Derived.Stop.BytesEq
import Derived.BigRegion
import Derived.BigQuiet
import Derived.Deep.RegionHeld3
set_option linter.unusedVariables false
namespace Go.Proofs.Ytflohhefbbidcaa
open Go.RowKit Go.Maps
open Nam Tre
open Lz (g)
theorem byt_eq (s t : ByteArray) : (s.toList == t.toList) = decide (s = t) := by
 rw [Bool.eq_iff_iff, beq_iff_eq, decide_eq_true_eq]
 exact ⟨toList_inj, fun h => by rw [h]⟩
theorem below_alloc2 (w : World) (o p : Obj) : Below w.heap.size w ((w.alloc o).alloc p) := ((Below.refl _ _).alloc (Nat.le_refl _) _).alloc (by simp) _
theorem xs_drop (xs : List (ByteArray × List Int)) (i : Nat) (h : i < xs.length) : xs.drop i = gx xs i :: xs.drop (i + 1) := by
 rw [List.drop_eq_getElem_cons h, gx_lt xs i h]
theorem xs_step {l k : List (ByteArray × List Int)} {i : Nat} (h : i < l.length) (h' : i < k.length) : l.drop i = k.drop i ↔ gx l i = gx k i ∧ l.drop (i + 1) = k.drop (i + 1) := by
 rw [xs_drop l i h, xs_drop k i h', List.cons.injEq]
theorem attrEq (w : World) (x y z x' y' z' : Int) : (binOp .eql 40 (.agg #[.int .i64 x, .int .i64 y, .int .i64 z]) (.agg #[.int .i64 x', .int .i64 y', .int .i64 z'])).run Try.prog w = .ok (.bool (decide (x = x' ∧ y = y' ∧ z = z'))) w := by
 have u3 := Try.underlying3
 have a3 := Try.isAgg3
 have z3 := Try.sizeOf3
 have hS : Try.prog.underlying 40 = some (.struct (Try.prog.fieldsOf 40)) := by kernel_rfl
 have hp : Try.prog.stoodInHeld 40 = false := by kernel_rfl
 rw [run_eql_struct, show (10000 : Nat) = 9999 + 1 from rfl, run_equalIn_agg w 9999 40 _ _ hS hp]
 simp only [Program.fieldsOf, Try.underlying40]
 go_simp
 by_cases h1 : x = x' <;> by_cases h2 : y = y' <;> by_cases h3 : z = z' <;> simp [h1, h2, h3]
theorem alike_rep {w : World} {v u : Nv} {x y : Nod} (hv : Rep w v x) (hu : Rep w u y) (a b c d e f : Bool) (ha : (v.kind == u.kind) = a) (hb : decide (v.mode = u.mode ∧ v.uid = u.uid ∧ v.gid = u.gid) = b) (hc : (v.tg.toList == u.tg.toList) = c) (hd : (v.op == u.op) = d) (he : decide (x.data = y.data) = e) (hf : decide (x.xs = y.xs) = f) :
  alike x y = (a && b && c && d && e && f) := by
 subst ha hb hc hd he hf
 rw [Bool.eq_iff_iff, alike_iff, hv.kind, hu.kind, hv.mode, hu.mode, hv.uid, hu.uid, hv.gid, hu.gid, hv.tg, hu.tg, hv.op, hu.op, byt_eq]
 simp only [Bool.and_eq_true, decide_eq_true_eq, beq_iff_eq, and_assoc]
end Go.Proofs.Ytflohhefbbidcaa
namespace Go.Proofs.Ytflohhefbbidcaa
open Go.RowKit Go.Maps
open Nam Tre
open Lz (g)
namespace Tre
def fi (p : Nod → Bool) : Nat → List Nod → Int
 | _, [] => -1
 | i, n :: r => if p n = true then i else fi p (i + 1) r
theorem fv_drop (l : List ByteArray) (i : Nat) (h : i < l.length) : fv (l.drop i) = if valid (gs l i).toList = 0 then fv (l.drop (i + 1)) else valid (gs l i).toList := by
 rw [List.drop_eq_getElem_cons h, gs_lt l i h, fv]
end Tre
def Asks (fn : Nat) (caps : Array Value) (p : Nod → Bool) (L : List (Nv × Nod)) (w : World) : Prop :=
 ∀ q ∈ L, ∀ w1, Below w.heap.size w w1 → Calls Try.prog fn (#[.agg q.1.cells] ++ caps) w1 fun e w' => e = .returned (.bool (p q.2)) ∧ Below w1.heap.size w1 w'
set_option maxRecDepth 100000 in
theorem IndexFunc_any (a : Option Addr) (n c : Nat) (L : List (Nv × Nod)) (fn : Nat) (caps : Array Value) (p : Nod → Bool) (w : World) (hl : Ns w a n L) (hc : n ≤ c) (hcm : c ≤ 9223372036854775807)
  (hen : ∀ (args : Array Value) (w : World), (callFunc fn args).run Try.prog w = .ok (.enter fn args) w) (hp : Asks fn caps p L w) :
  Calls Try.prog 62 #[.slice a n c, .func (.func fn) #[] caps] w fun e w' => e = .returned (.int .i64 (fi p 0 (nds L))) ∧ Below w.heap.size w w' := by
 have HL := hide hl
 have HLN := hide hl.1
 have HP := hide hp
 clear hl hp
 go_enter Try.func62, Try.ntmps62
 go_wp2
 go_loopw [5, 8] (fun _ r wr => ∃ i : Nat, r = .int .i64 i ∧ i ≤ n ∧ Below w.heap.size w wr ∧ fi p 0 (nds L) = fi p i ((nds L).drop i)) (fun _ r _ => n - (intOf r).toNat)
 case atStart => exact ⟨0, rfl, Nat.zero_le _, Below.refl _ _, rfl⟩
 case round =>
  obtain ⟨i, rfl, hi0, hbel, hinv⟩ := hrel
  have HI := hide hinv
  have HB := hide hbel
  by_cases hi : i < n
  ·have hd : decide ((i : Int) < n) = true := by simpa using hi
   obtain ⟨ba, oa, rfl, hba, hca⟩ := (HL.out.below hbel).at (by omega)
   obtain ⟨c0, c1, c2, c3, c4, c5, c6, c7, c8, c9⟩ := hca i hi
   have HE := hide (nds_drop L i (by rw [HLN.out]; exact hi))
   obtain ⟨z, hz⟩ : ∃ z, p (gl L i).2 = z := ⟨_, rfl⟩
   have HZ := hide hz
   have HQ := hide (fun w1 hb => HP.out (gl L i) (gl_mem L i (by rw [HLN.out]; exact hi)) w1 hb)
   clear hca hinv hbel hz
   go_wp2_with fail
   refine (HQ.out _ HB.out).mono ?_
   rw [HZ.out]
   rintro e w1 ⟨rfl, hb1⟩
   have e1 := hide (HB.out.trans (hb1.mono HB.out.size))
   clear hb1
   cases z with
   | true =>
    go_wp2
    go_ret
    exact ⟨ret_int (by rw [HI.out, HE.out, fi, HZ.out]; rfl), e1.out⟩
   | false =>
    go_wp2
    refine ⟨⟨i + 1, by go_num, by omega, e1.out, ?_⟩, by simp [intOf]; omega⟩
    rw [HI.out, HE.out, fi, HZ.out]; rfl
  ·have hd : decide ((i : Int) < n) = false := by simpa using hi
   go_wp2
   go_ret
   refine ⟨ret_int ?_, HB.out⟩
   rw [HI.out, List.drop_eq_nil_of_le (by rw [nds_length, HLN.out]; omega)]; rfl
end Go.Proofs.Ytflohhefbbidcaa
namespace Go.Proofs.Ytflohhefbbidcaa
open Go.RowKit Go.Maps
open Nam Tre
theorem nm_dec (l k : List ByteArray) : decide (nm l = nm k) = decide (l = k) := by
 rw [Bool.eq_iff_iff, decide_eq_true_eq, decide_eq_true_eq]
 exact ⟨nm_inj, fun h => by rw [h]⟩
theorem refSame_one (a b : Option Addr) (n c m d : Nat) (l k : List ByteArray) (w : World) (hl : Rs w a n l) (hk : Rs w b m k) (hn : n ≤ 1000000) :
  Calls Try.prog 31 #[.slice a n c, .slice b m d] w fun e w' => e = .returned (.bool (decide (l = k))) ∧ ∃ q, w' = w.drewN q := by
 by_cases hnm : n = m
 ·have := refSame_any a b n c m d l k w hl hk hn (by omega)
  rw [nm_dec] at this
  exact this
 ·have hnm' : ((n : Int) != m) = true := by simp; omega
  have hne : Hid (false = decide (l = k)) := by
   show _ = _
   symm
   rw [decide_eq_false_iff_not]
   intro h
   have := congrArg List.length h
   rw [hl.1, hk.1] at this
   exact hnm this
  clear hl hk
  go_enter Try.func31, Try.ntmps31
  go_wp2
  go_ret
  exact ⟨ret_bool hne.out, 0, rfl⟩
namespace Tre
def nmd (m : List ByteArray) (n : Nod) : Bool := decide (n.names = m)
theorem fi_spec (p : Nod → Bool) : ∀ (l : List Nod) (i : Nat), (fi p i l = -1 ∧ l.find? p = none) ∨ ∃ j, fi p i l = ((i + j : Nat) : Int) ∧ ∃ (h : j < l.length), l.find? p = some l[j]
 | [], i => .inl ⟨rfl, rfl⟩
 | n :: r, i => by
  unfold fi
  rw [List.find?_cons]
  cases hp : p n with
  | true => exact .inr ⟨0, by simp, by simp, rfl⟩
  | false =>
   simp only [Bool.false_eq_true, if_false]
   rcases fi_spec p r (i + 1) with h | ⟨j, h1, h2, h3⟩
   ·exact .inl h
   ·exact .inr ⟨j + 1, by rw [h1]; congr 1; omega, by simp; omega, by simpa using h3⟩
end Tre
set_option maxRecDepth 100000 in
theorem refFind_any (a : Option Addr) (n c : Nat) (L : List (Nv × Nod)) (b : Option Addr) (m d : Nat) (k : List ByteArray) (w : World) (hl : Ns w a n L) (hc : n ≤ c) (hcm : c ≤ 9223372036854775807) (hk : Rs w b m k) (h20 : ∀ p ∈ L, p.2.names.length ≤ 1000000) :
  Calls Try.prog 35 #[.slice a n c, .slice b m d] w fun e w' => e = .returned (.int .i64 (fi (nmd k) 0 (nds L))) ∧ ∃ q, w' = w.drewN q := by
 have HL := hide hl
 have HLN := hide hl.1
 have HK := hide hk
 have H20 := hide h20
 clear hl hk h20
 go_enter Try.func35, Try.ntmps35
 go_wp2
 go_loopw [5, 6] (fun r _ wr => ∃ i q : Nat, wr = w.drewN q ∧ r = .int .i64 i ∧ i ≤ n ∧ fi (nmd k) 0 (nds L) = fi (nmd k) i ((nds L).drop i)) (fun r _ _ => n - (intOf r).toNat)
 case atStart => exact ⟨0, 0, rfl, rfl, Nat.zero_le _, rfl⟩
 case round =>
  obtain ⟨i, q, rfl, rfl, hi0, hinv⟩ := hrel
  have HI := hide hinv
  by_cases hi : i < n
  ·have hd : decide ((i : Int) < n) = true := by simpa using hi
   obtain ⟨ba, oa, rfl, hba, hca⟩ := HL.out.at (by omega)
   obtain ⟨c0, _, _, _, _, _, _, _, _, _⟩ := hca i hi
   have HE := hide (nds_drop L i (by rw [HLN.out]; exact hi))
   have hr := HL.out.rep i hi
   have hnn : (gl L i).1.nn ≤ 1000000 := by have := hr.names.1; have := H20.out (gl L i) (gl_mem L i (by rw [HLN.out]; exact hi)); omega
   have HC := hide (refSame_one (gl L i).1.na b (gl L i).1.nn (gl L i).1.nc m d (gl L i).2.names k (w.drewN q) (hr.names.drewN q) (HK.out.drewN q) hnn)
   obtain ⟨z, hz⟩ : ∃ z, nmd k (gl L i).2 = z := ⟨_, rfl⟩
   have HZ := hide hz
   rw [show decide ((gl L i).2.names = k) = z from hz] at HC
   clear hca hinv hz hr
   go_wp2_with (go_at_call 31; refine HC.out.mono ?_)
   rintro e w1 ⟨rfl, q1, rfl⟩
   cases z with
   | true =>
    go_wp2
    go_ret
    exact ⟨ret_int (by rw [HI.out, HE.out, fi, HZ.out]; rfl), _, rfl⟩
   | false =>
    go_wp2
    refine ⟨⟨i + 1, q + q1, by simp, by go_num, by omega, ?_⟩, by simp [intOf]; omega⟩
    rw [HI.out, HE.out, fi, HZ.out]; rfl
  ·have hd : decide ((i : Int) < n) = false := by simpa using hi
   go_wp2
   go_ret
   refine ⟨ret_int ?_, q, rfl⟩
   rw [HI.out, List.drop_eq_nil_of_le (by rw [nds_length, HLN.out]; omega)]; rfl
set_option maxRecDepth 100000 in
theorem refIsDir_any (a : Option Addr) (n c : Nat) (L : List (Nv × Nod)) (b : Option Addr) (m d : Nat) (k : List ByteArray) (w : World) (hl : Ns w a n L) (hc : n ≤ c) (hcm : c ≤ 9223372036854775807) (hk : Rs w b m k) (h20 : ∀ p ∈ L, p.2.names.length ≤ 1000000) :
  Calls Try.prog 56 #[.slice a n c, .slice b m d] w fun e w' => e = .returned (.bool (isDir (nds L) k)) ∧ ∃ q, w' = w.drewN q := by
 have HF := hide (refFind_any a n c L b m d k w hl hc hcm hk h20)
 have HL := hide hl
 have HLN := hide hl.1
 rcases fi_spec (nmd k) (nds L) 0 with ⟨h1, h2⟩ | ⟨j, h1, h2, h3⟩
 ·rw [h1] at HF
  have HD : Hid (isDir (nds L) k = false) := by
   show _ = _
   unfold isDir
   have h2' : (nds L).find? (fun n => decide (n.names = k)) = none := h2
   rw [h2']
  clear hl hk h1 h2
  go_enter Try.func56, Try.ntmps56
  go_wp2_with (go_at_call 35; refine HF.out.mono ?_; rintro e w1 ⟨rfl, q1, rfl⟩)
  go_ret
  exact ⟨ret_bool HD.out.symm, q1, rfl⟩
 ·rw [Nat.zero_add] at h1
  rw [h1] at HF
  have hj : j < n := by rw [nds_length, hl.1] at h2; exact h2
  obtain ⟨ba, oa, rfl, hba, hca⟩ := hl.at (by omega)
  obtain ⟨_, _, c2, _, _, _, _, _, _, _⟩ := hca j hj
  have HD : Hid (((gl L j).1.kind == 1) = isDir (nds L) k) := by
   show _ = _
   unfold isDir
   have h3' : (nds L).find? (fun n => decide (n.names = k)) = some (nds L)[j] := h3
   have e : (nds L)[j] = (gl L j).2 := by rw [gl_lt L j (by rw [HLN.out]; exact hj)]; simp [nds]
   rw [h3', e, ← (hl.rep j hj).kind]
   rw [Bool.eq_iff_iff, beq_iff_eq, decide_eq_true_eq]
  have hj1 : (j : Int) < n := by omega
  have hj0 : (0 : Int) ≤ j := by omega
  clear hl hk h1 h2 h3 hca
  go_enter Try.func56, Try.ntmps56
  go_wp2_with (go_at_call 35; refine HF.out.mono ?_; rintro e w1 ⟨rfl, q1, rfl⟩)
  go_ret
  exact ⟨ret_bool HD.out, q1, rfl⟩
end Go.Proofs.Ytflohhefbbidcaa
namespace Go.Proofs.Ytflohhefbbidcaa
open Go.RowKit Go.Maps
open Stb
namespace Plc
def cd (l k : Nat) : Nat := l * 65536 + k
def pa (c : Nat) : Nat := c / 65536
def pb (c : Nat) : Nat := c % 65536
theorem pa_cd {l k : Nat} (h : k < 65536) : pa (cd l k) = l := by unfold pa cd; omega
theorem pb_cd {l k : Nat} (h : k < 65536) : pb (cd l k) = k := by unfold pb cd; omega
theorem cd_pab (c : Nat) : cd (pa c) (pb c) = c := by unfold pa pb cd; omega
def pvs (n : Nat) (C : Nat → Nat) : List Value := (List.range n).flatMap fun k => [Value.int .i64 (pa (C k) : Int), Value.int .i64 (pb (C k) : Int)]
theorem pvs_succ (n : Nat) (C : Nat → Nat) : pvs (n + 1) C = pvs n C ++ [Value.int .i64 (pa (C n) : Int), Value.int .i64 (pb (C n) : Int)] := by
 simp [pvs, List.range_succ]
theorem pvs_length : ∀ (n : Nat) (C : Nat → Nat), (pvs n C).length = n * 2
 | 0, _ => rfl
 | n + 1, C => by rw [pvs_succ, List.length_append, pvs_length n C]; simp; omega
theorem pvs_get : ∀ (n : Nat) (C : Nat → Nat) (k : Nat), k < n → (pvs n C)[k * 2]? = some (.int .i64 (pa (C k) : Int)) ∧ (pvs n C)[k * 2 + 1]? = some (.int .i64 (pb (C k) : Int))
 | 0, _, k, h => by omega
 | n + 1, C, k, h => by
  rw [pvs_succ]
  by_cases e : k < n
  ·rw [List.getElem?_append_left (by rw [pvs_length]; omega), List.getElem?_append_left (by rw [pvs_length]; omega)]
   exact pvs_get n C k e
  ·obtain rfl : k = n := by omega
   rw [List.getElem?_append_right (by rw [pvs_length]; omega), List.getElem?_append_right (by rw [pvs_length]; omega), pvs_length]
   simp
theorem pvs_set : ∀ (n : Nat) (C : Nat → Nat) (i z : Nat), i < n → ((pvs n C).set (i * 2) (.int .i64 (pa z : Int))).set (i * 2 + 1) (.int .i64 (pb z : Int)) = pvs n (fun k => if k = i then z else C k) := by
 intro n C i z hi
 apply List.ext_getElem?
 intro k
 rw [List.getElem?_set, List.getElem?_set]
 simp only [List.length_set, pvs_length]
 by_cases hk : k < n * 2
 ·obtain ⟨q, hq⟩ : ∃ q, k = q * 2 ∨ k = q * 2 + 1 := ⟨k / 2, by omega⟩
  rcases hq with rfl | rfl
  ·have hqn : q < n := by omega
   rw [(pvs_get n C q hqn).1, (pvs_get n _ q hqn).1]
   by_cases e : q = i
   ·subst e; rw [if_neg (by omega), if_pos rfl, if_pos (by omega), if_pos rfl]
   ·rw [if_neg (by omega), if_neg (by omega), if_neg e]
  ·have hqn : q < n := by omega
   rw [(pvs_get n C q hqn).2, (pvs_get n _ q hqn).2]
   by_cases e : q = i
   ·subst e; rw [if_pos rfl, if_pos (by omega), if_pos rfl]
   ·rw [if_neg (by omega), if_neg (by omega), if_neg e]
 ·rw [List.getElem?_eq_none (by rw [pvs_length]; omega), List.getElem?_eq_none (by rw [pvs_length]; omega), if_neg (by omega), if_neg (by omega)]
end Plc
open Plc
structure PR (w0 : World) (B blk n cap : Nat) (w : World) (C : Nat → Nat) : Prop where
 row : w.ownsRow B 57 2 (.slice (some ⟨blk, 0, none⟩) n cap) n (pvs n C)
 bel : Below blk w0 w
 lt : blk < w.heap.size
def put2 (w : World) (blk i z : Nat) : World := (w.setCell ⟨blk, i * 2, none⟩ (.int .i64 (pa z : Int))).setCell ⟨blk, i * 2 + 1, none⟩ (.int .i64 (pb z : Int))
theorem PR.set {w0 w : World} {B blk n cap : Nat} {C : Nat → Nat} (h : PR w0 B blk n cap w C) {i : Nat} (hi : i < n) (z : Nat) : PR w0 B blk n cap (put2 w blk i z) (fun k => if k = i then z else C k) := by
 have h1 := (h.row.stored (i * 2) (.int .i64 (pa z : Int))).1
 have h2 := (h1.stored (i * 2 + 1) (.int .i64 (pb z : Int))).1
 rw [pvs_set n C i z hi] at h2
 exact ⟨h2, (h.bel.setCell (Nat.le_refl _) _).setCell (Nat.le_refl _) _, by have := h.lt; simp [put2]; exact this⟩
theorem PR.same {w0 w : World} {B blk n cap : Nat} {C D : Nat → Nat} (h : PR w0 B blk n cap w C) (e : ∀ k, k < n → D k = C k) : PR w0 B blk n cap w D := by
 have : pvs n D = pvs n C := by
  unfold pvs
  rw [List.flatMap_def, List.flatMap_def]
  congr 1
  exact List.map_congr_left fun k hk => by rw [e k (by simpa using hk)]
 exact ⟨by rw [this]; exact h.row, h.bel, h.lt⟩
theorem PR.cell {w0 w : World} {B blk n cap : Nat} {C : Nat → Nat} (h : PR w0 B blk n cap w C) {k : Nat} (hk : k < n) : w.cell? ⟨blk, k * 2, none⟩ = some (.int .i64 (pa (C k) : Int)) ∧ w.cell? ⟨blk, k * 2 + 1, none⟩ = some (.int .i64 (pb (C k) : Int)) := by
 rw [h.row.cellAt (k * 2) (by omega), h.row.cellAt (k * 2 + 1) (by omega)]
 exact pvs_get n C k hk
theorem PR.froz {w0 w : World} {B blk n cap : Nat} {C : Nat → Nat} (h : PR w0 B blk n cap w C) (k : Nat) : w.frozen? ⟨blk, k, none⟩ = false := h.row.frozenAt _
theorem PR.below {w0 w w' : World} {B blk n cap : Nat} {C : Nat → Nat} (h : PR w0 B blk n cap w C) (hb : Below w.heap.size w w') : PR w0 B blk n cap w' C :=
 ⟨h.row.kept (row := none) ⟨hb.os, hb.tape, hb.output, hb.size, fun k hk _ => hb.block k hk⟩ (.inr (by simp [Value.ownBlock])), h.bel.trans (hb.mono (Nat.le_of_lt h.lt)), Nat.lt_of_lt_of_le h.lt hb.size⟩
theorem PR.drew1 {w0 w : World} {B blk n cap : Nat} {C : Nat → Nat} (h : PR w0 B blk n cap w C) : PR w0 B blk n cap w.drew C := ⟨h.row, h.bel.drew, h.lt⟩
theorem PR.swap {w0 w : World} {B blk n cap : Nat} {C : Nat → Nat} (h : PR w0 B blk n cap w C) {i j : Nat} (hi : i < n) (hj : j < n) (hne : i ≠ j) : PR w0 B blk n cap (put2 (put2 w blk i (C j)) blk j (C i)) (swp C i j) := by
 refine ((h.set hi (C j)).set hj (C i)).same fun k _ => ?_
 simp only [swp]
 by_cases e : k = i
 ·simp only [if_pos e, if_neg (show ¬ k = j by omega)]
 ·by_cases f : k = j
  ·simp only [if_pos f, if_neg e]
  ·simp only [if_neg f, if_neg e]
set_option maxRecDepth 100000 in
theorem pswapRange_any (w0 : World) (B blk n cap : Nat) (fv : Value) (a b m : Nat) (C : Nat → Nat) (w : World) (h : PR w0 B blk n cap w C) (hn : n ≤ 1000) (h1 : a + m ≤ b) (h2 : b + m ≤ n) :
  Calls Try.prog 75 #[.slice (some ⟨blk, 0, none⟩) n cap, .int .i64 a, .int .i64 b, .int .i64 m, fv] w fun e w' => e = .returned (.tuple #[]) ∧ PR w0 B blk n cap w' (swr C a b m) := by
 have H := hide h
 clear h
 go_enter Try.func75, Try.ntmps75
 go_wp2
 go_loopw [10] (fun r wr => ∃ i : Nat, r = .int .i64 i ∧ i ≤ m ∧ PR w0 B blk n cap wr (swr C a b i)) (fun r _ => m - (intOf r).toNat)
 case atStart => exact ⟨0, rfl, Nat.zero_le _, by rw [swr_zero]; exact H.out⟩
 case round =>
  obtain ⟨i, rfl, hi0, hir⟩ := hrel
  have HI := hide hir
  by_cases hi : i < m
  ·have hd : decide ((i : Int) < m) = true := by simpa using hi
   have w1 : IntKind.i64.wrap ((a : Int) + i) = ((a + i : Nat) : Int) := by rw [IntWalk.i64_in _ (by omega)]; omega
   have w2 : IntKind.i64.wrap ((b : Int) + i) = ((b + i : Nat) : Int) := by rw [IntWalk.i64_in _ (by omega)]; omega
   have i1 : ((a + i : Nat) : Int) < n := by omega
   have i2 : ((b + i : Nat) : Int) < n := by omega
   obtain ⟨c1, c2⟩ := hir.cell (k := a + i) (by omega)
   obtain ⟨c3, c4⟩ := hir.cell (k := b + i) (by omega)
   obtain ⟨p1, hp1⟩ : ∃ p, p = a + i := ⟨_, rfl⟩
   obtain ⟨p2, hp2⟩ : ∃ p, p = b + i := ⟨_, rfl⟩
   have f1 := hir.froz (p1 * 2)
   have f2 := hir.froz (p1 * 2 + 1)
   have f3 := hir.froz (p2 * 2)
   have f4 := hir.froz (p2 * 2 + 1)
   have HS := hide (hir.swap (i := p1) (j := p2) (by omega) (by omega) (by omega))
   have HE := hide (swr_succ C a b i (by omega))
   rw [← hp1] at w1 i1 c1 c2 HE
   rw [← hp2] at w2 i2 c3 c4 HE
   have hne : p1 * 2 ≠ p2 * 2 ∧ p1 * 2 ≠ p2 * 2 + 1 ∧ p1 * 2 + 1 ≠ p2 * 2 ∧ p1 * 2 + 1 ≠ p2 * 2 + 1 := by omega
   obtain ⟨n1, n2, n3, n4⟩ := hne
   generalize swr C a b i p1 = x1 at *
   generalize swr C a b i p2 = x2 at *
   clear hir HI H hp1 hp2
   go_wp2_with fail
   go_region
   have HR : Hid (∀ o, o = (put2 (put2 wr blk p1 x2) blk p2 x1).drew → PR w0 B blk n cap o (swr C a b (i + 1))) := fun o e => by rw [e, ← HE.out]; exact HS.out.drew1
   clear HS HE c1 c2 c3 c4 f1 f2 f3 f4
   go_wp2
   exact ⟨⟨i + 1, by go_num, by omega, HR.out _ rfl⟩, by simp [intOf]; omega⟩
  ·have hd : decide ((i : Int) < m) = false := by simpa using hi
   obtain rfl : i = m := by omega
   go_wp2
   go_end0
   exact ⟨rfl, HI.out⟩
set_option maxRecDepth 100000 in
theorem protate_any (w0 : World) (B blk n cap : Nat) (fv : Value) (a m b : Nat) (C : Nat → Nat) (w : World) (h : PR w0 B blk n cap w C) (hn : n ≤ 1000) (h1 : a < m) (h2 : m < b) (h3 : b ≤ n) :
  Calls Try.prog 73 #[.slice (some ⟨blk, 0, none⟩) n cap, .int .i64 a, .int .i64 m, .int .i64 b, fv] w fun e w' => e = .returned (.tuple #[]) ∧ PR w0 B blk n cap w' (rot C a m b) := by
 have H := hide h
 have v1 : IntKind.i64.wrap ((m : Int) - a) = ((m - a : Nat) : Int) := by rw [IntWalk.i64_in _ (by omega)]; omega
 have v2 : IntKind.i64.wrap ((b : Int) - m) = ((b - m : Nat) : Int) := by rw [IntWalk.i64_in _ (by omega)]; omega
 clear h
 go_enter Try.func73, Try.ntmps73
 go_wp2
 go_loopw [10, 11] (fun r10 r11 wr => ∃ (i j : Nat) (D : Nat → Nat), r10 = .int .i64 i ∧ r11 = .int .i64 j ∧ 0 < i ∧ 0 < j ∧ i ≤ m ∧ m + j ≤ n ∧ PR w0 B blk n cap wr D ∧ rot D (m - i) m (m + j) = rot C a m b) (fun r10 r11 _ => (intOf r10).toNat + (intOf r11).toNat)
 case atStart => exact ⟨m - a, b - m, C, rfl, rfl, by omega, by omega, by omega, by omega, H.out, by congr 1 <;> omega⟩
 case round =>
  obtain ⟨i, j, D, rfl, rfl, hi0, hj0, him, hjn, hir, hrot⟩ := hrel
  have HI := hide hir
  have HRT := hide hrot
  clear hir hrot v1 v2
  have v1 : IntKind.i64.wrap ((m : Int) - i) = ((m - i : Nat) : Int) := by rw [IntWalk.i64_in _ (by omega)]; omega
  rcases Nat.lt_trichotomy i j with c | c | c
  ·have hd : ((i : Int) != j) = true := by simp; omega
   have hd2 : decide ((i : Int) > j) = false := by simp; omega
   have hd3 : decide ((j : Int) < i) = false := by simp; omega
   have v2 : IntKind.i64.wrap ((m : Int) + j) = ((m + j : Nat) : Int) := by rw [IntWalk.i64_in _ (by omega)]; omega
   have v3 : IntKind.i64.wrap (((m + j : Nat) : Int) - i) = ((m + j - i : Nat) : Int) := by rw [IntWalk.i64_in _ (by omega)]; omega
   have v4 : IntKind.i64.wrap ((j : Int) - i) = ((j - i : Nat) : Int) := by rw [IntWalk.i64_in _ (by omega)]; omega
   have HC := hide (pswapRange_any w0 B blk n cap fv (m - i) (m + j - i) i D wr HI.out hn (by omega) (by omega))
   have HE := hide (rot_lt D i j m him c)
   generalize m + j - i = p3 at *
   generalize hp4 : j - i = p4 at *
   generalize hp2 : m + j = p2 at *
   generalize hp1 : m - i = p1 at *
   go_wp2_with (go_at_call 75; refine HC.out.mono ?_)
   rintro e w1 ⟨rfl, hir1⟩
   have HI1 := hide hir1
   clear hir1 HC
   go_wp2
   exact ⟨⟨i, p4, _, rfl, rfl, hi0, by omega, him, by omega, HI1.out, by rw [hp1, HE.out, HRT.out]⟩, by simp [intOf]; omega⟩
  ·subst c
   have hd : ((i : Int) != i) = false := by simp
   have HC := hide (pswapRange_any w0 B blk n cap fv (m - i) m i D wr HI.out hn (by omega) (by omega))
   have HE := hide (rot_eq D i m him)
   generalize m - i = p1 at *
   go_wp2_with (go_at_call 75; refine HC.out.mono ?_)
   rintro e w1 ⟨rfl, hir1⟩
   have HI1 := hide hir1
   clear hir1 HC
   go_wp2
   go_end0
   exact ⟨rfl, by rw [← HRT.out, ← HE.out]; exact HI1.out⟩
  ·have hd : ((i : Int) != j) = true := by simp; omega
   have hd2 : decide ((i : Int) > j) = true := by simp; omega
   have hd3 : decide ((j : Int) < i) = true := by simp; omega
   have v4 : IntKind.i64.wrap ((i : Int) - j) = ((i - j : Nat) : Int) := by rw [IntWalk.i64_in _ (by omega)]; omega
   have HC := hide (pswapRange_any w0 B blk n cap fv (m - i) m j D wr HI.out hn (by omega) (by omega))
   have HE := hide (rot_gt D i j m him c)
   generalize hp4 : i - j = p4 at *
   generalize m - i = p1 at *
   go_wp2_with (go_at_call 75; refine HC.out.mono ?_)
   rintro e w1 ⟨rfl, hir1⟩
   have HI1 := hide hir1
   clear hir1 HC
   go_wp2
   exact ⟨⟨p4, j, _, rfl, rfl, by omega, hj0, by omega, hjn, HI1.out, by rw [← HRT.out, ← HE.out]⟩, by simp [intOf]; omega⟩
end Go.Proofs.Ytflohhefbbidcaa
namespace Go.Proofs.Ytflohhefbbidcaa
open Go.RowKit Go.Maps
open Stb Plc
abbrev pv (c : Nat) : Value := .agg #[.int .i64 (pa c : Int), .int .i64 (pb c : Int)]
def PCmps (fn : Nat) (sv : Value) (kc : Nat → Nat → Int) (S : Nat → Prop) (w0 : World) (blk : Nat) : Prop :=
 ∀ w : World, Below blk w0 w → blk < w.heap.size → ∀ x y, S x → S y →
  Calls Try.prog fn #[sv, pv x, pv y] w fun e w' => e = .returned (.int .i64 (kc x y)) ∧ Below w.heap.size w w'
structure POdr (kc : Nat → Nat → Int) (lt : Nat → Nat → Prop) : Prop where
 neg : ∀ x y, y < x → kc x y < 0 → lt x y
 pos : ∀ x y, y < x → ¬ kc x y < 0 → lt y x
 tr : ∀ x y z, lt x y → lt y z → lt x z
def Two2 (blk i j x y : Nat) (w : World) : Prop := w.cell? ⟨blk, i * 2, none⟩ = some (.int .i64 (pa x : Int)) ∧ w.cell? ⟨blk, i * 2 + 1, none⟩ = some (.int .i64 (pb x : Int)) ∧ w.cell? ⟨blk, j * 2, none⟩ = some (.int .i64 (pa y : Int)) ∧ w.cell? ⟨blk, j * 2 + 1, none⟩ = some (.int .i64 (pb y : Int))
theorem PR.two {w0 w : World} {B blk n cap : Nat} {C : Nat → Nat} (h : PR w0 B blk n cap w C) {i j : Nat} (hi : i < n) (hj : j < n) : Two2 blk i j (C i) (C j) w := ⟨(h.cell hi).1, (h.cell hi).2, (h.cell hj).1, (h.cell hj).2⟩
theorem PCmps.at {fn : Nat} {sv : Value} {kc : Nat → Nat → Int} {S : Nat → Prop} {w0 : World} {blk B n cap : Nat} (h : PCmps fn sv kc S w0 blk) {C : Nat → Nat} {i j : Nat} (hi : i < n) (hj : j < n) (hx : S (C i)) (hy : S (C j)) (W : World) (hir : PR w0 B blk n cap W C) :
  Calls Try.prog fn #[sv, pv (C i), pv (C j)] W fun e w' => e = .returned (.int .i64 (kc (C i) (C j))) ∧ PR w0 B blk n cap w' C ∧ Two2 blk i j (C i) (C j) w' := by
 refine (h W hir.bel hir.lt _ _ hx hy).mono ?_
 rintro e w' ⟨rfl, hb⟩
 exact ⟨rfl, hir.below hb, (hir.below hb).two hi hj⟩
theorem protAll {S : Nat → Prop} {C : Nat → Nat} {n s m e : Nat} (h : ∀ k, k < n → S (C k)) (h1 : s ≤ m) (h2 : m ≤ e) (h3 : e ≤ n) : ∀ k, k < n → S (rot C s m e k) := fun k hk => by
 obtain ⟨j, _, j2, e⟩ := (In.rot (C := C) (a := 0) (Nat.zero_le _) h1 h2 h3).1 ⟨k, Nat.zero_le _, hk, rfl⟩
 rw [← e]; exact h j j2
theorem pMgAll {lt : Nat → Nat → Prop} {S : Nat → Prop} {C D : Nat → Nat} {n a b : Nat} (h : Mg lt C D a b) (hb : b ≤ n) (hs : ∀ k, k < n → S (C k)) : ∀ k, k < n → S (D k) := fun k hk => by
 by_cases c : k < a ∨ b ≤ k
 ·rw [h.out k c]; exact hs k hk
 ·obtain ⟨j, _, j2, e⟩ := (h.inn _).1 ⟨k, by omega, by omega, rfl⟩
  rw [← e]; exact hs j (by omega)
set_option maxRecDepth 100000 in
set_option maxHeartbeats 1000000 in
theorem pinsertion_any (w0 : World) (B blk n cap : Nat) (fn : Nat) (sv : Value) (kc : Nat → Nat → Int) (lt : Nat → Nat → Prop) (S : Nat → Prop) (a b : Nat) (C : Nat → Nat) (w : World)
  (hen : ∀ (args : Array Value) (w : World), (callFunc fn args).run Try.prog w = .ok (.enter fn args) w) (hq : PCmps fn sv kc S w0 blk) (ho : POdr kc lt)
  (h : PR w0 B blk n cap w C) (hn : n ≤ 1000) (hab : a ≤ b) (hb : b ≤ n) (hS : ∀ k, k < n → S (C k)) (hc : ∀ i j, a ≤ i → i < j → j < b → C i < C j) :
  Calls Try.prog 67 #[.slice (some ⟨blk, 0, none⟩) n cap, .int .i64 a, .int .i64 b, .func (.func fn) #[sv] #[]] w fun e w' => e = .returned (.tuple #[]) ∧ ∃ D, PR w0 B blk n cap w' D ∧ Mg lt C D a b := by
 have H := hide h
 have HQ := hide hq
 have HO := hide ho
 have HS := hide hS
 have HC := hide hc
 have v1 : IntKind.i64.wrap ((a : Int) + 1) = ((a + 1 : Nat) : Int) := by rw [IntWalk.i64_in _ (by omega)]; omega
 clear h hq ho hS hc
 go_enter Try.func67, Try.ntmps67
 go_wp2
 go_loopw [8, 9] (fun r _ wr => ∃ (i : Nat) (D : Nat → Nat), r = .int .i64 i ∧ a < i ∧ (i ≤ b ∨ (i = a + 1 ∧ D = C)) ∧ PR w0 B blk n cap wr D ∧ Mg lt C D a i) (fun r _ _ => b - (intOf r).toNat)
 case atStart => exact ⟨a + 1, C, rfl, by omega, .inr ⟨rfl, rfl⟩, H.out, fun _ _ => rfl, fun _ => Iff.rfl, fun i j h1 h2 h3 => by omega⟩
 case round =>
  obtain ⟨i, D, rfl, hai, hib, hir, hmg⟩ := hrel
  have HM := hide hmg
  by_cases hi : i < b
  ·have hd : decide ((i : Int) < b) = true := by simpa using hi
   have HI := hide hir
   have HI0 : Hid (PR w0 B blk n cap wr (rot D i i (i + 1))) := by
    show PR _ _ _ _ _ _ _
    rw [rot_none D i i (i + 1) (Nat.le_refl _) (by omega) (.inl rfl)]; exact hir
   have HDS := hide (pMgAll hmg (by omega) HS.out)
   have HDX : Hid (∀ k, a ≤ k → k < i → D k < D i) := fun k k1 k2 => by
    obtain ⟨p, p1, p2, p3⟩ := (hmg.inn _).1 ⟨k, k1, k2, rfl⟩
    rw [← p3, hmg.out i (.inr (Nat.le_refl _))]
    exact HC.out p i p1 p2 hi
   clear hir hmg hib v1
   obtain ⟨W, rfl⟩ : ∃ W, W = wr := ⟨wr, rfl⟩
   go_wp2
   go_loopw [9] (fun r wr => ∃ j : Nat, r = .int .i64 j ∧ a ≤ j ∧ j ≤ i ∧ PR w0 B blk n cap wr (rot D j i (i + 1)) ∧ (j = i ∨ lt (D i) (D j))) (fun r _ => (intOf r).toNat)
   case atStart => exact ⟨i, rfl, by omega, Nat.le_refl _, HI0.out, .inl rfl⟩
   case round =>
    obtain ⟨j, rfl, haj, hji, hir, hlt⟩ := hrel
    have HLT := hide hlt
    have HJ := hide hir
    by_cases hj : a < j
    ·have hdj : decide ((j : Int) > a) = true := by simpa using hj
     have hdj2 : decide ((a : Int) < j) = true := by simpa using hj
     obtain ⟨t, hjt⟩ : ∃ t, j = t + 1 := ⟨j - 1, by omega⟩
     have HJT := hide hjt
     have v1 : IntKind.i64.wrap ((j : Int) - 1) = (t : Int) := by rw [IntWalk.i64_in _ (by omega)]; omega
     have e1 : rot D j i (i + 1) j = D i := by rw [rot_one D (Nat.le_refl _) (by omega)]; congr 1; omega
     have e2 : rot D j i (i + 1) t = D t := rot_out D hji (by omega) (.inl (by omega))
     have HRD : Hid (swp (rot D j i (i + 1)) j t = rot D t i (i + 1)) := by rw [hjt]; exact rot_down D t i (by omega)
     have hQ0 := HQ.out.at (C := rot D j i (i + 1)) (B := B) (n := n) (cap := cap) (i := j) (j := t) (by omega) (by omega) (by rw [e1]; exact HDS.out i (by omega)) (by rw [e2]; exact HDS.out t (by omega))
     have hT0 := hir.two (i := j) (j := t) (by omega) (by omega)
     rw [e1, e2] at hQ0 hT0
     have HQ1 := hide hQ0
     have HT0 := hide hT0
     have hx := HDX.out t (by omega) (by omega)
     have HNEG := hide (HO.out.neg _ _ hx)
     have HPOS := hide (HO.out.pos _ _ hx)
     have i1 : (j : Int) < n := by omega
     have i2 : (t : Int) < n := by omega
     generalize hx1 : D i = x1 at *
     generalize hx2 : D t = x2 at *
     generalize kc x1 x2 = z at *
     have HX2 := hide hx2
     have HX1 := hide hx1
     have HE1 := hide e1
     have HE2 := hide e2
     have hjt2 : j ≠ t := by omega
     clear hir hlt hx e1 e2 hx2 hx1 hjt hQ0
     unfold Two2 at HT0 hT0
     obtain ⟨c1, c2, c3, c4⟩ := hT0
     by_cases hz : z < 0
     ·have hdz : decide (z < 0) = true := by simpa using hz
      have HN := hide (HNEG.out hz)
      clear HNEG HPOS hz
      go_wp2_with fail
      go_region_held3 (fun wX => wX.cell? ⟨blk, j * 2, none⟩ = some (.int .i64 (pa x1 : Int)) ∧ wX.cell? ⟨blk, j * 2 + 1, none⟩ = some (.int .i64 (pb x1 : Int)) ∧ wX.cell? ⟨blk, t * 2, none⟩ = some (.int .i64 (pa x2 : Int)) ∧ wX.cell? ⟨blk, t * 2 + 1, none⟩ = some (.int .i64 (pb x2 : Int))) (first | exact HT0.out | exact HT2.out)
       ((refine (HQ1.out _ (by first | exact HJ.out | exact HJ.out.drew1)).mono ?_; rintro r w2 ⟨rfl, hp2, ht2⟩; have HT2 := hide ht2; have HP2 := hide hp2; unfold Two2 at HT2; clear hp2 ht2))
      rename_i hHd
      clear hHd c1 c2 c3 c4 HT0 HQ1
      obtain ⟨c1, c2, c3, c4⟩ := HT2.out
      have f1 := HP2.out.froz (j * 2)
      have f2 := HP2.out.froz (j * 2 + 1)
      have f3 := HP2.out.froz (t * 2)
      have f4 := HP2.out.froz (t * 2 + 1)
      have HS2 := hide (HP2.out.swap (i := j) (j := t) (by omega) (by omega) hjt2)
      rw [HE1.out, HE2.out] at HS2
      obtain ⟨n1, n2, n3, n4⟩ : j * 2 ≠ t * 2 ∧ j * 2 ≠ t * 2 + 1 ∧ j * 2 + 1 ≠ t * 2 ∧ j * 2 + 1 ≠ t * 2 + 1 := by omega
      clear HT2 HP2 hjt2
      go_wp2_with fail
      go_region
      have HR : Hid (∀ o, o = (put2 (put2 w2 blk j x2) blk t x1).drew → PR w0 B blk n cap o (rot D t i (i + 1))) := fun o e => by rw [e, ← HRD.out]; exact HS2.out.drew1
      clear c1 c2 c3 c4 f1 f2 f3 f4 HS2 n1 n2 n3 n4
      go_wp2
      have := HJT.out
      exact ⟨⟨t, rfl, by omega, by omega, HR.out _ rfl, .inr (by rw [HX2.out]; exact HN.out)⟩, by simp [intOf]; omega⟩
     ·have hdz : decide (z < 0) = false := by simpa using hz
      have HP := hide (HPOS.out hz)
      clear HNEG HPOS hz
      go_wp2_with fail
      go_region_held3 (fun wX => wX.cell? ⟨blk, j * 2, none⟩ = some (.int .i64 (pa x1 : Int)) ∧ wX.cell? ⟨blk, j * 2 + 1, none⟩ = some (.int .i64 (pb x1 : Int)) ∧ wX.cell? ⟨blk, t * 2, none⟩ = some (.int .i64 (pa x2 : Int)) ∧ wX.cell? ⟨blk, t * 2 + 1, none⟩ = some (.int .i64 (pb x2 : Int))) (first | exact HT0.out | exact HT2.out)
       ((refine (HQ1.out _ (by first | exact HJ.out | exact HJ.out.drew1)).mono ?_; rintro r w2 ⟨rfl, hp2, ht2⟩; have HT2 := hide ht2; have HP2 := hide hp2; unfold Two2 at HT2; clear hp2 ht2))
      rename_i hHd
      clear hHd c1 c2 c3 c4 HT0 HQ1 HT2
      have HFIN := hide (HM.out.more (by omega) (mg_down HO.out.tr HM.out.srd haj hji (.inr (by rw [show j - 1 = t by have := HJT.out; omega, HX2.out, HX1.out]; exact HP.out)) (by rw [HX1.out]; exact HLT.out)))
      go_wp2
      exact ⟨⟨i + 1, _, by go_num, by omega, .inl (by omega), HP2.out, HFIN.out⟩, by simp [intOf]; omega⟩
    ·have hdj : decide ((j : Int) > a) = false := by simpa using hj
     have hdj2 : decide ((a : Int) < j) = false := by simpa using hj
     have HFIN := hide (HM.out.more (by omega) (mg_down HO.out.tr HM.out.srd haj hji (.inl (by omega)) HLT.out))
     have HSW : Hid (∀ q, PR w0 B blk n cap (wr.drewN q) (rot D j i (i + 1))) := fun q => hir.below (drewN_below wr q)
     clear hir hlt
     go_wp2_with fail
     go_quiet (fail)
     have HR : Hid (∀ o, o = wr.drewN nq → PR w0 B blk n cap o (rot D j i (i + 1))) := fun o e => by rw [e]; exact HSW.out nq
     go_wp2
     exact ⟨⟨i + 1, _, by go_num, by omega, .inl (by omega), HR.out _ rfl, HFIN.out⟩, by simp [intOf]; omega⟩
  ·have hd : decide ((i : Int) < b) = false := by simpa using hi
   go_wp2
   go_end0
   refine ⟨rfl, D, hir, ?_⟩
   rcases hib with c | ⟨c, rfl⟩
   ·obtain rfl : i = b := by omega
    exact hmg
   ·exact ⟨fun _ _ => rfl, fun _ => Iff.rfl, fun i j h1 h2 h3 => by omega⟩
end Go.Proofs.Ytflohhefbbidcaa
namespace Go.Proofs.Ytflohhefbbidcaa
open Go.RowKit Go.Maps
open Stb Plc
set_option maxRecDepth 100000 in
set_option maxHeartbeats 1000000 in
theorem psymMerge_up (w0 : World) (B blk n cap : Nat) (fn : Nat) (sv : Value) (kc : Nat → Nat → Int) (lt : Nat → Nat → Prop) (S : Nat → Prop) (a m b : Nat) (C : Nat → Nat) (w : World)
  (hen : ∀ (args : Array Value) (w : World), (callFunc fn args).run Try.prog w = .ok (.enter fn args) w) (hq : PCmps fn sv kc S w0 blk) (ho : POdr kc lt)
  (h : PR w0 B blk n cap w C) (hn : n ≤ 1000) (hm : m = a + 1) (hmb : m < b) (hb : b ≤ n) (hS : ∀ k, k < n → S (C k)) (h2 : Srd lt C m b) (hx : Idx C a m b) :
  Calls Try.prog 68 #[.slice (some ⟨blk, 0, none⟩) n cap, .int .i64 a, .int .i64 m, .int .i64 b, .func (.func fn) #[sv] #[]] w fun e w' => e = .returned (.tuple #[]) ∧ ∃ D, PR w0 B blk n cap w' D ∧ Mg lt C D a b := by
 have H := hide h
 have HQ := hide hq
 have HO := hide ho
 have HS := hide hS
 have H2 := hide h2
 have HX := hide hx
 have HM := hide hm
 have v0 : IntKind.i64.wrap ((m : Int) - a) = 1 := by rw [IntWalk.i64_in _ (by omega)]; omega
 clear h hq ho hS h2 hx hm
 go_enter Try.func68, Try.ntmps68
 go_wp2
 go_loopw [10, 11, 12] (fun r10 r11 _ wr => ∃ i j : Nat, r10 = .int .i64 i ∧ r11 = .int .i64 j ∧ PR w0 B blk n cap wr C ∧ m ≤ i ∧ i ≤ j ∧ j ≤ b ∧ (i = m ∨ lt (C (i - 1)) (C a)) ∧ (j = b ∨ lt (C a) (C j))) (fun r10 r11 _ _ => (intOf r11).toNat - (intOf r10).toNat)
 case atStart => exact ⟨m, b, rfl, rfl, H.out, Nat.le_refl _, by omega, Nat.le_refl _, .inl rfl, .inl rfl⟩
 case round =>
  obtain ⟨i, j, rfl, rfl, hir, hmi, hij, hjb, hl, hr⟩ := hrel
  have HI := hide hir
  have HL := hide hl
  have HR := hide hr
  clear hl hr hir
  by_cases hlt : i < j
  ·have hd : decide ((i : Int) < j) = true := by simpa using hlt
   obtain ⟨t, ht⟩ : ∃ t, t = (i + j) / 2 := ⟨_, rfl⟩
   have vh : ((i : Int) + j) / 2 = (t : Int) := by omega
   have t1 : i ≤ t := by omega
   have t2 : t < j := by omega
   have i1 : (t : Int) < n := by omega
   have i2 : (a : Int) < n := by have := HM.out; omega
   have hx := HX.out a t (Nat.le_refl _) (by have := HM.out; omega) (by omega) (by omega)
   have HNEG := hide (HO.out.neg _ _ hx)
   have HPOS := hide (HO.out.pos _ _ hx)
   have hQ0 := HQ.out.at (C := C) (B := B) (n := n) (cap := cap) (i := t) (j := a) (by first | omega | (have := HM.out; omega)) (by first | omega | (have := HM.out; omega)) (HS.out t (by omega)) (HS.out a (by have := HM.out; omega))
   have hT0 := HI.out.two (i := t) (j := a) (by first | omega | (have := HM.out; omega)) (by first | omega | (have := HM.out; omega))
   have HQ1 := hide hQ0
   have HT0 := hide hT0
   generalize hx1 : C t = x1 at *
   generalize hx2 : C a = x2 at *
   generalize kc x1 x2 = z at *
   have HX1 := hide hx1
   clear hx1 hx2 hx ht hQ0
   unfold Two2 at HT0 hT0
   obtain ⟨c1, c2, c3, c4⟩ := hT0
   by_cases hz : z < 0
   ·have hdz : decide (z < 0) = true := by simpa using hz
    have HN := hide (HNEG.out hz)
    clear HNEG HPOS hz
    go_wp2_with fail
    go_region_held3 (fun wX => wX.cell? ⟨blk, t * 2, none⟩ = some (.int .i64 (pa x1 : Int)) ∧ wX.cell? ⟨blk, t * 2 + 1, none⟩ = some (.int .i64 (pb x1 : Int)) ∧ wX.cell? ⟨blk, a * 2, none⟩ = some (.int .i64 (pa x2 : Int)) ∧ wX.cell? ⟨blk, a * 2 + 1, none⟩ = some (.int .i64 (pb x2 : Int))) (first | exact HT0.out | exact HT2.out)
     ((refine (HQ1.out _ (by first | exact HI.out | exact HI.out.drew1)).mono ?_; rintro rx w2 ⟨rfl, hp2, ht2⟩; have HT2 := hide ht2; have HP2 := hide hp2; unfold Two2 at HT2; clear hp2 ht2))
    rename_i hHd
    clear hHd c1 c2 c3 c4 HT0 HQ1 HT2
    go_wp2
    exact ⟨⟨t + 1, j, by go_num, rfl, HP2.out, by omega, by omega, hjb, .inr (by rw [show t + 1 - 1 = t by omega, HX1.out]; exact HN.out), HR.out⟩, by simp [intOf]; omega⟩
   ·have hdz : decide (z < 0) = false := by simpa using hz
    have HP := hide (HPOS.out hz)
    clear HNEG HPOS hz
    go_wp2_with fail
    go_region_held3 (fun wX => wX.cell? ⟨blk, t * 2, none⟩ = some (.int .i64 (pa x1 : Int)) ∧ wX.cell? ⟨blk, t * 2 + 1, none⟩ = some (.int .i64 (pb x1 : Int)) ∧ wX.cell? ⟨blk, a * 2, none⟩ = some (.int .i64 (pa x2 : Int)) ∧ wX.cell? ⟨blk, a * 2 + 1, none⟩ = some (.int .i64 (pb x2 : Int))) (first | exact HT0.out | exact HT2.out)
     ((refine (HQ1.out _ (by first | exact HI.out | exact HI.out.drew1)).mono ?_; rintro rx w2 ⟨rfl, hp2, ht2⟩; have HT2 := hide ht2; have HP2 := hide hp2; unfold Two2 at HT2; clear hp2 ht2))
    rename_i hHd
    clear hHd c1 c2 c3 c4 HT0 HQ1 HT2
    go_wp2
    exact ⟨⟨i, t, rfl, rfl, HP2.out, hmi, by omega, by omega, HL.out, .inr (by rw [HX1.out]; exact HP.out)⟩, by simp [intOf]; omega⟩
  ·have hd : decide ((i : Int) < j) = false := by simpa using hlt
   have hij' : i = j := by omega
   have HF : Hid (Mg lt C (rot C a m i) a b) := by
    have e := HM.out
    subst e
    exact mg_up HO.out.tr H2.out hmi (by omega) HL.out (by rw [hij']; exact HR.out)
   have HI0 := HI
   obtain ⟨s, hs⟩ : ∃ s, i = s + 1 := ⟨i - 1, by have := HM.out; omega⟩
   have HSI := hide hs
   have hsa : a ≤ s := by have := HM.out; omega
   have hsn : s < n := by omega
   have vs : IntKind.i64.wrap ((i : Int) - 1) = (s : Int) := by rw [IntWalk.i64_in _ (by omega)]; omega
   clear hij' hs HL HR hmi hij hjb
   obtain ⟨W, rfl⟩ : ∃ W, W = wr := ⟨wr, rfl⟩
   go_wp2
   go_loopw [13] (fun r wr => ∃ k : Nat, r = .int .i64 k ∧ a ≤ k ∧ k ≤ s ∧ PR w0 B blk n cap wr (rot C a m (k + 1))) (fun r _ => s - (intOf r).toNat)
   case atStart => exact ⟨a, rfl, Nat.le_refl _, hsa, by rw [rot_none C a m (a + 1) (by have := HM.out; omega) (by have := HM.out; omega) (.inr HM.out.symm)]; exact HI0.out⟩
   case round =>
    obtain ⟨k, rfl, hak, hks, hir⟩ := hrel
    by_cases hk : k < s
    ·have hdk : decide ((k : Int) < s) = true := by simpa using hk
     obtain ⟨p, hp⟩ : ∃ p, p = k + 1 := ⟨_, rfl⟩
     have vp : IntKind.i64.wrap ((k : Int) + 1) = (p : Int) := by rw [IntWalk.i64_in _ (by omega)]; omega
     have HP := hide hp
     have hkp : k ≠ p := by omega
     obtain ⟨c1, c2⟩ := hir.cell (k := k) (by omega)
     obtain ⟨c3, c4⟩ := hir.cell (k := p) (by omega)
     have f1 := hir.froz (k * 2)
     have f2 := hir.froz (k * 2 + 1)
     have f3 := hir.froz (p * 2)
     have f4 := hir.froz (p * 2 + 1)
     obtain ⟨n1, n2, n3, n4⟩ : k * 2 ≠ p * 2 ∧ k * 2 ≠ p * 2 + 1 ∧ k * 2 + 1 ≠ p * 2 ∧ k * 2 + 1 ≠ p * 2 + 1 := by omega
     have hsw := hir.swap (i := k) (j := p) (by omega) (by omega) hkp
     have e : swp (rot C a m (k + 1)) k p = rot C a m (p + 1) := by rw [HM.out, hp]; exact rot_up C a k hak
     rw [e] at hsw
     have HS2 := hide hsw
     have i1 : (k : Int) < n := by omega
     have i2 : (p : Int) < n := by omega
     generalize rot C a m (k + 1) k = x1 at *
     generalize rot C a m (k + 1) p = x2 at *
     clear hir hp e hsw
     go_wp2_with fail
     go_region
     have HR : Hid (∀ o, o = (put2 (put2 wr blk k x2) blk p x1).drew → PR w0 B blk n cap o (rot C a m (p + 1))) := fun o e => by rw [e]; exact HS2.out.drew1
     clear c1 c2 c3 c4 f1 f2 f3 f4 n1 n2 n3 n4 HS2
     go_wp2
     have := HP.out
     exact ⟨⟨p, rfl, by omega, by omega, HR.out _ rfl⟩, by simp [intOf]; omega⟩
    ·have hdk : decide ((k : Int) < s) = false := by simpa using hk
     have HJ := hide hir
     have e : k = s := by omega
     have HE := hide e
     clear hir e
     go_wp2
     refine bodyPost_ret (results_none rfl _ _ _) rfl ?_
     exact ⟨rfl, _, HJ.out, by rw [HE.out, ← HSI.out]; exact HF.out⟩
set_option maxRecDepth 100000 in
set_option maxHeartbeats 1000000 in
theorem psymMerge_down (w0 : World) (B blk n cap : Nat) (fn : Nat) (sv : Value) (kc : Nat → Nat → Int) (lt : Nat → Nat → Prop) (S : Nat → Prop) (a m b : Nat) (C : Nat → Nat) (w : World)
  (hen : ∀ (args : Array Value) (w : World), (callFunc fn args).run Try.prog w = .ok (.enter fn args) w) (hq : PCmps fn sv kc S w0 blk) (ho : POdr kc lt)
  (h : PR w0 B blk n cap w C) (hn : n ≤ 1000) (ham : a + 1 < m) (hm : b = m + 1) (hb : b ≤ n) (hS : ∀ k, k < n → S (C k)) (h1 : Srd lt C a m) (hx : Idx C a m b) :
  Calls Try.prog 68 #[.slice (some ⟨blk, 0, none⟩) n cap, .int .i64 a, .int .i64 m, .int .i64 b, .func (.func fn) #[sv] #[]] w fun e w' => e = .returned (.tuple #[]) ∧ ∃ D, PR w0 B blk n cap w' D ∧ Mg lt C D a b := by
 have H := hide h
 have HQ := hide hq
 have HO := hide ho
 have HS := hide hS
 have H1 := hide h1
 have HX := hide hx
 have HM := hide hm
 have hmn : m < n := by omega
 obtain ⟨d, hd⟩ : ∃ d, d = m - a := ⟨_, rfl⟩
 have v0 : IntKind.i64.wrap ((m : Int) - a) = (d : Int) := by rw [IntWalk.i64_in _ (by omega)]; omega
 have v1 : ((d : Int) == 1) = false := by simp; omega
 have v1' : ¬ d = 1 := by omega
 have v2 : IntKind.i64.wrap ((b : Int) - m) = 1 := by rw [IntWalk.i64_in _ (by omega)]; omega
 clear h hq ho hS h1 hx hm hd
 go_enter Try.func68, Try.ntmps68
 go_wp2
 go_loopw [14, 15, 16] (fun r10 r11 _ wr => ∃ i j : Nat, r10 = .int .i64 i ∧ r11 = .int .i64 j ∧ PR w0 B blk n cap wr C ∧ a ≤ i ∧ i ≤ j ∧ j ≤ m ∧ (i = a ∨ lt (C (i - 1)) (C m)) ∧ (j = m ∨ lt (C m) (C j))) (fun r10 r11 _ _ => (intOf r11).toNat - (intOf r10).toNat)
 case atStart => exact ⟨a, m, rfl, rfl, H.out, Nat.le_refl _, by omega, Nat.le_refl _, .inl rfl, .inl rfl⟩
 case round =>
  obtain ⟨i, j, rfl, rfl, hir, hmi, hij, hjb, hl, hr⟩ := hrel
  have HI := hide hir
  have HL := hide hl
  have HR := hide hr
  clear hl hr hir
  by_cases hlt : i < j
  ·have hd : decide ((i : Int) < j) = true := by simpa using hlt
   obtain ⟨t, ht⟩ : ∃ t, t = (i + j) / 2 := ⟨_, rfl⟩
   have vh : ((i : Int) + j) / 2 = (t : Int) := by omega
   have t1 : i ≤ t := by omega
   have t2 : t < j := by omega
   have i1 : (t : Int) < n := by omega
   have i2 : (m : Int) < n := by omega
   have hx := HX.out t m (by omega) (by omega) (by omega) (by have := HM.out; omega)
   have HNEG := hide (HO.out.neg _ _ hx)
   have HPOS := hide (HO.out.pos _ _ hx)
   have hQ0 := HQ.out.at (C := C) (B := B) (n := n) (cap := cap) (i := m) (j := t) (by first | omega | (have := HM.out; omega)) (by first | omega | (have := HM.out; omega)) (HS.out m hmn) (HS.out t (by omega))
   have hT0 := HI.out.two (i := m) (j := t) (by first | omega | (have := HM.out; omega)) (by first | omega | (have := HM.out; omega))
   have HQ1 := hide hQ0
   have HT0 := hide hT0
   generalize hx1 : C t = x1 at *
   generalize hx2 : C m = x2 at *
   generalize kc x2 x1 = z at *
   have HX1 := hide hx1
   clear hx1 hx2 hx ht hQ0
   unfold Two2 at HT0 hT0
   obtain ⟨c1, c2, c3, c4⟩ := hT0
   by_cases hz : z < 0
   ·have hdz : decide (z < 0) = true := by simpa using hz
    have HN := hide (HNEG.out hz)
    clear HNEG HPOS hz
    go_wp2_with fail
    go_region_held3 (fun wX => wX.cell? ⟨blk, m * 2, none⟩ = some (.int .i64 (pa x2 : Int)) ∧ wX.cell? ⟨blk, m * 2 + 1, none⟩ = some (.int .i64 (pb x2 : Int)) ∧ wX.cell? ⟨blk, t * 2, none⟩ = some (.int .i64 (pa x1 : Int)) ∧ wX.cell? ⟨blk, t * 2 + 1, none⟩ = some (.int .i64 (pb x1 : Int))) (first | exact HT0.out | exact HT2.out)
     ((refine (HQ1.out _ (by first | exact HI.out | exact HI.out.drew1)).mono ?_; rintro rx w2 ⟨rfl, hp2, ht2⟩; have HT2 := hide ht2; have HP2 := hide hp2; unfold Two2 at HT2; clear hp2 ht2))
    rename_i hHd
    clear hHd c1 c2 c3 c4 HT0 HQ1 HT2
    go_wp2
    exact ⟨⟨i, t, rfl, rfl, HP2.out, hmi, by omega, by omega, HL.out, .inr (by rw [HX1.out]; exact HN.out)⟩, by simp [intOf]; omega⟩
   ·have hdz : decide (z < 0) = false := by simpa using hz
    have HP := hide (HPOS.out hz)
    clear HNEG HPOS hz
    go_wp2_with fail
    go_region_held3 (fun wX => wX.cell? ⟨blk, m * 2, none⟩ = some (.int .i64 (pa x2 : Int)) ∧ wX.cell? ⟨blk, m * 2 + 1, none⟩ = some (.int .i64 (pb x2 : Int)) ∧ wX.cell? ⟨blk, t * 2, none⟩ = some (.int .i64 (pa x1 : Int)) ∧ wX.cell? ⟨blk, t * 2 + 1, none⟩ = some (.int .i64 (pb x1 : Int))) (first | exact HT0.out | exact HT2.out)
     ((refine (HQ1.out _ (by first | exact HI.out | exact HI.out.drew1)).mono ?_; rintro rx w2 ⟨rfl, hp2, ht2⟩; have HT2 := hide ht2; have HP2 := hide hp2; unfold Two2 at HT2; clear hp2 ht2))
    rename_i hHd
    clear hHd c1 c2 c3 c4 HT0 HQ1 HT2
    go_wp2
    exact ⟨⟨t + 1, j, by go_num, rfl, HP2.out, by omega, by omega, hjb, .inr (by rw [show t + 1 - 1 = t by omega, HX1.out]; exact HP.out), HR.out⟩, by simp [intOf]; omega⟩
  ·have hd : decide ((i : Int) < j) = false := by simpa using hlt
   have hij' : i = j := by omega
   have him : i ≤ m := by omega
   have HF : Hid (Mg lt C (rot C i m b) a b) := by
    have e := HM.out
    subst e
    exact mg_down HO.out.tr H1.out hmi (by omega) HL.out (by rw [hij']; exact HR.out)
   clear hij' HL HR hij hjb
   obtain ⟨W, rfl⟩ : ∃ W, W = wr := ⟨wr, rfl⟩
   go_wp2
   go_loopw [17] (fun r wr => ∃ k : Nat, r = .int .i64 k ∧ i ≤ k ∧ k ≤ m ∧ PR w0 B blk n cap wr (rot C k m b)) (fun r _ => (intOf r).toNat)
   case atStart => exact ⟨m, rfl, him, Nat.le_refl _, by rw [rot_none C m m b (Nat.le_refl _) (by have := HM.out; omega) (.inl rfl)]; exact HI.out⟩
   case round =>
    obtain ⟨k, rfl, hak, hks, hir⟩ := hrel
    by_cases hk : i < k
    ·have hdk : decide ((k : Int) > i) = true := by simpa using hk
     have hdk2 : decide ((i : Int) < k) = true := by simpa using hk
     obtain ⟨p, hp⟩ : ∃ p, k = p + 1 := ⟨k - 1, by omega⟩
     have vp : IntKind.i64.wrap ((k : Int) - 1) = (p : Int) := by rw [IntWalk.i64_in _ (by omega)]; omega
     have HP := hide hp
     have hkp : k ≠ p := by omega
     obtain ⟨c1, c2⟩ := hir.cell (k := k) (by omega)
     obtain ⟨c3, c4⟩ := hir.cell (k := p) (by omega)
     have f1 := hir.froz (k * 2)
     have f2 := hir.froz (k * 2 + 1)
     have f3 := hir.froz (p * 2)
     have f4 := hir.froz (p * 2 + 1)
     obtain ⟨n1, n2, n3, n4⟩ : k * 2 ≠ p * 2 ∧ k * 2 ≠ p * 2 + 1 ∧ k * 2 + 1 ≠ p * 2 ∧ k * 2 + 1 ≠ p * 2 + 1 := by omega
     have hsw := hir.swap (i := k) (j := p) (by omega) (by omega) hkp
     have e : swp (rot C k m b) k p = rot C p m b := by rw [HM.out, hp]; exact rot_down C p m (by omega)
     rw [e] at hsw
     have HS2 := hide hsw
     have i1 : (k : Int) < n := by omega
     have i2 : (p : Int) < n := by omega
     generalize rot C k m b k = x1 at *
     generalize rot C k m b p = x2 at *
     clear hir hp e hsw
     go_wp2_with fail
     go_region
     have HR : Hid (∀ o, o = (put2 (put2 wr blk k x2) blk p x1).drew → PR w0 B blk n cap o (rot C p m b)) := fun o e => by rw [e]; exact HS2.out.drew1
     clear c1 c2 c3 c4 f1 f2 f3 f4 n1 n2 n3 n4 HS2
     go_wp2
     have := HP.out
     exact ⟨⟨p, rfl, by omega, by omega, HR.out _ rfl⟩, by simp [intOf]; omega⟩
    ·have hdk : decide ((k : Int) > i) = false := by simpa using hk
     have hdk2 : decide ((i : Int) < k) = false := by simpa using hk
     have HJ := hide hir
     have e : k = i := by omega
     have HE := hide e
     clear hir e
     go_wp2
     refine bodyPost_ret (results_none rfl _ _ _) rfl ?_
     exact ⟨rfl, _, HJ.out, by rw [HE.out]; exact HF.out⟩
end Go.Proofs.Ytflohhefbbidcaa
namespace Go.Proofs.Ytflohhefbbidcaa
open Go.RowKit Go.Maps
open Nam Tre
namespace Tre
def nam (l : List Nod) : Int := if wrong l ≠ 0 then wrong l else if l.any deep = true then 9 else if ¬ (l.map Nod.names).Nodup then 6 else 0
theorem fi_at (p : Nod → Bool) : ∀ (l : List Nod) (o i : Nat) (h : i < l.length), p l[i] = true → ∃ j, fi p o l = ((o + j : Nat) : Int) ∧ j ≤ i ∧ ∃ (hj : j < l.length), p l[j] = true ∧ ∀ t (ht : t < j), p (l[t]'(by omega)) = false
 | n :: r, o, i, h, hp => by
  unfold fi
  cases hn : p n with
  | true => exact ⟨0, by simp, Nat.zero_le _, by simp, hn, fun t ht => by omega⟩
  | false =>
   cases i with
   | zero => simp only [List.getElem_cons_zero] at hp; rw [hn] at hp; cases hp
   | succ i =>
    simp only [List.getElem_cons_succ] at hp
    obtain ⟨j, h1, h2, h3, h4, h5⟩ := fi_at p r (o + 1) i (by simpa using h) hp
    refine ⟨j + 1, by simp only [Bool.false_eq_true, if_false]; rw [h1]; congr 1; omega, by omega, by simp; omega, by simpa using h4, fun t ht => ?_⟩
    cases t with
    | zero => simpa using hn
    | succ t => simpa using h5 t (by omega)
theorem take_nodup {l : List Nod} {i : Nat} (h : i < l.length) (hn : ((l.take i).map Nod.names).Nodup) (hf : ¬ fi (nmd l[i].names) 0 l < (i : Int)) : ((l.take (i + 1)).map Nod.names).Nodup := by
 obtain ⟨j, h1, h2, h3, h4, h5⟩ := fi_at (nmd l[i].names) l 0 i h (by simp [nmd])
 rw [Nat.zero_add] at h1
 have hj : j = i := by omega
 subst hj
 rw [List.take_succ_eq_append_getElem h, List.map_append, List.nodup_append]
 refine ⟨hn, by simp, fun a ha b hb => ?_⟩
 simp only [List.map_cons, List.map_nil, List.mem_singleton] at hb
 rw [List.mem_map] at ha
 obtain ⟨x, hx, rfl⟩ := ha
 rw [List.mem_take_iff_getElem] at hx
 obtain ⟨t, ht, rfl⟩ := hx
 rw [hb]
 have := h5 t (by omega)
 simpa [nmd] using this
theorem not_nodup {l : List Nod} {i : Nat} (h : i < l.length) (hf : fi (nmd l[i].names) 0 l < (i : Int)) : ¬ (l.map Nod.names).Nodup := by
 obtain ⟨j, h1, h2, h3, h4, h5⟩ := fi_at (nmd l[i].names) l 0 i h (by simp [nmd])
 rw [Nat.zero_add] at h1
 intro hn
 have hne : j ≠ i := by omega
 rw [List.Nodup, List.pairwise_iff_getElem] at hn
 have := hn j i (by simpa using h3) (by simpa using h) (by omega)
 simp only [List.getElem_map] at this
 exact this (by simpa [nmd] using h4)
end Tre
set_option maxRecDepth 100000 in
set_option maxHeartbeats 1000000 in
theorem named_any (a : Option Addr) (n c : Nat) (L : List (Nv × Nod)) (w : World) (hl : Ns w a n L) (hc : n ≤ c) (hcm : c ≤ 9223372036854775807) (h20 : ∀ p ∈ L, p.2.names.length ≤ 1000000) :
  Calls Try.prog 55 #[.slice a n c] w fun e w' => e = .returned (.int .i64 (nam (nds L))) ∧ ∃ q, w' = w.drewN q := by
 have HL := hide hl
 have HLN := hide hl.1
 have H20 := hide h20
 clear hl h20
 go_enter Try.func55, Try.ntmps55
 go_wp2
 go_loopw [3, 4, 5] (fun r _ _ wr => ∃ i q : Nat, wr = w.drewN q ∧ r = .int .i64 i ∧ i ≤ n ∧ wrong (nds L) = wrong ((nds L).drop i)) (fun r _ _ _ => n - (intOf r).toNat)
 case atStart => exact ⟨0, 0, rfl, rfl, Nat.zero_le _, rfl⟩
 case round =>
  obtain ⟨i, q, rfl, rfl, hi0, hinv⟩ := hrel
  have HI := hide hinv
  by_cases hi : i < n
  ·have hd : decide ((i : Int) < n) = true := by simpa using hi
   obtain ⟨ba, oa, rfl, hba, hca⟩ := HL.out.at (by omega)
   have HE := hide (nds_drop L i (by rw [HLN.out]; exact hi))
   have hr := HL.out.rep i hi
   obtain ⟨na, nn, nc, c0', hN, n1, n2⟩ : ∃ na nn nc, w.cell? ⟨ba, oa + i * 10, none⟩ = some (.slice na nn nc) ∧ Rs w na nn (gl L i).2.names ∧ nn ≤ nc ∧ nc ≤ 9223372036854775807 := ⟨_, _, _, (hca i hi).c0, hr.names, hr.nc, hr.ncm⟩
   have HN := hide hN
   have HNN := hide hN.1
   have hi' : (i : Int) < n := by omega
   clear hca hinv hr hN
   go_wp2
   go_loopw [4, 5] (fun r _ ws => ∃ k q : Nat, ws = w.drewN q ∧ r = .int .i64 k ∧ k ≤ nn ∧ fv (gl L i).2.names = fv ((gl L i).2.names.drop k)) (fun r _ _ => nn - (intOf r).toNat)
   case atStart => exact ⟨0, q, rfl, rfl, Nat.zero_le _, rfl⟩
   case round =>
    obtain ⟨k, q2, rfl, rfl, hk0, hinv2⟩ := hrel
    have HI2 := hide hinv2
    by_cases hk : k < nn
    ·have hd2 : decide ((k : Int) < nn) = true := by simpa using hk
     obtain ⟨bb, ob, rfl, hbb, hcb⟩ := HN.out.at (by omega)
     have d1 := hcb k hk
     have HE2 := hide (fv_drop (gl L i).2.names k (by rw [HNN.out]; exact hk))
     obtain ⟨z, hz⟩ : ∃ z, valid (gs (gl L i).2.names k).toList = z := ⟨_, rfl⟩
     have HZ := hide hz
     clear hcb hinv2 hz
     go_wp2_with (go_at_call 33; refine (refValid_any _ _).mono ?_)
     rw [HZ.out]
     rintro e w2 ⟨rfl, rfl⟩
     by_cases hzz : z = 0
     ·have hz1 : (z != 0) = false := by simp [hzz]
      have HZZ := hide hzz
      clear hzz
      go_wp2
      refine ⟨⟨k + 1, q2, rfl, by go_num, by omega, ?_⟩, by simp [intOf]; omega⟩
      rw [HI2.out, HE2.out, HZ.out, if_pos HZZ.out]
     ·have hz1 : (z != 0) = true := by simpa using hzz
      have HZZ := hide hzz
      clear hzz
      go_wp2
      go_ret
      refine ⟨ret_int ?_, q2, rfl⟩
      have hfv : fv (gl L i).2.names = z := by rw [HI2.out, HE2.out, HZ.out, if_neg HZZ.out]
      have hw : wrong (nds L) = z := by rw [HI.out, HE.out, wrong, hfv, if_neg HZZ.out]
      rw [nam, if_pos (by rw [hw]; exact HZZ.out), hw]
    ·have hd2 : decide ((k : Int) < nn) = false := by simpa using hk
     go_wp2
     refine ⟨⟨i + 1, q2, rfl, by go_num, by omega, ?_⟩, by simp [intOf]; omega⟩
     have hfv : fv (gl L i).2.names = 0 := by rw [HI2.out, List.drop_eq_nil_of_le (by rw [HNN.out]; omega)]; rfl
     rw [HI.out, HE.out, wrong, if_pos hfv]
  ·have hd : decide ((i : Int) < n) = false := by simpa using hi
   have HW : Hid (wrong (nds L) = 0) := by
    show _ = _
    rw [HI.out, List.drop_eq_nil_of_le (by rw [nds_length, HLN.out]; omega)]; rfl
   clear hinv
   go_wp2
   go_loopw [6] (fun r wr => ∃ i q : Nat, wr = w.drewN q ∧ r = .int .i64 i ∧ i ≤ n ∧ (nds L).any deep = ((nds L).drop i).any deep) (fun r _ => n - (intOf r).toNat)
   case atStart => exact ⟨0, q, rfl, rfl, Nat.zero_le _, rfl⟩
   case round =>
    obtain ⟨i, q, rfl, rfl, hi0, hinv⟩ := hrel
    have HI := hide hinv
    by_cases hi : i < n
    ·have hd : decide ((i : Int) < n) = true := by simpa using hi
     obtain ⟨ba, oa, rfl, hba, hca⟩ := HL.out.at (by omega)
     have HE := hide (nds_drop L i (by rw [HLN.out]; exact hi))
     have hr := HL.out.rep i hi
     have c0 := (hca i hi).c0
     have hi' : (i : Int) < n := by omega
     have hdp : deep (gl L i).2 = decide ((16 : Int) < (gl L i).1.nn) := by
      rw [deep, hr.names.1, Bool.eq_iff_iff, decide_eq_true_eq, decide_eq_true_eq]; omega
     clear hca hinv hr
     by_cases h16 : (16 : Int) < (gl L i).1.nn
     ·have HQ : Hid ((nds L).any deep = true) := by
       show _ = _
       rw [HI.out, HE.out, List.any_cons, hdp, decide_eq_true h16]; rfl
      clear hdp
      go_wp2
      go_ret
      refine ⟨ret_int ?_, q, rfl⟩
      rw [nam, if_neg (by rw [HW.out]; simp), if_pos HQ.out]
     ·have HQ : Hid ((nds L).any deep = ((nds L).drop (i + 1)).any deep) := by
       show _ = _
       rw [HI.out, HE.out, List.any_cons, hdp, decide_eq_false h16]; rfl
      clear hdp
      go_wp2
      exact ⟨⟨i + 1, q, rfl, by go_num, by omega, HQ.out⟩, by simp [intOf]; omega⟩
    ·have hd : decide ((i : Int) < n) = false := by simpa using hi
     have HD : Hid ((nds L).any deep = false) := by
      show _ = _
      rw [HI.out, List.drop_eq_nil_of_le (by rw [nds_length, HLN.out]; omega)]; rfl
     clear hinv
     go_wp2
     go_loopw [7] (fun r wr => ∃ i q : Nat, wr = w.drewN q ∧ r = .int .i64 i ∧ i ≤ n ∧ (((nds L).take i).map Nod.names).Nodup) (fun r _ => n - (intOf r).toNat)
     case atStart => exact ⟨0, q, rfl, rfl, Nat.zero_le _, by simp⟩
     case round =>
      obtain ⟨i, q, rfl, rfl, hi0, hinv⟩ := hrel
      have HI := hide hinv
      by_cases hi : i < n
      ·have hd : decide ((i : Int) < n) = true := by simpa using hi
       obtain ⟨ba, oa, rfl, hba, hca⟩ := HL.out.at (by omega)
       have hr := HL.out.rep i hi
       have c0 := (hca i hi).c0
       have hi' : (i : Int) < n := by omega
       have hlt : i < (nds L).length := by rw [nds_length, HLN.out]; exact hi
       have hget : (nds L)[i] = (gl L i).2 := by rw [gl_lt L i (by rw [HLN.out]; exact hi)]; simp [nds]
       have HF := hide (refFind_any (some ⟨ba, oa, none⟩) n c L (gl L i).1.na (gl L i).1.nn (gl L i).1.nc (gl L i).2.names (w.drewN q) (HL.out.below (drewN_below w q)) hc hcm (hr.names.drewN q) H20.out)
       have T1 := hide (fun h => take_nodup hlt HI.out h)
       have T2 := hide (fun h => not_nodup hlt h)
       rw [hget] at T1 T2
       generalize fi (nmd (gl L i).2.names) 0 (nds L) = z at *
       clear hca hinv hr hget
       by_cases hz : z < (i : Int)
       ·have HN : Hid (nam (nds L) = 6) := by
         show _ = _
         rw [nam, if_neg (by rw [HW.out]; simp), if_neg (by rw [HD.out]; simp), if_pos (T2.out hz)]
        go_wp2_with (go_at_call 35; refine HF.out.mono ?_; rintro e w2 ⟨rfl, q2, rfl⟩)
        go_ret
        exact ⟨ret_int HN.out.symm, _, rfl⟩
       ·go_wp2_with (go_at_call 35; refine HF.out.mono ?_; rintro e w2 ⟨rfl, q2, rfl⟩)
        exact ⟨⟨i + 1, q + q2, by simp, by go_num, by omega, T1.out hz⟩, by simp [intOf]; omega⟩
      ·have hd : decide ((i : Int) < n) = false := by simpa using hi
       have HN : Hid (nam (nds L) = 0) := by
        show _ = _
        rw [List.take_of_length_le (by rw [nds_length, HLN.out]; omega)] at hinv
        rw [nam, if_neg (by rw [HW.out]; simp), if_neg (by rw [HD.out]; simp), if_neg (by simpa using hinv)]
       clear hinv
       go_wp2
       go_ret
       exact ⟨ret_int HN.out.symm, q, rfl⟩
end Go.Proofs.Ytflohhefbbidcaa
namespace Go.Proofs.Ytflohhefbbidcaa
open Go.RowKit Go.Maps
open Nam Tre
open Lz (g)
theorem attrNeq (w : World) (x y z x' y' z' : Int) : (binOp .neq 40 (.agg #[.int .i64 x, .int .i64 y, .int .i64 z]) (.agg #[.int .i64 x', .int .i64 y', .int .i64 z'])).run Try.prog w = .ok (.bool (!decide (x = x' ∧ y = y' ∧ z = z'))) w := by
 have u3 := Try.underlying3
 have a3 := Try.isAgg3
 have z3 := Try.sizeOf3
 have hS : Try.prog.underlying 40 = some (.struct (Try.prog.fieldsOf 40)) := by kernel_rfl
 have hp : Try.prog.stoodInHeld 40 = false := by kernel_rfl
 rw [run_neq_struct, show (10000 : Nat) = 9999 + 1 from rfl, run_equalIn_agg w 9999 40 _ _ hS hp]
 simp only [Program.fieldsOf, Try.underlying40]
 go_simp
 by_cases h1 : x = x' <;> by_cases h2 : y = y' <;> by_cases h3 : z = z' <;> simp [h1, h2, h3]
theorem bne_of {a b : Int} {q : Bool} (h : (a == b) = q) : (a != b) = !q := by rw [bne, h]
theorem str_conv0 {w w0 : World} {a : Option Addr} {n : Nat} {x : List Int} (hx : Bs w0 a n x) (h0 : Below w0.heap.size w0 w) (c : Nat) : (convert 41 9 (.slice a n c)).run Try.prog w = .ok (.string (strOfNums x)) w :=
 str_any (hx.below h0) c
set_option maxRecDepth 100000 in
set_option maxHeartbeats 1000000 in
theorem refAlike_any (v u : Nv) (x y : Nod) (w : World) (hv : Rep w v x) (hu : Rep w u y) :
  Calls Try.prog 32 #[.agg v.cells, .agg u.cells] w fun e w' => e = .returned (.bool (alike x y)) ∧ Below w.heap.size w w' := by
 obtain ⟨a, ha⟩ : ∃ q, (v.kind == u.kind) = q := ⟨_, rfl⟩
 obtain ⟨b, hb⟩ : ∃ q, decide (v.mode = u.mode ∧ v.uid = u.uid ∧ v.gid = u.gid) = q := ⟨_, rfl⟩
 obtain ⟨c, hc⟩ : ∃ q, (v.tg.toList == u.tg.toList) = q := ⟨_, rfl⟩
 obtain ⟨d, hd⟩ : ∃ q, (v.op == u.op) = q := ⟨_, rfl⟩
 obtain ⟨e, he⟩ : ∃ q, decide (x.data = y.data) = q := ⟨_, rfl⟩
 obtain ⟨f, hf⟩ : ∃ q, decide (x.xs = y.xs) = q := ⟨_, rfl⟩
 have HA := hide (alike_rep hv hu a b c d e f ha hb hc hd he hf)
 have hA : ∀ W : World, (binOp .neq 40 (.agg #[.int .i64 v.mode, .int .i64 v.uid, .int .i64 v.gid]) (.agg #[.int .i64 u.mode, .int .i64 u.uid, .int .i64 u.gid])).run Try.prog W = .ok (.bool (!b)) W := fun W => by rw [attrNeq, hb]
 have ha' := bne_of ha
 have HE := hide ((str_eq hv.data.bytes hu.data.bytes).trans he)
 have s1 := fun o p => str_conv0 hv.data (below_alloc2 w o p) v.dc
 have s2 := fun o p => str_conv0 hu.data (below_alloc2 w o p) u.dc
 have HE' := HE.out
 generalize strOfNums x.data = S1 at s1 HE'
 generalize strOfNums y.data = S2 at s2 HE'
 clear HE
 have HV := hide hv
 have HU := hide hu
 have HF := hide hf
 have x1 := hv.xc
 have x2 := hv.xcm
 clear hv hu he hf hb
 unfold Nv.cells
 cases a with
 | false =>
  go_enter Try.func32, Try.ntmps32
  go_wp2
  go_ret
  exact ⟨ret_bool (by rw [HA.out]; rfl), below_alloc2 w _ _⟩
 | true =>
 cases b with
 | false =>
  go_enter Try.func32, Try.ntmps32
  go_wp2
  go_ret
  exact ⟨ret_bool (by rw [HA.out]; rfl), below_alloc2 w _ _⟩
 | true =>
 cases e with
 | false =>
  go_enter Try.func32, Try.ntmps32
  go_wp2
  go_ret
  exact ⟨ret_bool (by rw [HA.out]; cases c <;> cases d <;> rfl), below_alloc2 w _ _⟩
 | true =>
 cases c with
 | false =>
  go_enter Try.func32, Try.ntmps32
  go_wp2
  go_ret
  exact ⟨ret_bool (by rw [HA.out]; rfl), below_alloc2 w _ _⟩
 | true =>
 cases d with
 | false =>
  have hd' : (v.op != u.op) = true := by rw [bne, hd]; rfl
  go_enter Try.func32, Try.ntmps32
  go_wp2
  go_ret
  exact ⟨ret_bool (by rw [HA.out]; rfl), below_alloc2 w _ _⟩
 | true =>
 have hd' : (v.op != u.op) = false := by rw [bne, hd]; rfl
 have HLN := hide HV.out.xs.1
 have HKN := hide HU.out.xs.1
 by_cases hnm : v.xn = u.xn
 ·have hn' : ((v.xn : Int) != u.xn) = false := by simp; omega
  have HNM := hide hnm
  obtain ⟨W, hW⟩ : ∃ W, W = (w.alloc (.cells v.cells 44)).alloc (.cells u.cells 44) := ⟨_, rfl⟩
  have HW := hide hW
  have hbel : Hid (Below w.heap.size w W) := by show Below _ _ _; rw [hW]; exact below_alloc2 w _ _
  have g1 : W.cell? ⟨w.heap.size, 8, none⟩ = some (.slice v.xa v.xn v.xc) := by rw [hW]; simp [Nv.cells]
  have g2 : W.cell? ⟨w.heap.size + 1, 8, none⟩ = some (.slice u.xa u.xn u.xc) := by rw [hW]; simp [Nv.cells]
  clear hW hnm
  go_enter Try.func32, Try.ntmps32
  go_wp2
  go_loopw [5] (fun r wr => ∃ i q : Nat, wr = W.drewN q ∧ r = .int .i64 i ∧ i ≤ v.xn ∧ (x.xs = y.xs ↔ x.xs.drop i = y.xs.drop i)) (fun r _ => v.xn - (intOf r).toNat)
  case atStart => exact ⟨0, 0, HW.out.symm, rfl, Nat.zero_le _, Iff.rfl⟩
  case round =>
   obtain ⟨i, q, rfl, rfl, hi0, hinv⟩ := hrel
   have HI := hide hinv
   by_cases hp : i < v.xn
   ·have hd0 : decide ((i : Int) < v.xn) = true := by simpa using hp
    have hp2 : i < u.xn := by rw [← HNM.out]; exact hp
    have hp3 : (i : Int) < u.xn := by omega
    obtain ⟨ba, oa, ea, hba, hca⟩ := (HV.out.xs.below hbel.out).at (by omega)
    obtain ⟨bb, ob, eb, hbb, hcb⟩ := (HU.out.xs.below hbel.out).at (by omega)
    obtain ⟨c1, va, vn, vc, c2, b1, _⟩ := hca i hp
    obtain ⟨c3, ua, un, uc, c4, b2, _⟩ := hcb i hp2
    rw [ea] at g1
    rw [eb] at g2
    have r1 : ∀ k, (convert 41 9 (.slice va vn vc)).run Try.prog (W.drewN k) = .ok (.string (strOfNums (gx x.xs i).2)) (W.drewN k) := fun k => str_any (b1.below (drewN_below W k)) vc
    have r2 : ∀ k, (convert 41 9 (.slice ua un uc)).run Try.prog (W.drewN k) = .ok (.string (strOfNums (gx y.xs i).2)) (W.drewN k) := fun k => str_any (b2.below (drewN_below W k)) uc
    have ES := hide (xs_step (l := x.xs) (k := y.xs) (i := i) (by rw [HLN.out]; exact hp) (by rw [HKN.out]; exact hp2))
    have HSE := hide (str_eq b1.bytes b2.bytes)
    have HSE' := HSE.out
    generalize strOfNums (gx x.xs i).2 = T1 at r1 HSE'
    generalize strOfNums (gx y.xs i).2 = T2 at r2 HSE'
    have HSQ := hide HSE'
    clear hca hcb b1 b2 hinv HSE HSE' s1 s2
    obtain ⟨q1, hq1⟩ : ∃ q, ((gx x.xs i).1.toList == (gx y.xs i).1.toList) = q := ⟨_, rfl⟩
    cases q1 with
    | false =>
     have hq2 : (!(gx x.xs i).1.toList == (gx y.xs i).1.toList) = true := by rw [hq1]; rfl
     have HQ : Hid (f = false) := by
      show _ = _
      rw [← HF.out, decide_eq_false_iff_not, HI.out, ES.out]
      intro h
      rw [h.1] at hq1
      simp at hq1
     go_wp2
     go_quiet (fail)
     go_wp2
     go_ret
     refine ⟨ret_bool (by rw [HA.out, HQ.out]; rfl), ?_⟩
     simp only [World.drewN_drewN]
     exact hbel.out.trans (drewN_below _ _)
    | true =>
     have hq2 : (!(gx x.xs i).1.toList == (gx y.xs i).1.toList) = false := by rw [hq1]; rfl
     have HN1 : Hid ((gx x.xs i).1 = (gx y.xs i).1) := toList_inj (by simpa using hq1)
     go_wp2
     go_quiet (fail)
     go_wp2
     ·have e : (!T1.toList == T2.toList) = true := by assumption
      have HQ : Hid (f = false) := by
       show _ = _
       rw [← HF.out, decide_eq_false_iff_not, HI.out, ES.out]
       intro h
       rw [HSQ.out, h.1] at e
       simp at e
      go_ret
      refine ⟨ret_bool (by rw [HA.out, HQ.out]; rfl), ?_⟩
      simp only [World.drewN_drewN]
      exact hbel.out.trans (drewN_below _ _)
     ·have e : (!T1.toList == T2.toList) = false := by assumption
      refine ⟨⟨i + 1, _, rfl, by go_num, by omega, ?_⟩, by simp [intOf]; omega⟩
      rw [HI.out, ES.out]
      rw [HSQ.out] at e
      have e2 : (gx x.xs i).2 = (gx y.xs i).2 := by simpa using e
      have : gx x.xs i = gx y.xs i := Prod.ext HN1.out e2
      simp [this]
   ·have hd0 : decide ((i : Int) < v.xn) = false := by simpa using hp
    have HQ : Hid (f = true) := by
     show _ = _
     rw [← HF.out, decide_eq_true_eq, HI.out, List.drop_eq_nil_of_le (by rw [HLN.out]; omega), List.drop_eq_nil_of_le (by rw [HKN.out]; have := HNM.out; omega)]
    go_wp2
    go_ret
    refine ⟨ret_bool (by rw [HA.out, HQ.out]; rfl), hbel.out.trans (drewN_below _ _)⟩
 ·have hn' : ((v.xn : Int) != u.xn) = true := by simp; omega
  have HN : Hid (f = false) := by
   show _ = _
   rw [← HF.out, decide_eq_false_iff_not]
   intro h
   have := congrArg List.length h
   rw [HLN.out, HKN.out] at this
   exact hnm this
  go_enter Try.func32, Try.ntmps32
  go_wp2
  go_ret
  exact ⟨ret_bool (by rw [HA.out, HN.out]; rfl), below_alloc2 w _ _⟩
end Go.Proofs.Ytflohhefbbidcaa
namespace Go.Proofs.Ytflohhefbbidcaa
open Go.RowKit Go.Maps
open Stb
end Go.Proofs.Ytflohhefbbidcaa
namespace Go.Proofs.Ytflohhefbbidcaa
open Go.RowKit Go.Maps
open Stb
end Go.Proofs.Ytflohhefbbidcaa
namespace Go.Proofs.Ytflohhefbbidcaa
open Go.RowKit Go.Maps
open Stb
end Go.Proofs.Ytflohhefbbidcaa

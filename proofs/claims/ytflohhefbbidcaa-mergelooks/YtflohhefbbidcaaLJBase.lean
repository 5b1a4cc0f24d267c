import Derived.Test.YtflohhefbbidcaaRows
import Derived.WalkKit
import Derived.WalkSpells
import Derived.WalkLawsBesides
import Derived.BigQuiet
import Derived.Deep.QuietTactic
import Derived.Deep.AppendLies
import Derived.Maps.AppendAt
import Derived.Laws.BytesArg
import Derived.Lib.SlBytesConst
import Derived.OpenShut
import Derived.Laws.AppendOwnNone
import Derived.Deep.RegionHeld3
import Derived.Maps.OwnSet
import Derived.Maps.Views
import Derived.Carry
import Derived.Maps.RangeWalk
set_option linter.unusedVariables false
namespace Go.Proofs.Ytflohhefbbidcaa.Lz
def g (zs : List Int) (i : Nat) : Int := zs.getD i 0
theorem g_lt (zs : List Int) (i : Nat) (h : i < zs.length) : g zs i = zs[i] := by simp [g, h]
theorem g_take (zs : List Int) (k i : Nat) (h : i < k) : g (zs.take k) i = g zs i := by simp [g, h]
end Go.Proofs.Ytflohhefbbidcaa.Lz
namespace Go.Proofs.Ytflohhefbbidcaa
open Go.RowKit Go.Maps
open Lz (g)
def Seg (w : World) (b off : Nat) (zs : List Int) : Prop := ∀ i, i < zs.length → w.cell? ⟨b, off + i, none⟩ = some (.int .u8 (g zs i))
theorem dr2 (w : World) (n m : Nat) : ∃ k, (w.drewN n).drewN m = w.drewN k := ⟨n + m, by simp⟩
theorem ret_int {a b : Int} (h : a = b) : Ending.returned (.int .i64 a) = .returned (.int .i64 b) := by rw [h]
theorem infoByte : (Try.prog.info? 5).map (fun i => (i.zero, i.size, i.bytes)) = some (some (.int .u8 0), 1, 1) := by kernel_rfl
def KeepT (e : TypeId) (w w' : World) : Prop := ∀ (i : Nat) (cur : Array Value) (fz : Nat × Nat), w.heap[i]? = some (Obj.cells cur e fz) → w'.heap[i]? = some (Obj.cells cur e fz)
theorem heap_lt {w : World} {i : Nat} {o : Obj} (h : w.heap[i]? = some o) : i < w.heap.size := (Array.getElem?_eq_some_iff.1 h).1
theorem KeepT.refl (e : TypeId) (w : World) : KeepT e w w := fun _ _ _ h => h
theorem KeepT.trans {e : TypeId} {a b c : World} (h : KeepT e a b) (k : KeepT e b c) : KeepT e a c := fun i cur fz hi => k i cur fz (h i cur fz hi)
theorem KeepT.setCell {e : TypeId} {a w : World} (h : KeepT e a w) {p : Addr} (u : Value) (hp : ∀ cur fz, w.heap[p.block]? ≠ some (Obj.cells cur e fz)) : KeepT e a (w.setCell p u) := fun i cur fz hi => by
 have := h i cur fz hi
 rw [Below.heap_setCell _ _ _ _ (fun ei => by subst ei; exact hp _ _ this)]; exact this
theorem KeepT.grown {e : TypeId} {a w w' : World} (h : KeepT e a w) {row : Option Nat} (hg : w.grownBy w' row) (hr : ∀ k, row = some k → ∀ cur fz, w.heap[k]? ≠ some (Obj.cells cur e fz)) : KeepT e a w' := fun i cur fz hi => by
 have := h i cur fz hi
 rw [hg.block i (heap_lt this) (fun ei => hr i ei.symm _ _ this)]; exact this
theorem KeepT.owns {e : TypeId} {w w' : World} (h : KeepT e w w') {base size n : Nat} {v : Value} {xs : List Value} (ho : w.ownsRow base e size v n xs) : w'.ownsRow base e size v n xs := by
 refine ⟨ho.1, ?_⟩
 rcases ho.2 with hn | ⟨g, cap, cur, rfl, hb, hgg, rest⟩
 ·exact .inl hn
 ·exact .inr ⟨g, cap, cur, rfl, hb, h _ _ _ hgg, rest⟩
theorem owns_shape {w : World} {base e size n : Nat} {v : Value} {xs : List Value} (h : w.ownsRow base e size v n xs) : ∃ ao c, v = .slice ao n c := by
 rcases h.2 with ⟨rfl, rfl⟩ | ⟨g, cap, cur, rfl, _⟩
 ·exact ⟨_, _, rfl⟩
 ·exact ⟨_, _, rfl⟩
def Bs (w : World) (ao : Option Addr) (n : Nat) (zs : List Int) : Prop :=
 zs.length = n ∧ (∀ i, 0 ≤ g zs i ∧ g zs i ≤ 255) ∧ (n = 0 ∨ ∃ b off, ao = some ⟨b, off, none⟩ ∧ b < w.heap.size ∧ Seg w b off zs)
theorem Seg.below {w w' : World} {B b off : Nat} {zs : List Int} (h : Seg w b off zs) (hb : Below B w w') (hlt : b < B) : Seg w' b off zs := fun i hi => (hb.cell (by exact hlt)).trans (h i hi)
theorem Bs.below {w w' : World} {ao : Option Addr} {n : Nat} {zs : List Int} (h : Bs w ao n zs) (hb : Below w.heap.size w w') : Bs w' ao n zs := by
 refine ⟨h.1, h.2.1, ?_⟩
 rcases h.2.2 with h0 | ⟨b, off, h1, h2, h3⟩
 ·exact .inl h0
 ·exact .inr ⟨b, off, h1, Nat.lt_of_lt_of_le h2 hb.size, h3.below hb h2⟩
def bv (xs : List Int) : List Value := xs.map (Value.int .u8)
theorem bv_length (xs : List Int) : (bv xs).length = xs.length := by simp [bv]
theorem news_seg {w : World} {b off : Nat} {l : List Int} (h : Seg w b off l) (k : Nat) : ∀ j u, (bv (l.take k))[j]? = some u → w.cell? ((⟨b, off, none⟩ : Addr).add j) = some u := by
 intro j u hu
 have hj : j < (l.take k).length := by
  have := (List.getElem?_eq_some_iff.1 hu).1
  simpa [bv] using this
 rw [Addr.add_lit, h j (by simp at hj; omega)]
 have e : (bv (l.take k))[j]? = some (.int .u8 (g (l.take k) j)) := by
  unfold bv
  rw [List.getElem?_map, List.getElem?_eq_getElem hj, Lz.g_lt _ _ hj]; rfl
 rw [e] at hu
 rw [← Lz.g_take l k j (by simp at hj; omega)]
 exact hu
theorem bv_one (xs : List Int) : ∀ u ∈ bv xs, u.oneCell' = true := ints_oneCell .u8 xs
theorem grown_alloc {w w1 : World} {row : Option Nat} {o : Obj} (h : (w.alloc o).grownBy w1 row) : w.grownBy w1 row :=
 ⟨h.os, h.tape, h.output, Nat.le_trans (by simp) h.size, fun k hk hne => (h.block k (by simp; omega) hne).trans (Below.heap_alloc w o k hk)⟩
theorem owns_below {w w' : World} {B e size n : Nat} {v : Value} {xs : List Value} (h : w.ownsRow B e size v n xs) (hb : Below w.heap.size w w') : w'.ownsRow B e size v n xs := by
 refine ⟨h.1, ?_⟩
 rcases h.2 with hn | ⟨g, cap, cur, rfl, hg, hgg, rest⟩
 ·exact .inl hn
 ·exact .inr ⟨g, cap, cur, rfl, hg, by rw [hb.block g (heap_lt hgg)]; exact hgg, rest⟩
def Bytes (zs : List Int) : Prop := ∀ x ∈ zs, 0 ≤ x ∧ x ≤ 255
theorem Bytes.g {zs : List Int} (h : Bytes zs) : ∀ i, 0 ≤ Lz.g zs i ∧ Lz.g zs i ≤ 255 := fun i => by
 unfold Lz.g
 by_cases hi : i < zs.length
 ·simp only [List.getD, List.getElem?_eq_getElem hi, Option.getD_some]
  exact h _ (List.getElem_mem hi)
 ·simp only [List.getD, List.getElem?_eq_none (by omega : zs.length ≤ i), Option.getD_none]; omega
theorem Bytes.of_g {zs : List Int} (h : ∀ i, 0 ≤ Lz.g zs i ∧ Lz.g zs i ≤ 255) : Bytes zs := fun x hx => by
 obtain ⟨i, hi, rfl⟩ := List.getElem_of_mem hx
 have := h i
 rw [Lz.g_lt zs i hi] at this
 exact this
theorem Bytes.take {a : List Int} (h : Bytes a) (n : Nat) : Bytes (a.take n) := fun x hx => h x (List.mem_of_mem_take hx)
theorem bs_of_owns {w : World} {B n c : Nat} {ao : Option Addr} {zs : List Int} (h : w.ownsRow B 5 1 (.slice ao n c) n (bv zs)) (hb : Bytes zs) : Bs w ao n zs := by
 have hlen : zs.length = n := by have := h.1; rw [bv_length] at this; omega
 refine ⟨hlen, hb.g, ?_⟩
 by_cases e : n = 0
 ·exact .inl e
 ·obtain ⟨gb, c', hv, _, hlt⟩ := h.form (by omega)
  obtain ⟨rfl, _, rfl⟩ : ao = some ⟨gb, 0, none⟩ ∧ n = n ∧ c = c' := by simpa using hv
  refine .inr ⟨gb, 0, rfl, hlt, fun i hi => ?_⟩
  rw [Nat.zero_add, h.cellAt i (by omega)]
  unfold bv
  rw [List.getElem?_map, List.getElem?_eq_getElem hi, Lz.g_lt _ _ hi]; rfl
theorem str_any {w : World} {ao : Option Addr} {n : Nat} {zs : List Int} (h : Bs w ao n zs) (c : Nat) : (convert 41 9 (.slice ao n c)).run Try.prog w = .ok (.string (strOfNums zs)) w := by
 obtain ⟨hz, _, h0⟩ := h
 rcases h0 with h0 | ⟨b, off, rfl, _, hs⟩
 ·subst h0
  have : zs = [] := List.eq_nil_of_length_eq_zero hz
  subst this
  cases ao with
  | none => exact run_convert_bytes_nil w _ _ Try.underlying41 Try.underlying5 0 c _ Try.underlying9
  | some a =>
   rw [run_convert_bytes_string w _ _ _ _ 0 c Try.underlying41 Try.underlying5 Try.underlying9, run_bytesToString w a 0 c [] (by simp [loadCells, loadCellsFrom])]
   rfl
 ·exact run_convert_bytes_arg w _ _ Try.underlying41 Try.underlying5 b off n c zs hz (fun i hi => hs i (by omega)) _ Try.underlying9
def RowB (w : World) (a : Option Addr) (len cap : Nat) (zs : List Int) : Prop :=
 (a = none ∧ len = 0 ∧ cap = 0 ∧ zs = []) ∨
 ∃ x, a = some x ∧ len ≤ cap ∧ cap ≤ maxLen ∧ zs.length = cap ∧ (∀ i, i < zs.length → w.cell? (x.add i) = some (.int .u8 (zs.getD i 0))) ∧ ∀ n ∈ zs, (Lit.int .u8 n).wf = true
theorem wf_u8 {n : Int} (h : (Lit.int .u8 n).wf = true) : 0 ≤ n ∧ n ≤ 255 := by
 have := bounds_u8 h
 omega
theorem RowB.bs {w : World} {a : Option Addr} {len cap : Nat} {zs : List Int} (h : RowB w a len cap zs) (m : Nat) (hm : m ≤ len) : Bs w a m (zs.take m) ∧ len ≤ cap ∧ cap ≤ 9223372036854775807 ∧ Bytes (zs.take m) ∧ (a = none → cap = 0) := by
 rcases h with ⟨rfl, rfl, rfl, rfl⟩ | ⟨x, rfl, hl, hc, hz, hcell, hwf⟩
 ·obtain rfl : m = 0 := by omega
  exact ⟨⟨rfl, fun i => by simp [g], .inl rfl⟩, by omega, by omega, fun x hx => by simp at hx, fun _ => rfl⟩
 ·have hb : Bytes zs := fun n hn => wf_u8 (hwf n hn)
  refine ⟨⟨by simp; omega, (hb.take m).g, ?_⟩, hl, by unfold maxLen at hc; omega, hb.take m, fun e => by simp at e⟩
  by_cases e : m = 0
  ·exact .inl e
  ·obtain ⟨b, off, spot⟩ := x
   have hc0 := hcell 0 (by omega)
   have hspot : spot = none := by simpa [Addr.add] using World.cell?_spot hc0
   subst hspot
   have hlt : b < w.heap.size := by
    have := World.block_lt_of_cell? w _ hc0
    simpa [Addr.add] using this
   refine .inr ⟨b, off, rfl, hlt, fun i hi => ?_⟩
   simp at hi
   rw [Lz.g_take _ _ _ (by omega)]
   have := hcell i (by omega)
   rw [Addr.add_lit] at this
   exact this
theorem hide {p : Prop} (h : p) : Hid p := h
theorem ret_bool {a b : Bool} (h : a = b) : Ending.returned (.bool a) = .returned (.bool b) := by rw [h]
theorem enters (fn : Nat) {f : Func} {c : Code} (hf : Try.prog.funcs[fn]? = some f) (hname : (f.name == "runtime.NumGoroutine") = false) (hb : f.body = some c) : ∀ (args : Array Value) (w : World), (callFunc fn args).run Try.prog w = .ok (.enter fn args) w := fun args w => by
 have hn : ¬ f.name = "runtime.NumGoroutine" := by simpa using hname
 simp [callFunc, hf, hn, hb]
theorem heap_new {w : World} {o : Obj} {k : Nat} (h : k = w.heap.size) : (w.alloc o).heap[k]? = some o := by subst h; exact heap_alloc_new w o
theorem below_drewN {B : Nat} {a b : World} (h : Below B a b) (n : Nat) : Below B a (b.drewN n) := ⟨h.os, h.tape, h.output, h.size, h.block⟩
theorem below_one (w : World) (o : Obj) : Below w.heap.size w (w.alloc o) := (Below.refl _ _).alloc (Nat.le_refl _) o
theorem Bs.bytes {w : World} {ao : Option Addr} {n : Nat} {zs : List Int} (h : Bs w ao n zs) : Bytes zs := Bytes.of_g h.2.1
theorem str_inj : ∀ {xs ys : List Int}, Bytes xs → Bytes ys → strOfNums xs = strOfNums ys → xs = ys := by
 intro xs ys hx hy h
 have h2 : xs.map (fun n => UInt8.ofNat n.toNat) = ys.map (fun n => UInt8.ofNat n.toNat) := by
  have := congrArg (fun b : ByteArray => b.data.toList) h
  simpa [strOfNums] using this
 clear h
 induction xs generalizing ys with
 | nil => cases ys with
  | nil => rfl
  | cons y ys => simp at h2
 | cons x xs ih => cases ys with
  | nil => simp at h2
  | cons y ys =>
   simp only [List.map_cons, List.cons.injEq] at h2
   have hx0 := hx x (by simp)
   have hy0 := hy y (by simp)
   have e := congrArg UInt8.toNat h2.1
   rw [UInt8.toNat_ofNat_of_lt' (by show x.toNat < 256; omega), UInt8.toNat_ofNat_of_lt' (by show y.toNat < 256; omega)] at e
   rw [ih (fun z hz => hx z (by simp [hz])) (fun z hz => hy z (by simp [hz])) h2.2]
   congr 1; omega
theorem str_eq {x y : List Int} (hx : Bytes x) (hy : Bytes y) : ((strOfNums x).toList == (strOfNums y).toList) = decide (x = y) := by
 rw [Bool.eq_iff_iff, beq_iff_eq, decide_eq_true_eq]
 refine ⟨fun h => str_inj hx hy ?_, fun h => by rw [h]⟩
 rw [ByteArray.toList_eq, ByteArray.toList_eq] at h
 exact ByteArray.ext (Array.toList_inj.1 h)
theorem owns_obj {w : World} {B e size n k : Nat} {v : Value} {xs : List Value} (h : w.ownsRow B e size v n xs) (hk : v.ownBlock = some k) : ∃ cur, w.heap[k]? = some (.cells cur e (0, 0)) := by
 rcases h.2 with ⟨rfl, _⟩ | ⟨g, cap, cur, rfl, _, hgg, _⟩
 ·simp [Value.ownBlock] at hk
 ·simp [Value.ownBlock] at hk
  subst hk
  exact ⟨cur, hgg⟩
end Go.Proofs.Ytflohhefbbidcaa
namespace Go.Proofs.Ytflohhefbbidcaa
open Go.RowKit Go.Maps
def HV (v : Value) : Option (DataW Value × List MemPlace) := some (.held v, [])
def MpK (k : TypeId) (w : World) (b sz : Nat) (f : Lit → Option Nat) : Prop :=
 ∃ D : DataW Value, w.ownsMap Try.prog k HV b sz D ∧ Maps.size D = sz ∧ ∀ kl, WideAt.IsKeyLit kl → has D kl = (f kl).isSome ∧ ∀ z, f kl = some z → D.atKey kl (.held (.int .i64 0)) = .held (.int .i64 (z : Int))
theorem MpK.same {k : TypeId} {w w' : World} {b sz : Nat} {f : Lit → Option Nat} (h : MpK k w b sz f) (hb : w'.heap[b]? = w.heap[b]?) : MpK k w' b sz f := by
 obtain ⟨D, ⟨es, clock, h1, h2⟩, h3⟩ := h
 exact ⟨D, ⟨es, clock, hb.trans h1, h2⟩, h3⟩
theorem MpK.lt {k : TypeId} {w : World} {b sz : Nat} {f : Lit → Option Nat} (h : MpK k w b sz f) : b < w.heap.size := by
 obtain ⟨D, h1, _⟩ := h
 exact h1.lt
theorem MpK.below {k : TypeId} {w w' : World} {b sz : Nat} {f : Lit → Option Nat} (h : MpK k w b sz f) (hb : Below w.heap.size w w') : MpK k w' b sz f :=
 h.same (hb.block b h.lt)
theorem mpk_new (k : TypeId) (w : World) : MpK k (w.alloc (.map #[] 0)) w.heap.size 0 (fun _ => none) :=
 ⟨.map [], World.ownsMap_made w _ _ _, rfl, fun kl _ => ⟨rfl, fun z hz => by cases hz⟩⟩
theorem MpK.len {k : TypeId} {w : World} {b sz : Nat} {f : Lit → Option Nat} (h : MpK k w b sz f) {t e : TypeId} (ht : Try.prog.underlying t = some (.map k e)) (ty : TypeId) : (Builtin.len_ #[t] ty #[.map (some b)]).run Try.prog w = .ok (.int .i64 (sz : Int)) w := by
 obtain ⟨D, h1, h2, _⟩ := h
 have := h1.len ht ty
 rw [h2] at this
 exact this
theorem zeroInt7 (w : World) : (zeroValue 3).run Try.prog w = .ok (.int .i64 0) w := by kernel_rfl
theorem MpK.look {k : TypeId} {w : World} {b sz : Nat} {f : Lit → Option Nat} (h : MpK k w b sz f) (K : Keyed Try.prog k) {t : TypeId} (ht : Try.prog.underlying t = some (.map k 3)) {key : Value} {kl : Lit} (hkey : keyOf Try.prog k key = some kl) (hk : WideAt.IsKeyLit kl) :
  (Instr.lookup t (.map (some b)) key true).run Try.prog w = .ok (.tuple #[.int .i64 (((f kl).getD 0 : Nat) : Int), .bool (f kl).isSome]) w := by
 obtain ⟨D, h1, _, h3⟩ := h
 obtain ⟨e1, e2⟩ := h3 kl hk
 obtain ⟨v, ps, hr, hv⟩ := h1.look_ok K ht (zeroInt7 w) (zd := .held (.int .i64 0)) (zp := []) rfl hkey
 rw [e1] at hr
 cases hf : f kl with
 | none =>
  rw [hf] at e1 hr
  rw [Maps.atKey_of_not_has e1] at hv
  simp [HV] at hv
  rw [hv.1] at hr
  exact hr
 | some z =>
  rw [hf] at hr
  rw [e2 z hf] at hv
  simp [HV] at hv
  rw [hv.1] at hr
  exact hr
def upd (f : Lit → Option Nat) (kl : Lit) (z : Nat) : Lit → Option Nat := fun k => if k.sameKey kl = true then some z else f k
theorem upd_same (f : Lit → Option Nat) (kl : Lit) (z : Nat) (hk : WideAt.IsKeyLit kl) : upd f kl z kl = some z := by
 unfold upd; rw [if_pos (WideAt.sameKey_self hk)]
theorem upd_other (f : Lit → Option Nat) {kl k : Lit} (z : Nat) (h : k ≠ kl) : upd f kl z k = f k := by
 unfold upd; rw [if_neg (fun e => h (WideAt.sameKey_eq e))]
theorem tight {k : TypeId} {w : World} {b n : Nat} {D : DataW Value} (h : w.ownsMap Try.prog k HV b n D) : w.ownsMap Try.prog k HV b (Maps.size D) D := by
 obtain ⟨es, clock, h1, h2, h3, rfl⟩ := h
 refine ⟨es, clock, h1, h2, ?_, rfl⟩
 simp [Maps.size, length_sorted]
theorem MpK.store {k : TypeId} {w : World} {b sz : Nat} {f : Lit → Option Nat} (h : MpK k w b sz f) (K : Keyed Try.prog k) {t : TypeId} (ht : Try.prog.underlying t = some (.map k 3)) {key : Value} {kl : Lit} (hkey : keyOf Try.prog k key = some kl) (hk : WideAt.IsKeyLit kl) (hsz : sz ≤ 1000000) (z : Nat) :
  ∃ w', (Instr.mapUpdate t (.map (some b)) key (.int .i64 (z : Int))).run Try.prog w = .ok () w' ∧ MpK k w' b (if (f kl).isSome = true then sz else sz + 1) (upd f kl z) ∧ w.grownBy w' (some b) := by
 obtain ⟨D, h1, h2, h3⟩ := h
 obtain ⟨w', hr, hm, hg⟩ := h1.update K ht (by unfold maxLen; omega) hkey (show HV (.int .i64 (z : Int)) = some (.held _, []) from rfl)
 refine ⟨w', hr, ⟨D.put kl (.held (.int .i64 (z : Int))), ?_, ?_, fun k' hk' => ?_⟩, hg⟩
 ·have := tight hm
  rw [Maps.size_put (h1.tidy K), (h3 kl hk).1, h2] at this
  exact this
 ·rw [Maps.size_put (h1.tidy K), (h3 kl hk).1, h2]
 ·by_cases e : k' = kl
  ·subst e
   rw [upd_same _ _ _ hk]
   refine ⟨Maps.has_put_same h1.isMap hk _, fun y hy => ?_⟩
   cases hy
   exact Maps.atKey_put_same h1.isMap hk _ _
  ·rw [upd_other _ _ e, Maps.has_put_other e]
   refine ⟨(h3 k' hk').1, fun y hy => ?_⟩
   rw [Maps.atKey_put_other e]
   exact (h3 k' hk').2 y hy
theorem keyStr (s : ByteArray) (hs : s.size ≤ maxLen) : keyOf Try.prog 9 (.string s) = some (.string s.data.toList) := by
 rw [keyOf_string Try.underlying9]
 simp [mapKey, Try.underlying9, hs]
theorem keyedStr : Keyed Try.prog 9 := string_keyed Try.underlying9
end Go.Proofs.Ytflohhefbbidcaa
namespace Go.Proofs.Ytflohhefbbidcaa
namespace Stb
def swp (C : Nat → Nat) (i j : Nat) : Nat → Nat := fun k => if k = i then C j else if k = j then C i else C k
def swr (C : Nat → Nat) (a b n : Nat) : Nat → Nat := fun k => if a ≤ k ∧ k < a + n then C (k + (b - a)) else if b ≤ k ∧ k < b + n then C (k - (b - a)) else C k
def rot (C : Nat → Nat) (lo m hi : Nat) : Nat → Nat := fun k => if lo ≤ k ∧ k < lo + (hi - m) then C (k + (m - lo)) else if lo + (hi - m) ≤ k ∧ k < hi then C (k - (hi - m)) else C k
theorem swr_zero (C : Nat → Nat) (a b : Nat) : swr C a b 0 = C := by
 funext k
 unfold swr
 rw [if_neg (by omega), if_neg (by omega)]
theorem swr_succ (C : Nat → Nat) (a b n : Nat) (h : a + n < b) : swp (swr C a b n) (a + n) (b + n) = swr C a b (n + 1) := by
 funext k
 simp only [swp, swr]
 repeat' split
 all_goals first | rfl | (exfalso; omega) | (congr 1; omega)
theorem rot_gt (C : Nat → Nat) (i j m : Nat) (hi : i ≤ m) (h : j < i) : rot (swr C (m - i) m j) (m - (i - j)) m (m + j) = rot C (m - i) m (m + j) := by
 funext k
 simp only [rot, swr]
 repeat' split
 all_goals first | rfl | (exfalso; omega) | (congr 1; omega)
theorem rot_lt (C : Nat → Nat) (i j m : Nat) (hi : i ≤ m) (h : i < j) : rot (swr C (m - i) (m + j - i) i) (m - i) m (m + (j - i)) = rot C (m - i) m (m + j) := by
 funext k
 simp only [rot, swr]
 repeat' split
 all_goals first | rfl | (exfalso; omega) | (congr 1; omega)
theorem rot_eq (C : Nat → Nat) (i m : Nat) (hi : i ≤ m) : swr C (m - i) m i = rot C (m - i) m (m + i) := by
 funext k
 simp only [rot, swr]
 repeat' split
 all_goals first | rfl | (exfalso; omega) | (congr 1; omega)
theorem rot_none (C : Nat → Nat) (s m e : Nat) (h1 : s ≤ m) (h2 : m ≤ e) (h : s = m ∨ e = m) : rot C s m e = C := by
 funext k
 unfold rot
 repeat' split
 all_goals first | rfl | (exfalso; omega) | (congr 1; omega)
theorem rot_up (C : Nat → Nat) (a k : Nat) (h : a ≤ k) : swp (rot C a (a + 1) (k + 1)) k (k + 1) = rot C a (a + 1) (k + 2) := by
 funext x
 simp only [rot, swp]
 repeat' split
 all_goals first | rfl | (exfalso; omega) | (congr 1; omega)
theorem rot_down (C : Nat → Nat) (k m : Nat) (h : k < m) : swp (rot C (k + 1) m (m + 1)) (k + 1) k = rot C k m (m + 1) := by
 funext x
 simp only [rot, swp]
 repeat' split
 all_goals first | rfl | (exfalso; omega) | (congr 1; omega)
theorem rot_out (C : Nat → Nat) {s m e k : Nat} (h1 : s ≤ m) (h2 : m ≤ e) (h : k < s ∨ e ≤ k) : rot C s m e k = C k := by
 unfold rot
 rw [if_neg (by omega), if_neg (by omega)]
theorem rot_one (C : Nat → Nat) {s m e k : Nat} (h1 : s ≤ k) (h : k < s + (e - m)) : rot C s m e k = C (k + (m - s)) := by
 unfold rot
 rw [if_pos ⟨h1, h⟩]
theorem rot_two (C : Nat → Nat) {s m e k : Nat} (h1 : s + (e - m) ≤ k) (h : k < e) : rot C s m e k = C (k - (e - m)) := by
 unfold rot
 rw [if_neg (by omega), if_pos ⟨h1, h⟩]
def In (C : Nat → Nat) (a b x : Nat) : Prop := ∃ k, a ≤ k ∧ k < b ∧ C k = x
def Srd (lt : Nat → Nat → Prop) (C : Nat → Nat) (a b : Nat) : Prop := ∀ i j, a ≤ i → i < j → j < b → lt (C i) (C j)
def Idx (C : Nat → Nat) (a m b : Nat) : Prop := ∀ i j, a ≤ i → i < m → m ≤ j → j < b → C i < C j
structure Mg (lt : Nat → Nat → Prop) (C D : Nat → Nat) (a b : Nat) : Prop where
 out : ∀ k, k < a ∨ b ≤ k → D k = C k
 inn : ∀ x, In D a b x ↔ In C a b x
 srd : Srd lt D a b
theorem In.rot {C : Nat → Nat} {a s m e b x : Nat} (h1 : a ≤ s) (h2 : s ≤ m) (h3 : m ≤ e) (h4 : e ≤ b) : In (rot C s m e) a b x ↔ In C a b x := by
 constructor
 ·rintro ⟨k, k1, k2, rfl⟩
  by_cases c1 : k < s ∨ e ≤ k
  ·exact ⟨k, k1, k2, (rot_out C h2 h3 c1).symm⟩
  ·by_cases c2 : k < s + (e - m)
   ·exact ⟨k + (m - s), by omega, by omega, (rot_one C (by omega) c2).symm⟩
   ·exact ⟨k - (e - m), by omega, by omega, (rot_two C (by omega) (by omega)).symm⟩
 ·rintro ⟨k, k1, k2, rfl⟩
  by_cases c1 : k < s ∨ e ≤ k
  ·exact ⟨k, k1, k2, rot_out C h2 h3 c1⟩
  ·by_cases c2 : k < m
   ·exact ⟨k + (e - m), by omega, by omega, by rw [rot_two C (by omega) (by omega)]; congr 1; omega⟩
   ·exact ⟨k - (m - s), by omega, by omega, by rw [rot_one C (by omega) (by omega)]; congr 1; omega⟩
theorem Srd.le {lt : Nat → Nat → Prop} {C : Nat → Nat} {a b i j k : Nat} (tr : ∀ x y z, lt x y → lt y z → lt x z) (h : Srd lt C a b) (h1 : a ≤ i) (h2 : i ≤ j) (h3 : j < b) {z : Nat} (hz : lt (C j) z) : lt (C i) z := by
 rcases Nat.lt_or_ge i j with c | c
 ·exact tr _ _ _ (h i j h1 c h3) hz
 ·obtain rfl : i = j := by omega
  exact hz
theorem Srd.ge {lt : Nat → Nat → Prop} {C : Nat → Nat} {a b i j : Nat} (tr : ∀ x y z, lt x y → lt y z → lt x z) (h : Srd lt C a b) (h1 : a ≤ i) (h2 : i ≤ j) (h3 : j < b) {z : Nat} (hz : lt z (C i)) : lt z (C j) := by
 rcases Nat.lt_or_ge i j with c | c
 ·exact tr _ _ _ hz (h i j h1 c h3)
 ·obtain rfl : i = j := by omega
  exact hz
theorem mg_down {lt : Nat → Nat → Prop} (tr : ∀ x y z, lt x y → lt y z → lt x z) {C : Nat → Nat} {a s m : Nat} (hs : Srd lt C a m) (h1 : a ≤ s) (h2 : s ≤ m) (h3 : s = a ∨ lt (C (s - 1)) (C m)) (h4 : s = m ∨ lt (C m) (C s)) :
  Mg lt C (rot C s m (m + 1)) a (m + 1) := by
 refine ⟨fun k hk => rot_out C h2 (by omega) (by omega), fun x => In.rot h1 h2 (by omega) (Nat.le_refl _), fun i j e1 e2 e3 => ?_⟩
 have f1 : ∀ k, k < s → rot C s m (m + 1) k = C k := fun k hk => rot_out C h2 (by omega) (.inl hk)
 have f2 : rot C s m (m + 1) s = C m := by rw [rot_one C (Nat.le_refl _) (by omega)]; congr 1; omega
 have f3 : ∀ k, s < k → k < m + 1 → rot C s m (m + 1) k = C (k - 1) := fun k hk hm => by rw [rot_two C (by omega) hm]; congr 1; omega
 have low : ∀ i, a ≤ i → i < s → lt (C i) (C m) := fun i q1 q2 => by
  rcases h3 with h3 | h3
  ·omega
  ·exact hs.le (k := 0) tr q1 (by omega) (by omega) h3
 have high : ∀ j, s ≤ j → j < m → lt (C m) (C j) := fun j q1 q2 => by
  rcases h4 with h4 | h4
  ·omega
  ·exact hs.ge tr h1 q1 q2 h4
 rcases Nat.lt_trichotomy j s with c | c | c
 ·rw [f1 i (by omega), f1 j c]; exact hs i j e1 e2 (by omega)
 ·subst c; rw [f1 i e2, f2]; exact low i e1 e2
 ·rw [f3 j c e3]
  rcases Nat.lt_trichotomy i s with d | d | d
  ·rw [f1 i d]; exact hs i (j - 1) e1 (by omega) (by omega)
  ·subst d; rw [f2]; exact high _ (by omega) (by omega)
  ·rw [f3 i d (by omega)]; exact hs (i - 1) (j - 1) (by omega) (by omega) (by omega)
theorem mg_up {lt : Nat → Nat → Prop} (tr : ∀ x y z, lt x y → lt y z → lt x z) {C : Nat → Nat} {a s b : Nat} (hs : Srd lt C (a + 1) b) (h1 : a + 1 ≤ s) (h2 : s ≤ b) (h3 : s = a + 1 ∨ lt (C (s - 1)) (C a)) (h4 : s = b ∨ lt (C a) (C s)) :
  Mg lt C (rot C a (a + 1) s) a b := by
 refine ⟨fun k hk => rot_out C (by omega) (by omega) (by omega), fun x => In.rot (Nat.le_refl _) (by omega) h1 h2, fun i j e1 e2 e3 => ?_⟩
 have f1 : ∀ k, s ≤ k → rot C a (a + 1) s k = C k := fun k hk => rot_out C (by omega) (by omega) (.inr hk)
 have f2 : rot C a (a + 1) s (s - 1) = C a := by rw [rot_two C (by omega) (by omega)]; congr 1; omega
 have f3 : ∀ k, a ≤ k → k < s - 1 → rot C a (a + 1) s k = C (k + 1) := fun k hk hm => by rw [rot_one C hk (by omega)]; congr 1; omega
 have low : ∀ i, a + 1 ≤ i → i < s → lt (C i) (C a) := fun i q1 q2 => by
  rcases h3 with h3 | h3
  ·omega
  ·exact hs.le (k := 0) tr q1 (by omega) (by omega) h3
 have high : ∀ j, s ≤ j → j < b → lt (C a) (C j) := fun j q1 q2 => by
  rcases h4 with h4 | h4
  ·omega
  ·exact hs.ge tr h1 q1 q2 h4
 by_cases c : s ≤ i
 ·rw [f1 i c, f1 j (by omega)]; exact hs i j (by omega) e2 e3
 ·by_cases d : i = s - 1
  ·rw [d, f2, f1 j (by omega)]; exact high j (by omega) e3
  ·rw [f3 i e1 (by omega)]
   by_cases e : s ≤ j
   ·rw [f1 j e]; exact hs (i + 1) j (by omega) (by omega) e3
   ·by_cases f : j = s - 1
    ·rw [f, f2]; exact low _ (by omega) (by omega)
    ·rw [f3 j (by omega) (by omega)]; exact hs (i + 1) (j + 1) (by omega) (by omega) (by omega)
theorem In.parts {C : Nat → Nat} {a m b x : Nat} (h1 : a ≤ m) (h2 : m ≤ b) : In C a b x ↔ In C a m x ∨ In C m b x := by
 constructor
 ·rintro ⟨k, k1, k2, rfl⟩
  rcases Nat.lt_or_ge k m with c | c
  ·exact .inl ⟨k, k1, c, rfl⟩
  ·exact .inr ⟨k, c, k2, rfl⟩
 ·rintro (⟨k, k1, k2, rfl⟩ | ⟨k, k1, k2, rfl⟩)
  ·exact ⟨k, k1, by omega, rfl⟩
  ·exact ⟨k, by omega, k2, rfl⟩
theorem In.same {C D : Nat → Nat} {a b x : Nat} (h : ∀ k, a ≤ k → k < b → D k = C k) : In D a b x ↔ In C a b x :=
 ⟨fun ⟨k, k1, k2, e⟩ => ⟨k, k1, k2, (h k k1 k2).symm.trans e⟩, fun ⟨k, k1, k2, e⟩ => ⟨k, k1, k2, (h k k1 k2).trans e⟩⟩
theorem Srd.same {lt : Nat → Nat → Prop} {C D : Nat → Nat} {a b : Nat} (h : Srd lt C a b) (e : ∀ k, a ≤ k → k < b → D k = C k) : Srd lt D a b := fun i j h1 h2 h3 => by
 rw [e i h1 (by omega), e j (by omega) h3]; exact h i j h1 h2 h3
theorem Idx.same {C D : Nat → Nat} {a m b : Nat} (h : Idx C a m b) (e : ∀ k, a ≤ k → k < b → D k = C k) : Idx D a m b := fun i j h1 h2 h3 h4 => by
 rw [e i h1 (by omega), e j (by omega) h4]; exact h i j h1 h2 h3 h4
structure Half (lt : Nat → Nat → Prop) (C D : Nat → Nat) (a s mid e b : Nat) : Prop where
 s1 : Srd lt D a s
 s2 : Srd lt D s mid
 s3 : Srd lt D mid e
 s4 : Srd lt D e b
 i1 : Idx D a s mid
 i2 : Idx D mid e b
 inn : ∀ x, In D a b x ↔ In C a b x
 out : ∀ k, k < a ∨ b ≤ k → D k = C k
 cross : ∀ x y, In D a mid x → In D mid b y → lt x y
theorem half {lt : Nat → Nat → Prop} (tr : ∀ x y z, lt x y → lt y z → lt x z) {C : Nat → Nat} {a s m mid e b : Nat} (hl : Srd lt C a m) (hr : Srd lt C m b) (hi : Idx C a m b)
  (h1 : a ≤ s) (h2 : s ≤ m) (h3 : m ≤ e) (h4 : e ≤ b) (he : s + e = mid + m)
  (c1 : s = a ∨ e = b ∨ lt (C (s - 1)) (C e)) (c2 : s = m ∨ e = m ∨ lt (C (e - 1)) (C s)) : Half lt C (rot C s m e) a s mid e b := by
 have f1 : ∀ k, k < s → rot C s m e k = C k := fun k hk => rot_out C h2 h3 (.inl hk)
 have f2 : ∀ k, s ≤ k → k < mid → rot C s m e k = C (k + (m - s)) := fun k hk hm => rot_one C hk (by omega)
 have f3 : ∀ k, mid ≤ k → k < e → rot C s m e k = C (k - (e - m)) := fun k hk hm => rot_two C (by omega) hm
 have f4 : ∀ k, e ≤ k → rot C s m e k = C k := fun k hk => rot_out C h2 h3 (.inr hk)
 refine ⟨?_, ?_, ?_, ?_, ?_, ?_, fun x => In.rot h1 h2 h3 h4, fun k hk => rot_out C h2 h3 (by omega), ?_⟩
 ·intro i j e1 e2 e3; rw [f1 i (by omega), f1 j e3]; exact hl i j e1 e2 (by omega)
 ·intro i j e1 e2 e3; rw [f2 i e1 (by omega), f2 j (by omega) e3]; exact hr _ _ (by omega) (by omega) (by omega)
 ·intro i j e1 e2 e3; rw [f3 i e1 (by omega), f3 j (by omega) e3]; exact hl _ _ (by omega) (by omega) (by omega)
 ·intro i j e1 e2 e3; rw [f4 i e1, f4 j (by omega)]; exact hr _ _ (by omega) (by omega) (by omega)
 ·intro i j e1 e2 e3 e4; rw [f1 i e2, f2 j e3 e4]; exact hi _ _ e1 (by omega) (by omega) (by omega)
 ·intro i j e1 e2 e3 e4; rw [f3 i e1 e2, f4 j e3]; exact hi _ _ (by omega) (by omega) (by omega) (by omega)
 ·rintro x y ⟨i, i1, i2, rfl⟩ ⟨j, j1, j2, rfl⟩
  by_cases ci : i < s
  ·rw [f1 i ci]
   by_cases cj : j < e
   ·rw [f3 j j1 cj]; exact hl _ _ i1 (by omega) (by omega)
   ·rw [f4 j (by omega)]
    rcases c1 with c | c | c
    ·omega
    ·omega
    ·exact hr.ge tr h3 (by omega) j2 (hl.le (k := 0) tr i1 (by omega) (by omega) c)
  ·rw [f2 i (by omega) i2]
   by_cases cj : j < e
   ·rw [f3 j j1 cj]
    rcases c2 with c | c | c
    ·omega
    ·omega
    ·exact hl.ge tr h1 (by omega) (by omega) (hr.le (k := 0) tr (by omega) (by omega) (by omega) c)
   ·rw [f4 j (by omega)]; exact hr _ _ (by omega) (by omega) (by omega)
theorem Mg.none {lt : Nat → Nat → Prop} {C : Nat → Nat} {a m b : Nat} (h1 : Srd lt C a m) (h2 : Srd lt C m b) (h : ¬ (a < m ∧ m < b)) (ha : a ≤ m) (hb : m ≤ b) : Mg lt C C a b := by
 refine ⟨fun _ _ => rfl, fun _ => Iff.rfl, ?_⟩
 by_cases c : a < m
 ·obtain rfl : m = b := by omega
  exact h1
 ·obtain rfl : a = m := by omega
  exact h2
theorem Half.mg {lt : Nat → Nat → Prop} {C D E G : Nat → Nat} {a s mid e b : Nat} (h : Half lt C D a s mid e b) (ha : a ≤ mid) (hb : mid ≤ b) (m1 : Mg lt D E a mid) (m2 : Mg lt E G mid b) : Mg lt C G a b := by
 have g1 : ∀ k, a ≤ k → k < mid → G k = E k := fun k _ hk => m2.out k (.inl hk)
 have e1 : ∀ k, mid ≤ k → k < b → E k = D k := fun k hk _ => m1.out k (.inr hk)
 refine ⟨fun k hk => ?_, fun x => ?_, fun i j i1 i2 i3 => ?_⟩
 ·rw [m2.out k (by omega), m1.out k (by omega)]; exact h.out k hk
 ·rw [← h.inn x, In.parts ha hb, In.parts ha hb, In.same g1, m1.inn, m2.inn, In.same e1]
 ·rcases Nat.lt_or_ge j mid with c | c
  ·exact (m1.srd.same g1) i j i1 i2 c
  ·rcases Nat.lt_or_ge i mid with d | d
   ·refine h.cross _ _ ((m1.inn _).1 ⟨i, i1, d, (g1 i i1 d).symm⟩) ?_
    exact (In.same e1).1 ((m2.inn _).1 ⟨j, c, i3, rfl⟩)
   ·exact m2.srd i j d i2 i3
theorem Half.again2 {lt : Nat → Nat → Prop} {C D E : Nat → Nat} {a s mid e b : Nat} (h : Half lt C D a s mid e b) (h3 : mid ≤ e) (h4 : e ≤ b) (m1 : Mg lt D E a mid) : Srd lt E mid e ∧ Srd lt E e b ∧ Idx E mid e b :=
 have e1 : ∀ k, mid ≤ k → k < b → E k = D k := fun k hk _ => m1.out k (.inr hk)
 ⟨h.s3.same fun k a b => e1 k a (by omega), h.s4.same fun k a b => e1 k (by omega) b, h.i2.same e1⟩
structure St (lt : Nat → Nat → Prop) (C0 C : Nat → Nat) (a b : Nat) : Prop where
 srd : Srd lt C a b
 inn : ∀ x, In C a b x ↔ In C0 a b x
theorem St.same {lt : Nat → Nat → Prop} {C0 C D : Nat → Nat} {a b : Nat} (h : St lt C0 C a b) (e : ∀ k, a ≤ k → k < b → D k = C k) : St lt C0 D a b := ⟨h.srd.same e, fun x => (In.same e).trans (h.inn x)⟩
theorem St.idx {lt : Nat → Nat → Prop} {C0 C : Nat → Nat} {a m b n : Nat} (h0 : ∀ i j, i < j → j < n → C0 i < C0 j) (hb : b ≤ n) (h1 : St lt C0 C a m) (h2 : St lt C0 C m b) : Idx C a m b := fun i j e1 e2 e3 e4 => by
 obtain ⟨p, p1, p2, p3⟩ := (h1.inn _).1 ⟨i, e1, e2, rfl⟩
 obtain ⟨q, q1, q2, q3⟩ := (h2.inn _).1 ⟨j, e3, e4, rfl⟩
 rw [← p3, ← q3]
 exact h0 p q (by omega) (by omega)
theorem St.mg {lt : Nat → Nat → Prop} {C0 C D : Nat → Nat} {a m b : Nat} (ha : a ≤ m) (hb : m ≤ b) (h1 : St lt C0 C a m) (h2 : St lt C0 C m b) (h : Mg lt C D a b) : St lt C0 D a b :=
 ⟨h.srd, fun x => by rw [h.inn, In.parts ha hb, In.parts ha hb, h1.inn, h2.inn]⟩
theorem Mg.more {lt : Nat → Nat → Prop} {C D E : Nat → Nat} {a i : Nat} (hi : a ≤ i) (h : Mg lt C D a i) (k : Mg lt D E a (i + 1)) : Mg lt C E a (i + 1) :=
 ⟨fun x hx => (k.out x hx).trans (h.out x (by omega)), fun x => by
  rw [k.inn, In.parts hi (Nat.le_succ i), In.parts hi (Nat.le_succ i), h.inn, In.same (C := C) fun k h1 h2 => h.out k (.inr h1)], k.srd⟩
end Stb
end Go.Proofs.Ytflohhefbbidcaa
namespace Go.Proofs.Ytflohhefbbidcaa
open Go.RowKit Go.Maps
open Lz (g)
namespace Cur
end Cur
end Go.Proofs.Ytflohhefbbidcaa
namespace Go.Proofs.Ytflohhefbbidcaa
open Go.RowKit Go.Maps Go.ChangeMaps Go.MapKept Go.WideShapes
open Go.WideElems (rg)
def DatV (D : DataW Value) (f : Lit → Option Value) : Prop := ∀ kl, WideAt.IsKeyLit kl → has D kl = (f kl).isSome ∧ ∀ v, f kl = some v → ∀ z, D.atKey kl z = .held v
def MpV (k : TypeId) (w : World) (b sz : Nat) (f : Lit → Option Value) : Prop := ∃ D : DataW Value, w.ownsMap Try.prog k HV b sz D ∧ Maps.size D = sz ∧ DatV D f
section
variable {k : TypeId} {w w' : World} {b sz : Nat} {f : Lit → Option Value}
theorem MpV.same (h : MpV k w b sz f) (hb : w'.heap[b]? = w.heap[b]?) : MpV k w' b sz f := by
 obtain ⟨D, ⟨es, clock, h1, h2⟩, h3⟩ := h
 exact ⟨D, ⟨es, clock, hb.trans h1, h2⟩, h3⟩
theorem MpV.lt (h : MpV k w b sz f) : b < w.heap.size := by
 obtain ⟨D, h1, _⟩ := h
 exact h1.lt
theorem MpV.ne {c : Nat} {cs : Array Value} {t : TypeId} {fz : Nat × Nat} (h : MpV k w b sz f) (hk : w.heap[c]? = some (.cells cs t fz)) : c ≠ b := fun e => by
 subst e
 obtain ⟨D, ⟨es, clock, h1, _⟩, _⟩ := h
 rw [h1] at hk
 cases hk
theorem MpV.new (k : TypeId) (w : World) : MpV k (w.alloc (.map #[] 0)) w.heap.size 0 (fun _ => none) :=
 ⟨.map [], World.ownsMap_made w _ _ _, rfl, fun kl _ => ⟨rfl, fun z hz => by cases hz⟩⟩
theorem MpV.get (h : MpV k w b sz f) (K : Keyed Try.prog k) {t e : TypeId} (ht : Try.prog.underlying t = some (.map k e)) {zv : Value} (hz : (zeroValue e).run Try.prog w = .ok zv w) {key : Value} {kl : Lit} (hkey : keyOf Try.prog k key = some kl) (hk : WideAt.IsKeyLit kl) :
  (Instr.lookup t (.map (some b)) key false).run Try.prog w = .ok ((f kl).getD zv) w := by
 obtain ⟨D, h1, _, h3⟩ := h
 obtain ⟨e1, e2⟩ := h3 kl hk
 obtain ⟨v, ps, hr, hv⟩ := h1.lookup K ht hz (zd := .held zv) (zp := []) rfl hkey
 cases hf : f kl with
 | none =>
  rw [hf] at e1
  rw [Maps.atKey_of_not_has e1] at hv
  simp [HV] at hv
  rw [hv.1] at hr
  exact hr
 | some z =>
  rw [e2 z hf] at hv
  simp [HV] at hv
  rw [hv.1] at hr
  exact hr
def updV [DecidableEq Lit] (f : Lit → Option Value) (kl : Lit) (z : Value) : Lit → Option Value := fun x => if x = kl then some z else f x
open Classical in
theorem DatV.put {D : DataW Value} (h : DatV D f) (hm : IsMap D) {kl : Lit} (hk : WideAt.IsKeyLit kl) (z : Value) : DatV (D.put kl (.held z)) (updV f kl z) := fun x hx => by
 unfold updV
 by_cases e : x = kl
 ·subst e
  rw [if_pos rfl]
  exact ⟨Maps.has_put_same hm hk _, fun y hy => by cases hy; exact fun zz => Maps.atKey_put_same hm hk _ _⟩
 ·rw [if_neg e, Maps.has_put_other e]
  exact ⟨(h x hx).1, fun y hy zz => by rw [Maps.atKey_put_other e]; exact (h x hx).2 y hy zz⟩
open Classical in
open Classical in
theorem MpV.store (h : MpV k w b sz f) (K : Keyed Try.prog k) {t e : TypeId} (ht : Try.prog.underlying t = some (.map k e)) {key : Value} {kl : Lit} (hkey : keyOf Try.prog k key = some kl) (hk : WideAt.IsKeyLit kl) (hsz : sz ≤ 100000000) (z : Value) :
  ∃ w', (Instr.mapUpdate t (.map (some b)) key z).run Try.prog w = .ok () w' ∧ MpV k w' b (if (f kl).isSome = true then sz else sz + 1) (updV f kl z) ∧ w.grownBy w' (some b) := by
 obtain ⟨D, h1, h2, h3⟩ := h
 obtain ⟨w', hr, hm, hg⟩ := h1.update K ht (by unfold maxLen; omega) hkey (show HV z = some (.held z, []) from rfl)
 refine ⟨w', hr, ⟨D.put kl (.held z), ?_, ?_, h3.put h1.isMap hk z⟩, hg⟩
 ·have := tight hm
  rw [Maps.size_put (h1.tidy K), (h3 kl hk).1, h2] at this
  exact this
 ·rw [Maps.size_put (h1.tidy K), (h3 kl hk).1, h2]
open Classical in
open Classical in
end
theorem lit_str {a b : ByteArray} (h : Lit.string a.data.toList = .string b.data.toList) : a = b := by
 injection h with this
 exact ByteArray.ext (Array.toList_inj.1 this)
def MpS (w : World) (b sz : Nat) (f : ByteArray → Option Value) : Prop := ∃ F, MpV 9 w b sz F ∧ ∀ x : ByteArray, F (.string x.data.toList) = f x
section
variable {w w' : World} {b sz : Nat} {f : ByteArray → Option Value}
theorem MpS.same (h : MpS w b sz f) (hb : w'.heap[b]? = w.heap[b]?) : MpS w' b sz f := by obtain ⟨F, h1, h2⟩ := h; exact ⟨F, h1.same hb, h2⟩
theorem MpS.lt (h : MpS w b sz f) : b < w.heap.size := by obtain ⟨F, h1, _⟩ := h; exact h1.lt
theorem MpS.new (w : World) : MpS (w.alloc (.map #[] 0)) w.heap.size 0 (fun _ => none) := ⟨_, MpV.new _ w, fun _ => rfl⟩
theorem MpS.get (h : MpS w b sz f) {t e : TypeId} (ht : Try.prog.underlying t = some (.map 9 e)) {zv : Value} (hz : (zeroValue e).run Try.prog w = .ok zv w) {x : ByteArray} (hx : x.size ≤ maxLen) :
  (Instr.lookup t (.map (some b)) (.string x) false).run Try.prog w = .ok ((f x).getD zv) w := by
 obtain ⟨F, h1, h2⟩ := h
 have := h1.get keyedStr ht hz (keyStr x hx) trivial
 rw [h2 x] at this
 exact this
theorem MpS.store (h : MpS w b sz f) {t e : TypeId} (ht : Try.prog.underlying t = some (.map 9 e)) {x : ByteArray} (hx : x.size ≤ maxLen) (hsz : sz ≤ 100000000) (z : Value) :
  ∃ w', (Instr.mapUpdate t (.map (some b)) (.string x) z).run Try.prog w = .ok () w' ∧ MpS w' b (if (f x).isSome = true then sz else sz + 1) (fun y => if y = x then some z else f y) ∧ w.grownBy w' (some b) := by
 obtain ⟨F, h1, h2⟩ := h
 obtain ⟨w', q1, q2, q3⟩ := h1.store keyedStr ht (keyStr x hx) trivial hsz z
 rw [h2 x] at q2
 refine ⟨w', q1, ⟨_, q2, fun y => ?_⟩, q3⟩
 simp only [updV]
 by_cases e : y = x
 ·rw [if_pos (by rw [e]), if_pos e]
 ·rw [if_neg (fun h => e (lit_str h)), if_neg e]; exact h2 y
end
end Go.Proofs.Ytflohhefbbidcaa

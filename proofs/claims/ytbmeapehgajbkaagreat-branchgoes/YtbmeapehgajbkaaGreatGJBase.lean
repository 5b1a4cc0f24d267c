import Derived.Test.YtbmeapehgajbkaaGreatRows
import Derived.WalkKit
import Derived.WalkSpells
import Derived.WalkLawsBesides
import Derived.BigQuiet
import Derived.Deep.QuietTactic
import Derived.Deep.AppendLies
import Derived.Maps.AppendAt
import Derived.Laws.BytesArg
import Derived.Lib.SlBytesConst
import Derived.OpenShut
import Derived.Laws.AppendOwnNone
import Derived.Deep.RegionHeld3
import Derived.Maps.OwnSet
import Derived.Maps.Views
import Derived.Carry
import Derived.Maps.RangeWalk
set_option linter.unusedVariables false
namespace Go.Proofs.YtbmeapehgajbkaaGreat.Lz
def g (zs : List Int) (i : Nat) : Int := zs.getD i 0
theorem g_lt (zs : List Int) (i : Nat) (h : i < zs.length) : g zs i = zs[i] := by simp [g, h]
theorem g_drop (zs : List Int) (k i : Nat) : g (zs.drop k) i = g zs (k + i) := by simp [g]
theorem g_take (zs : List Int) (k i : Nat) (h : i < k) : g (zs.take k) i = g zs i := by simp [g, h]
end Go.Proofs.YtbmeapehgajbkaaGreat.Lz
namespace Go.Proofs.YtbmeapehgajbkaaGreat
open Go.RowKit Go.Maps
open Lz (g)
def Seg (w : World) (b off : Nat) (zs : List Int) : Prop := ∀ i, i < zs.length → w.cell? ⟨b, off + i, none⟩ = some (.int .u8 (g zs i))
theorem dr2 (w : World) (n m : Nat) : ∃ k, (w.drewN n).drewN m = w.drewN k := ⟨n + m, by simp⟩
theorem ret_int {a b : Int} (h : a = b) : Ending.returned (.int .i64 a) = .returned (.int .i64 b) := by rw [h]
theorem infoByte : (Tryz.prog.info? 5).map (fun i => (i.zero, i.size, i.bytes)) = some (some (.int .u8 0), 1, 1) := by kernel_rfl
theorem heap_lt {w : World} {i : Nat} {o : Obj} (h : w.heap[i]? = some o) : i < w.heap.size := (Array.getElem?_eq_some_iff.1 h).1
theorem owns_shape {w : World} {base e size n : Nat} {v : Value} {xs : List Value} (h : w.ownsRow base e size v n xs) : ∃ ao c, v = .slice ao n c := by
 rcases h.2 with ⟨rfl, rfl⟩ | ⟨g, cap, cur, rfl, _⟩
 ·exact ⟨_, _, rfl⟩
 ·exact ⟨_, _, rfl⟩
def Bs (w : World) (ao : Option Addr) (n : Nat) (zs : List Int) : Prop :=
 zs.length = n ∧ (∀ i, 0 ≤ g zs i ∧ g zs i ≤ 255) ∧ (n = 0 ∨ ∃ b off, ao = some ⟨b, off, none⟩ ∧ b < w.heap.size ∧ Seg w b off zs)
theorem Seg.below {w w' : World} {B b off : Nat} {zs : List Int} (h : Seg w b off zs) (hb : Below B w w') (hlt : b < B) : Seg w' b off zs := fun i hi => (hb.cell (by exact hlt)).trans (h i hi)
theorem Bs.below {w w' : World} {ao : Option Addr} {n : Nat} {zs : List Int} (h : Bs w ao n zs) (hb : Below w.heap.size w w') : Bs w' ao n zs := by
 refine ⟨h.1, h.2.1, ?_⟩
 rcases h.2.2 with h0 | ⟨b, off, h1, h2, h3⟩
 ·exact .inl h0
 ·exact .inr ⟨b, off, h1, Nat.lt_of_lt_of_le h2 hb.size, h3.below hb h2⟩
theorem Seg.cut {w : World} {b off : Nat} {zs : List Int} (h : Seg w b off zs) (lo hi : Nat) : Seg w b (off + lo) ((zs.take hi).drop lo) := fun i hj => by
 simp only [List.length_drop, List.length_take] at hj
 rw [Lz.g_drop, Lz.g_take _ _ _ (by omega), Nat.add_assoc]
 exact h (lo + i) (by omega)
theorem bytes_drop {zs : List Int} (h : ∀ i, 0 ≤ g zs i ∧ g zs i ≤ 255) (lo : Nat) : ∀ i, 0 ≤ g (zs.drop lo) i ∧ g (zs.drop lo) i ≤ 255 := fun i => by
 rw [Lz.g_drop]; exact h _
theorem bytes_take {zs : List Int} (h : ∀ i, 0 ≤ g zs i ∧ g zs i ≤ 255) (hi : Nat) : ∀ i, 0 ≤ g (zs.take hi) i ∧ g (zs.take hi) i ≤ 255 := fun i => by
 by_cases e : i < hi
 ·rw [Lz.g_take _ _ _ e]; exact h _
 ·have : g (zs.take hi) i = 0 := by simp [g, List.getElem?_take, e]
  rw [this]; omega
theorem bytes_cut {zs : List Int} (h : ∀ i, 0 ≤ g zs i ∧ g zs i ≤ 255) (lo hi : Nat) : ∀ i, 0 ≤ g ((zs.take hi).drop lo) i ∧ g ((zs.take hi).drop lo) i ≤ 255 := bytes_drop (bytes_take h hi) lo
def bv (xs : List Int) : List Value := xs.map (Value.int .u8)
theorem bv_append (xs ys : List Int) : bv (xs ++ ys) = bv xs ++ bv ys := by simp [bv]
theorem bv_length (xs : List Int) : (bv xs).length = xs.length := by simp [bv]
theorem news_seg {w : World} {b off : Nat} {l : List Int} (h : Seg w b off l) (k : Nat) : ∀ j u, (bv (l.take k))[j]? = some u → w.cell? ((⟨b, off, none⟩ : Addr).add j) = some u := by
 intro j u hu
 have hj : j < (l.take k).length := by
  have := (List.getElem?_eq_some_iff.1 hu).1
  simpa [bv] using this
 rw [Addr.add_lit, h j (by simp at hj; omega)]
 have e : (bv (l.take k))[j]? = some (.int .u8 (g (l.take k) j)) := by
  unfold bv
  rw [List.getElem?_map, List.getElem?_eq_getElem hj, Lz.g_lt _ _ hj]; rfl
 rw [e] at hu
 rw [← Lz.g_take l k j (by simp at hj; omega)]
 exact hu
theorem bv_one (xs : List Int) : ∀ u ∈ bv xs, u.oneCell' = true := ints_oneCell .u8 xs
theorem grown_alloc {w w1 : World} {row : Option Nat} {o : Obj} (h : (w.alloc o).grownBy w1 row) : w.grownBy w1 row :=
 ⟨h.os, h.tape, h.output, Nat.le_trans (by simp) h.size, fun k hk hne => (h.block k (by simp; omega) hne).trans (Below.heap_alloc w o k hk)⟩
theorem emptyB {w : World} {B : Nat} (hB : B ≤ w.heap.size) : (w.alloc (.cells #[] 5)).ownsRow B 5 1 (.slice (some ⟨w.heap.size, 0, none⟩) 0 0) 0 (bv []) :=
 ⟨rfl, .inr ⟨w.heap.size, 0, #[], rfl, hB, heap_alloc_new w _, Nat.le_refl _, by unfold maxLen; omega, rfl, rfl⟩⟩
theorem owns_below {w w' : World} {B e size n : Nat} {v : Value} {xs : List Value} (h : w.ownsRow B e size v n xs) (hb : Below w.heap.size w w') : w'.ownsRow B e size v n xs := by
 refine ⟨h.1, ?_⟩
 rcases h.2 with hn | ⟨g, cap, cur, rfl, hg, hgg, rest⟩
 ·exact .inl hn
 ·exact .inr ⟨g, cap, cur, rfl, hg, by rw [hb.block g (heap_lt hgg)]; exact hgg, rest⟩
def Bytes (zs : List Int) : Prop := ∀ x ∈ zs, 0 ≤ x ∧ x ≤ 255
theorem Bytes.g {zs : List Int} (h : Bytes zs) : ∀ i, 0 ≤ Lz.g zs i ∧ Lz.g zs i ≤ 255 := fun i => by
 unfold Lz.g
 by_cases hi : i < zs.length
 ·simp only [List.getD, List.getElem?_eq_getElem hi, Option.getD_some]
  exact h _ (List.getElem_mem hi)
 ·simp only [List.getD, List.getElem?_eq_none (by omega : zs.length ≤ i), Option.getD_none]; omega
theorem Bytes.of_g {zs : List Int} (h : ∀ i, 0 ≤ Lz.g zs i ∧ Lz.g zs i ≤ 255) : Bytes zs := fun x hx => by
 obtain ⟨i, hi, rfl⟩ := List.getElem_of_mem hx
 have := h i
 rw [Lz.g_lt zs i hi] at this
 exact this
theorem Bytes.take {a : List Int} (h : Bytes a) (n : Nat) : Bytes (a.take n) := fun x hx => h x (List.mem_of_mem_take hx)
theorem bs_of_owns {w : World} {B n c : Nat} {ao : Option Addr} {zs : List Int} (h : w.ownsRow B 5 1 (.slice ao n c) n (bv zs)) (hb : Bytes zs) : Bs w ao n zs := by
 have hlen : zs.length = n := by have := h.1; rw [bv_length] at this; omega
 refine ⟨hlen, hb.g, ?_⟩
 by_cases e : n = 0
 ·exact .inl e
 ·obtain ⟨gb, c', hv, _, hlt⟩ := h.form (by omega)
  obtain ⟨rfl, _, rfl⟩ : ao = some ⟨gb, 0, none⟩ ∧ n = n ∧ c = c' := by simpa using hv
  refine .inr ⟨gb, 0, rfl, hlt, fun i hi => ?_⟩
  rw [Nat.zero_add, h.cellAt i (by omega)]
  unfold bv
  rw [List.getElem?_map, List.getElem?_eq_getElem hi, Lz.g_lt _ _ hi]; rfl
theorem cap_of_owns {w : World} {B n c e : Nat} {ao : Option Addr} {xs : List Value} (h : w.ownsRow B e 1 (.slice ao n c) n xs) : n ≤ c := by
 rcases h.2 with ⟨e, _⟩ | ⟨_, _, _, e, _, _, h, _⟩
 ·simp at e; omega
 ·simp at e; omega
theorem str_any {w : World} {ao : Option Addr} {n : Nat} {zs : List Int} (h : Bs w ao n zs) (c : Nat) : (convert 38 9 (.slice ao n c)).run Tryz.prog w = .ok (.string (strOfNums zs)) w := by
 obtain ⟨hz, _, h0⟩ := h
 rcases h0 with h0 | ⟨b, off, rfl, _, hs⟩
 ·subst h0
  have : zs = [] := List.eq_nil_of_length_eq_zero hz
  subst this
  cases ao with
  | none => exact run_convert_bytes_nil w _ _ Tryz.underlying38 Tryz.underlying5 0 c _ Tryz.underlying9
  | some a =>
   rw [run_convert_bytes_string w _ _ _ _ 0 c Tryz.underlying38 Tryz.underlying5 Tryz.underlying9, run_bytesToString w a 0 c [] (by simp [loadCells, loadCellsFrom])]
   rfl
 ·exact run_convert_bytes_arg w _ _ Tryz.underlying38 Tryz.underlying5 b off n c zs hz (fun i hi => hs i (by omega)) _ Tryz.underlying9
def RowB (w : World) (a : Option Addr) (len cap : Nat) (zs : List Int) : Prop :=
 (a = none ∧ len = 0 ∧ cap = 0 ∧ zs = []) ∨
 ∃ x, a = some x ∧ len ≤ cap ∧ cap ≤ maxLen ∧ zs.length = cap ∧ (∀ i, i < zs.length → w.cell? (x.add i) = some (.int .u8 (zs.getD i 0))) ∧ ∀ n ∈ zs, (Lit.int .u8 n).wf = true
theorem wf_u8 {n : Int} (h : (Lit.int .u8 n).wf = true) : 0 ≤ n ∧ n ≤ 255 := by
 have := bounds_u8 h
 omega
theorem Bs.alloc {w : World} {ao : Option Addr} {n : Nat} {zs : List Int} (h : Bs w ao n zs) (o : Obj) : Bs (w.alloc o) ao n zs := h.below ((Below.refl _ _).alloc (Nat.le_refl _) o)
theorem RowB.bs {w : World} {a : Option Addr} {len cap : Nat} {zs : List Int} (h : RowB w a len cap zs) (m : Nat) (hm : m ≤ len) : Bs w a m (zs.take m) ∧ len ≤ cap ∧ cap ≤ 9223372036854775807 ∧ Bytes (zs.take m) ∧ (a = none → cap = 0) := by
 rcases h with ⟨rfl, rfl, rfl, rfl⟩ | ⟨x, rfl, hl, hc, hz, hcell, hwf⟩
 ·obtain rfl : m = 0 := by omega
  exact ⟨⟨rfl, fun i => by simp [g], .inl rfl⟩, by omega, by omega, fun x hx => by simp at hx, fun _ => rfl⟩
 ·have hb : Bytes zs := fun n hn => wf_u8 (hwf n hn)
  refine ⟨⟨by simp; omega, (hb.take m).g, ?_⟩, hl, by unfold maxLen at hc; omega, hb.take m, fun e => by simp at e⟩
  by_cases e : m = 0
  ·exact .inl e
  ·obtain ⟨b, off, spot⟩ := x
   have hc0 := hcell 0 (by omega)
   have hspot : spot = none := by simpa [Addr.add] using World.cell?_spot hc0
   subst hspot
   have hlt : b < w.heap.size := by
    have := World.block_lt_of_cell? w _ hc0
    simpa [Addr.add] using this
   refine .inr ⟨b, off, rfl, hlt, fun i hi => ?_⟩
   simp at hi
   rw [Lz.g_take _ _ _ (by omega)]
   have := hcell i (by omega)
   rw [Addr.add_lit] at this
   exact this
theorem wpList_append_bs (w : World) {ops : Array Oper} {rest : List Oper} {o : Oper} {a : Act} {Q : Exit → Act → World → Prop} (hgd : o.guard = none) (s x : Operand)
  (ho : o.op = .call { callee := .builtin .append, args := #[s, x], argTypes := #[38, 38] })
  (base : Nat) (vo : Option Addr) (n vc : Nat) (xs : List Int) (hs : a.eval s = .slice vo n vc) (hown : w.ownsRow base 5 1 (.slice vo n vc) n (bv xs))
  (ao : Option Addr) (m c : Nat) (zs : List Int) (hx : a.eval x = .slice ao m c) (hb : Bs w ao m zs) (hnil : ao = none → c = 0)
  (hbd : n + m ≤ 100000000) (hbase : base ≤ w.heap.size)
  (h : ∀ ao' c' w', w'.ownsRow base 5 1 (.slice ao' (n + m) c') (n + m) (bv (xs ++ zs)) → w.grownBy w' (Value.slice vo n vc).ownBlock → wpList Tryz.prog ops Q rest (a.put o.dst (.slice ao' (n + m) c')) w') :
  wpList Tryz.prog ops Q (o :: rest) a w := by
 obtain ⟨i0, hi, hz0, hz1, hz2⟩ := info_parts infoByte
 obtain ⟨hz, hby, h0⟩ := hb
 cases ao with
 | none =>
  obtain rfl : c = 0 := hnil rfl
  obtain rfl : m = 0 := by
   rcases h0 with h0 | ⟨b, off, h1, _⟩
   ·exact h0
   ·simp at h1
  obtain rfl : zs = [] := List.eq_nil_of_length_eq_zero hz
  refine wpList_append_own_none hgd s x _ ho base 5 i0 1 Tryz.underlying38 hi _ n (bv xs) hs hown hx ?_
  have := h vo vc w (by simpa using hown) (World.grownBy.refl _ _)
  simpa using this
 | some ad =>
  refine wpList_append_own w hgd s x _ ho base 5 i0 (.int .u8 0) 1 1 Tryz.underlying38 hi hz0 hz1 hz2 rfl (by decide) _ n (bv xs) hs hown ad m c (bv zs) hx (by rw [bv_length]; omega) ?_ (bv_one _) (by unfold maxLen; omega) (by omega) hbase ?_
  ·rcases h0 with h0 | ⟨b, off, h1, _, hseg⟩
   ·have : zs = [] := List.eq_nil_of_length_eq_zero (by omega)
    subst this
    intro j u hu; simp [bv] at hu
   ·obtain rfl := Option.some.inj h1
    have := news_seg hseg m
    rw [List.take_of_length_le (by omega)] at this
    exact this
  ·intro v' w' h2 h3 _
   obtain ⟨ao', c', rfl⟩ := owns_shape h2
   exact h ao' c' w' (by rw [bv_append]; exact h2) h3
theorem nil_cap {w : World} {B n c e : Nat} {ao : Option Addr} {vs : List Value} (h : w.ownsRow B e 1 (.slice ao n c) n vs) : ao = none → c = 0 := fun hn => by
 subst hn
 rcases h.2 with ⟨e, _⟩ | ⟨_, _, _, e, _⟩
 ·simp at e; omega
 ·simp at e
theorem Bs.take {w : World} {ao : Option Addr} {n : Nat} {zs : List Int} (h : Bs w ao n zs) (k : Nat) (hk : k ≤ n) : Bs w ao k (zs.take k) := by
 obtain ⟨hz, hby, h0⟩ := h
 refine ⟨by simp; omega, bytes_take hby k, ?_⟩
 by_cases e : k = 0
 ·exact .inl e
 ·rcases h0 with h0 | ⟨b, off, h1, h2, h3⟩
  ·omega
  ·refine .inr ⟨b, off, h1, h2, ?_⟩
   have := h3.cut 0 k
   simpa using this
theorem hide {p : Prop} (h : p) : Hid p := h
theorem ret_bool {a b : Bool} (h : a = b) : Ending.returned (.bool a) = .returned (.bool b) := by rw [h]
theorem enters (fn : Nat) {f : Func} {c : Code} (hf : Tryz.prog.funcs[fn]? = some f) (hname : (f.name == "runtime.NumGoroutine") = false) (hb : f.body = some c) : ∀ (args : Array Value) (w : World), (callFunc fn args).run Tryz.prog w = .ok (.enter fn args) w := fun args w => by
 have hn : ¬ f.name = "runtime.NumGoroutine" := by simpa using hname
 simp [callFunc, hf, hn, hb]
theorem heap_new {w : World} {o : Obj} {k : Nat} (h : k = w.heap.size) : (w.alloc o).heap[k]? = some o := by subst h; exact heap_alloc_new w o
theorem below_drewN {B : Nat} {a b : World} (h : Below B a b) (n : Nat) : Below B a (b.drewN n) := ⟨h.os, h.tape, h.output, h.size, h.block⟩
theorem below_one (w : World) (o : Obj) : Below w.heap.size w (w.alloc o) := (Below.refl _ _).alloc (Nat.le_refl _) o
theorem Bs.bytes {w : World} {ao : Option Addr} {n : Nat} {zs : List Int} (h : Bs w ao n zs) : Bytes zs := Bytes.of_g h.2.1
def In64 (x : Int) : Prop := -9223372036854775808 ≤ x ∧ x ≤ 9223372036854775807
theorem str_inj : ∀ {xs ys : List Int}, Bytes xs → Bytes ys → strOfNums xs = strOfNums ys → xs = ys := by
 intro xs ys hx hy h
 have h2 : xs.map (fun n => UInt8.ofNat n.toNat) = ys.map (fun n => UInt8.ofNat n.toNat) := by
  have := congrArg (fun b : ByteArray => b.data.toList) h
  simpa [strOfNums] using this
 clear h
 induction xs generalizing ys with
 | nil => cases ys with
  | nil => rfl
  | cons y ys => simp at h2
 | cons x xs ih => cases ys with
  | nil => simp at h2
  | cons y ys =>
   simp only [List.map_cons, List.cons.injEq] at h2
   have hx0 := hx x (by simp)
   have hy0 := hy y (by simp)
   have e := congrArg UInt8.toNat h2.1
   rw [UInt8.toNat_ofNat_of_lt' (by show x.toNat < 256; omega), UInt8.toNat_ofNat_of_lt' (by show y.toNat < 256; omega)] at e
   rw [ih (fun z hz => hx z (by simp [hz])) (fun z hz => hy z (by simp [hz])) h2.2]
   congr 1; omega
theorem str_eq {x y : List Int} (hx : Bytes x) (hy : Bytes y) : ((strOfNums x).toList == (strOfNums y).toList) = decide (x = y) := by
 rw [Bool.eq_iff_iff, beq_iff_eq, decide_eq_true_eq]
 refine ⟨fun h => str_inj hx hy ?_, fun h => by rw [h]⟩
 rw [ByteArray.toList_eq, ByteArray.toList_eq] at h
 exact ByteArray.ext (Array.toList_inj.1 h)
theorem results_cr2 {fn : Func} {p u : Tmp} {ty : TypeId} (h : fn.results = #[.cell p ty, .tmp u]) (tmps : Array Value) (w : World) (g : Nat) (cs : Array Value)
  (hp : tmps.getD p undef = .pointer (some ⟨g, 0, none⟩)) (hr : (loadVar ty ⟨g, 0, none⟩).run Tryz.prog w = .ok (.agg cs) w) :
  (results fn tmps).run Tryz.prog w = .ok (.tuple #[.agg cs, tmps.getD u undef]) w := by
 have hp' : tmps[p]?.getD undef = .pointer (some ⟨g, 0, none⟩) := by simpa using hp
 simp [results, h, hp', asAddr, hr]
theorem yieldsIf_load_row {ops : Array Oper} {S : World → Prop} {op : Oper} {a : Act} (hw : Region.wanted op (yielded ops a.tmps) = true) (ty : TypeId) (x : Operand) (ho : op.op = .load ty x)
  (b : Nat) (hx : a.eval x = .pointer (some ⟨b, 0, none⟩)) (cs : Array Value) (hS : ∀ w, S w → (loadVar ty ⟨b, 0, none⟩).run Tryz.prog w = .ok (.agg cs) w) : YieldsIf Tryz.prog ops S op (.agg cs) a :=
 .inl ⟨hw, fun w hw' => by
  unfold execOp
  simp only [ho, hx, Instr.loadAt, Instr.sureAddr, Sem.run_bind, Sem.run_pure, Result.andThen_ok, hS w hw']⟩
theorem emptyR {w : World} {B t size : Nat} (hB : B ≤ w.heap.size) : (w.alloc (.cells #[] t)).ownsRow B t size (.slice (some ⟨w.heap.size, 0, none⟩) 0 0) 0 [] :=
 ⟨by simp, .inr ⟨w.heap.size, 0, #[], rfl, hB, heap_alloc_new w _, Nat.le_refl _, by unfold maxLen; omega, by simp, by simp⟩⟩
theorem owns_obj {w : World} {B e size n k : Nat} {v : Value} {xs : List Value} (h : w.ownsRow B e size v n xs) (hk : v.ownBlock = some k) : ∃ cur, w.heap[k]? = some (.cells cur e (0, 0)) := by
 rcases h.2 with ⟨rfl, _⟩ | ⟨g, cap, cur, rfl, _, hgg, _⟩
 ·simp [Value.ownBlock] at hk
 ·simp [Value.ownBlock] at hk
  subst hk
  exact ⟨cur, hgg⟩
end Go.Proofs.YtbmeapehgajbkaaGreat
namespace Go.Proofs.YtbmeapehgajbkaaGreat
open Go.RowKit Go.Maps
def HV (v : Value) : Option (DataW Value × List MemPlace) := some (.held v, [])
def MpK (k : TypeId) (w : World) (b sz : Nat) (f : Lit → Option Nat) : Prop :=
 ∃ D : DataW Value, w.ownsMap Tryz.prog k HV b sz D ∧ Maps.size D = sz ∧ ∀ kl, WideAt.IsKeyLit kl → has D kl = (f kl).isSome ∧ ∀ z, f kl = some z → D.atKey kl (.held (.int .i64 0)) = .held (.int .i64 (z : Int))
theorem MpK.same {k : TypeId} {w w' : World} {b sz : Nat} {f : Lit → Option Nat} (h : MpK k w b sz f) (hb : w'.heap[b]? = w.heap[b]?) : MpK k w' b sz f := by
 obtain ⟨D, ⟨es, clock, h1, h2⟩, h3⟩ := h
 exact ⟨D, ⟨es, clock, hb.trans h1, h2⟩, h3⟩
theorem MpK.lt {k : TypeId} {w : World} {b sz : Nat} {f : Lit → Option Nat} (h : MpK k w b sz f) : b < w.heap.size := by
 obtain ⟨D, h1, _⟩ := h
 exact h1.lt
theorem MpK.below {k : TypeId} {w w' : World} {b sz : Nat} {f : Lit → Option Nat} (h : MpK k w b sz f) (hb : Below w.heap.size w w') : MpK k w' b sz f :=
 h.same (hb.block b h.lt)
theorem mpk_new (k : TypeId) (w : World) : MpK k (w.alloc (.map #[] 0)) w.heap.size 0 (fun _ => none) :=
 ⟨.map [], World.ownsMap_made w _ _ _, rfl, fun kl _ => ⟨rfl, fun z hz => by cases hz⟩⟩
theorem MpK.len {k : TypeId} {w : World} {b sz : Nat} {f : Lit → Option Nat} (h : MpK k w b sz f) {t e : TypeId} (ht : Tryz.prog.underlying t = some (.map k e)) (ty : TypeId) : (Builtin.len_ #[t] ty #[.map (some b)]).run Tryz.prog w = .ok (.int .i64 (sz : Int)) w := by
 obtain ⟨D, h1, h2, _⟩ := h
 have := h1.len ht ty
 rw [h2] at this
 exact this
theorem zeroInt7 (w : World) : (zeroValue 3).run Tryz.prog w = .ok (.int .i64 0) w := by kernel_rfl
theorem MpK.look {k : TypeId} {w : World} {b sz : Nat} {f : Lit → Option Nat} (h : MpK k w b sz f) (K : Keyed Tryz.prog k) {t : TypeId} (ht : Tryz.prog.underlying t = some (.map k 3)) {key : Value} {kl : Lit} (hkey : keyOf Tryz.prog k key = some kl) (hk : WideAt.IsKeyLit kl) :
  (Instr.lookup t (.map (some b)) key true).run Tryz.prog w = .ok (.tuple #[.int .i64 (((f kl).getD 0 : Nat) : Int), .bool (f kl).isSome]) w := by
 obtain ⟨D, h1, _, h3⟩ := h
 obtain ⟨e1, e2⟩ := h3 kl hk
 obtain ⟨v, ps, hr, hv⟩ := h1.look_ok K ht (zeroInt7 w) (zd := .held (.int .i64 0)) (zp := []) rfl hkey
 rw [e1] at hr
 cases hf : f kl with
 | none =>
  rw [hf] at e1 hr
  rw [Maps.atKey_of_not_has e1] at hv
  simp [HV] at hv
  rw [hv.1] at hr
  exact hr
 | some z =>
  rw [hf] at hr
  rw [e2 z hf] at hv
  simp [HV] at hv
  rw [hv.1] at hr
  exact hr
def upd (f : Lit → Option Nat) (kl : Lit) (z : Nat) : Lit → Option Nat := fun k => if k.sameKey kl = true then some z else f k
theorem upd_same (f : Lit → Option Nat) (kl : Lit) (z : Nat) (hk : WideAt.IsKeyLit kl) : upd f kl z kl = some z := by
 unfold upd; rw [if_pos (WideAt.sameKey_self hk)]
theorem upd_other (f : Lit → Option Nat) {kl k : Lit} (z : Nat) (h : k ≠ kl) : upd f kl z k = f k := by
 unfold upd; rw [if_neg (fun e => h (WideAt.sameKey_eq e))]
theorem tight {k : TypeId} {w : World} {b n : Nat} {D : DataW Value} (h : w.ownsMap Tryz.prog k HV b n D) : w.ownsMap Tryz.prog k HV b (Maps.size D) D := by
 obtain ⟨es, clock, h1, h2, h3, rfl⟩ := h
 refine ⟨es, clock, h1, h2, ?_, rfl⟩
 simp [Maps.size, length_sorted]
theorem MpK.store {k : TypeId} {w : World} {b sz : Nat} {f : Lit → Option Nat} (h : MpK k w b sz f) (K : Keyed Tryz.prog k) {t : TypeId} (ht : Tryz.prog.underlying t = some (.map k 3)) {key : Value} {kl : Lit} (hkey : keyOf Tryz.prog k key = some kl) (hk : WideAt.IsKeyLit kl) (hsz : sz ≤ 1000000) (z : Nat) :
  ∃ w', (Instr.mapUpdate t (.map (some b)) key (.int .i64 (z : Int))).run Tryz.prog w = .ok () w' ∧ MpK k w' b (if (f kl).isSome = true then sz else sz + 1) (upd f kl z) ∧ w.grownBy w' (some b) := by
 obtain ⟨D, h1, h2, h3⟩ := h
 obtain ⟨w', hr, hm, hg⟩ := h1.update K ht (by unfold maxLen; omega) hkey (show HV (.int .i64 (z : Int)) = some (.held _, []) from rfl)
 refine ⟨w', hr, ⟨D.put kl (.held (.int .i64 (z : Int))), ?_, ?_, fun k' hk' => ?_⟩, hg⟩
 ·have := tight hm
  rw [Maps.size_put (h1.tidy K), (h3 kl hk).1, h2] at this
  exact this
 ·rw [Maps.size_put (h1.tidy K), (h3 kl hk).1, h2]
 ·by_cases e : k' = kl
  ·subst e
   rw [upd_same _ _ _ hk]
   refine ⟨Maps.has_put_same h1.isMap hk _, fun y hy => ?_⟩
   cases hy
   exact Maps.atKey_put_same h1.isMap hk _ _
  ·rw [upd_other _ _ e, Maps.has_put_other e]
   refine ⟨(h3 k' hk').1, fun y hy => ?_⟩
   rw [Maps.atKey_put_other e]
   exact (h3 k' hk').2 y hy
theorem keyStr (s : ByteArray) (hs : s.size ≤ maxLen) : keyOf Tryz.prog 9 (.string s) = some (.string s.data.toList) := by
 rw [keyOf_string Tryz.underlying9]
 simp [mapKey, Tryz.underlying9, hs]
theorem keyedStr : Keyed Tryz.prog 9 := string_keyed Tryz.underlying9
end Go.Proofs.YtbmeapehgajbkaaGreat
namespace Go.Proofs.YtbmeapehgajbkaaGreat
open Go.RowKit Go.Maps
open Lz (g)
theorem heap_setCell_self {w : World} {p i : Nat} {cs : Array Value} {t : TypeId} {fz : Nat × Nat} (h : w.heap[p]? = some (.cells cs t fz)) (v : Value) : (w.setCell ⟨p, i, none⟩ v).heap[p]? = some (.cells (cs.setIfInBounds i v) t fz) := by
 simp [World.setCell, Array.getElem?_modify, h]
structure Fr (S : Nat → Prop) (w w' : World) : Prop where
 os : w'.os = w.os
 tape : w'.tape = w.tape
 output : w'.output = w.output
 size : w.heap.size ≤ w'.heap.size
 block : ∀ k, k < w.heap.size → ¬ S k → w'.heap[k]? = w.heap[k]?
theorem Fr.refl (S : Nat → Prop) (w : World) : Fr S w w := ⟨rfl, rfl, rfl, Nat.le_refl _, fun _ _ _ => rfl⟩
theorem Fr.trans {S S' : Nat → Prop} {a b c : World} (h : Fr S a b) (k : Fr S' b c) (hs : ∀ i, i < a.heap.size → S' i → S i) : Fr S a c :=
 ⟨k.os.trans h.os, k.tape.trans h.tape, k.output.trans h.output, Nat.le_trans h.size k.size, fun i hi hn => (k.block i (Nat.lt_of_lt_of_le hi h.size) (fun hx => hn (hs i hi hx))).trans (h.block i hi hn)⟩
theorem Fr.then {S : Nat → Prop} {a b c : World} (h : Fr S a b) (k : Fr S b c) : Fr S a c := h.trans k (fun _ _ h => h)
theorem Fr.mono {S S' : Nat → Prop} {a b : World} (h : Fr S a b) (hs : ∀ i, i < a.heap.size → S i → S' i) : Fr S' a b :=
 ⟨h.os, h.tape, h.output, h.size, fun i hi hn => h.block i hi (fun hx => hn (hs i hi hx))⟩
theorem Fr.set {S : Nat → Prop} {a b : World} (h : Fr S a b) {p : Addr} (v : Value) (hp : p.block < a.heap.size → S p.block) : Fr S a (b.setCell p v) :=
 ⟨h.os, h.tape, h.output, by simpa [World.setCell] using h.size, fun i hi hn => (Below.heap_setCell _ _ _ _ (fun e => by subst e; exact hn (hp hi))).trans (h.block i hi hn)⟩
theorem Fr.alloc {S : Nat → Prop} {a b : World} (h : Fr S a b) (o : Obj) : Fr S a (b.alloc o) :=
 ⟨h.os, h.tape, h.output, Nat.le_trans h.size (by simp), fun i hi hn => (Below.heap_alloc _ _ _ (Nat.lt_of_lt_of_le hi h.size)).trans (h.block i hi hn)⟩
theorem Fr.undrew {S : Nat → Prop} {a b : World} (h : Fr S a.drew b) : Fr S a b := ⟨h.os, h.tape, h.output, h.size, h.block⟩
theorem Fr.of_below {S : Nat → Prop} {a b : World} (h : Below a.heap.size a b) : Fr S a b := ⟨h.os, h.tape, h.output, h.size, fun i hi _ => h.block i hi⟩
theorem Fr.of_grown {S : Nat → Prop} {a b : World} {row : Option Nat} (h : a.grownBy b row) (hr : ∀ k, row = some k → S k) : Fr S a b := ⟨h.os, h.tape, h.output, h.size, fun i hi hn => h.block i hi (fun e => hn (hr i e.symm))⟩
theorem Fr.below {S : Nat → Prop} {a b : World} (h : Fr S a b) (B : Nat) (hB : B ≤ a.heap.size) (hs : ∀ k, S k → B ≤ k) : Below B a b :=
 ⟨h.os, h.tape, h.output, h.size, fun k hk => h.block k (by omega) (fun hx => by have := hs k hx; omega)⟩
theorem Fr.cell {S : Nat → Prop} {a b : World} (h : Fr S a b) {q : Addr} (hq : q.block < a.heap.size) (hn : ¬ S q.block) : b.cell? q = a.cell? q := World.cell?_of_block (w := a) (h.block _ hq hn)
theorem Bs.fr {S : Nat → Prop} {w w' : World} {ao : Option Addr} {n : Nat} {zs : List Int} (h : Bs w ao n zs) (hf : Fr S w w') (hn : ∀ a, ao = some a → 0 < n → ¬ S a.block) : Bs w' ao n zs := by
 refine ⟨h.1, h.2.1, ?_⟩
 rcases h.2.2 with h0 | ⟨b, off, h1, h2, h3⟩
 ·exact .inl h0
 ·by_cases e : n = 0
  ·exact .inl e
  ·exact .inr ⟨b, off, h1, Nat.lt_of_lt_of_le h2 hf.size, fun i hi => (hf.cell (q := ⟨b, off + i, none⟩) h2 (show ¬ S b from hn ⟨b, off, none⟩ h1 (by omega))).trans (h3 i hi)⟩
namespace Cur
def sb (s : ByteArray) : List Int := s.data.toList.map (fun b => (b.toNat : Int))
end Cur
end Go.Proofs.YtbmeapehgajbkaaGreat
namespace Go.Proofs.YtbmeapehgajbkaaGreat
open Go.RowKit Go.Maps Go.ChangeMaps Go.MapKept Go.WideShapes
open Go.WideElems (rg)
def DatV (D : DataW Value) (f : Lit → Option Value) : Prop := ∀ kl, WideAt.IsKeyLit kl → has D kl = (f kl).isSome ∧ ∀ v, f kl = some v → ∀ z, D.atKey kl z = .held v
def MpV (k : TypeId) (w : World) (b sz : Nat) (f : Lit → Option Value) : Prop := ∃ D : DataW Value, w.ownsMap Tryz.prog k HV b sz D ∧ Maps.size D = sz ∧ DatV D f
section
variable {k : TypeId} {w w' : World} {b sz : Nat} {f : Lit → Option Value}
theorem MpV.same (h : MpV k w b sz f) (hb : w'.heap[b]? = w.heap[b]?) : MpV k w' b sz f := by
 obtain ⟨D, ⟨es, clock, h1, h2⟩, h3⟩ := h
 exact ⟨D, ⟨es, clock, hb.trans h1, h2⟩, h3⟩
theorem MpV.lt (h : MpV k w b sz f) : b < w.heap.size := by
 obtain ⟨D, h1, _⟩ := h
 exact h1.lt
theorem MpV.ne {c : Nat} {cs : Array Value} {t : TypeId} {fz : Nat × Nat} (h : MpV k w b sz f) (hk : w.heap[c]? = some (.cells cs t fz)) : c ≠ b := fun e => by
 subst e
 obtain ⟨D, ⟨es, clock, h1, _⟩, _⟩ := h
 rw [h1] at hk
 cases hk
theorem MpV.new (k : TypeId) (w : World) : MpV k (w.alloc (.map #[] 0)) w.heap.size 0 (fun _ => none) :=
 ⟨.map [], World.ownsMap_made w _ _ _, rfl, fun kl _ => ⟨rfl, fun z hz => by cases hz⟩⟩
theorem MpV.len (h : MpV k w b sz f) {t e : TypeId} (ht : Tryz.prog.underlying t = some (.map k e)) (ty : TypeId) : (Builtin.len_ #[t] ty #[.map (some b)]).run Tryz.prog w = .ok (.int .i64 (sz : Int)) w := by
 obtain ⟨D, h1, h2, _⟩ := h
 have := h1.len ht ty
 rw [h2] at this
 exact this
theorem MpV.look (h : MpV k w b sz f) (K : Keyed Tryz.prog k) {t e : TypeId} (ht : Tryz.prog.underlying t = some (.map k e)) {zv : Value} (hz : (zeroValue e).run Tryz.prog w = .ok zv w) {key : Value} {kl : Lit} (hkey : keyOf Tryz.prog k key = some kl) (hk : WideAt.IsKeyLit kl) :
  (Instr.lookup t (.map (some b)) key true).run Tryz.prog w = .ok (.tuple #[(f kl).getD zv, .bool (f kl).isSome]) w := by
 obtain ⟨D, h1, _, h3⟩ := h
 obtain ⟨e1, e2⟩ := h3 kl hk
 obtain ⟨v, ps, hr, hv⟩ := h1.look_ok K ht hz (zd := .held zv) (zp := []) rfl hkey
 rw [e1] at hr
 cases hf : f kl with
 | none =>
  rw [hf] at e1 hr
  rw [Maps.atKey_of_not_has e1] at hv
  simp [HV] at hv
  rw [hv.1] at hr
  exact hr
 | some z =>
  rw [hf] at hr
  rw [e2 z hf] at hv
  simp [HV] at hv
  rw [hv.1] at hr
  exact hr
theorem MpV.get (h : MpV k w b sz f) (K : Keyed Tryz.prog k) {t e : TypeId} (ht : Tryz.prog.underlying t = some (.map k e)) {zv : Value} (hz : (zeroValue e).run Tryz.prog w = .ok zv w) {key : Value} {kl : Lit} (hkey : keyOf Tryz.prog k key = some kl) (hk : WideAt.IsKeyLit kl) :
  (Instr.lookup t (.map (some b)) key false).run Tryz.prog w = .ok ((f kl).getD zv) w := by
 obtain ⟨D, h1, _, h3⟩ := h
 obtain ⟨e1, e2⟩ := h3 kl hk
 obtain ⟨v, ps, hr, hv⟩ := h1.lookup K ht hz (zd := .held zv) (zp := []) rfl hkey
 cases hf : f kl with
 | none =>
  rw [hf] at e1
  rw [Maps.atKey_of_not_has e1] at hv
  simp [HV] at hv
  rw [hv.1] at hr
  exact hr
 | some z =>
  rw [e2 z hf] at hv
  simp [HV] at hv
  rw [hv.1] at hr
  exact hr
def updV [DecidableEq Lit] (f : Lit → Option Value) (kl : Lit) (z : Value) : Lit → Option Value := fun x => if x = kl then some z else f x
def delV [DecidableEq Lit] (f : Lit → Option Value) (kl : Lit) : Lit → Option Value := fun x => if x = kl then none else f x
open Classical in
theorem DatV.put {D : DataW Value} (h : DatV D f) (hm : IsMap D) {kl : Lit} (hk : WideAt.IsKeyLit kl) (z : Value) : DatV (D.put kl (.held z)) (updV f kl z) := fun x hx => by
 unfold updV
 by_cases e : x = kl
 ·subst e
  rw [if_pos rfl]
  exact ⟨Maps.has_put_same hm hk _, fun y hy => by cases hy; exact fun zz => Maps.atKey_put_same hm hk _ _⟩
 ·rw [if_neg e, Maps.has_put_other e]
  exact ⟨(h x hx).1, fun y hy zz => by rw [Maps.atKey_put_other e]; exact (h x hx).2 y hy zz⟩
open Classical in
theorem DatV.del {D : DataW Value} (h : DatV D f) (kl : Lit) : DatV (D.del kl) (delV f kl) := fun x hx => by
 unfold delV
 by_cases e : x = kl
 ·subst e
  rw [if_pos rfl]
  exact ⟨Maps.has_del_same, fun y hy => by cases hy⟩
 ·rw [if_neg e, Maps.has_del_other e]
  exact ⟨(h x hx).1, fun y hy zz => by rw [Maps.atKey_del_other e]; exact (h x hx).2 y hy zz⟩
open Classical in
theorem MpV.store (h : MpV k w b sz f) (K : Keyed Tryz.prog k) {t e : TypeId} (ht : Tryz.prog.underlying t = some (.map k e)) {key : Value} {kl : Lit} (hkey : keyOf Tryz.prog k key = some kl) (hk : WideAt.IsKeyLit kl) (hsz : sz ≤ 100000000) (z : Value) :
  ∃ w', (Instr.mapUpdate t (.map (some b)) key z).run Tryz.prog w = .ok () w' ∧ MpV k w' b (if (f kl).isSome = true then sz else sz + 1) (updV f kl z) ∧ w.grownBy w' (some b) := by
 obtain ⟨D, h1, h2, h3⟩ := h
 obtain ⟨w', hr, hm, hg⟩ := h1.update K ht (by unfold maxLen; omega) hkey (show HV z = some (.held z, []) from rfl)
 refine ⟨w', hr, ⟨D.put kl (.held z), ?_, ?_, h3.put h1.isMap hk z⟩, hg⟩
 ·have := tight hm
  rw [Maps.size_put (h1.tidy K), (h3 kl hk).1, h2] at this
  exact this
 ·rw [Maps.size_put (h1.tidy K), (h3 kl hk).1, h2]
open Classical in
theorem MpV.drop (h : MpV k w b sz f) (K : Keyed Tryz.prog k) {t e : TypeId} (ht : Tryz.prog.underlying t = some (.map k e)) {key : Value} {kl : Lit} (hkey : keyOf Tryz.prog k key = some kl) (hk : WideAt.IsKeyLit kl) (ty : TypeId) :
  ∃ w', (Builtin.delete_ #[t, k] ty #[.map (some b), key]).run Tryz.prog w = .ok (.tuple #[]) w' ∧ MpV k w' b (if (f kl).isSome = true then sz - 1 else sz) (delV f kl) ∧ w.grownBy w' (some b) ∧ w'.heap.size = w.heap.size := by
 obtain ⟨D, h1, h2, h3⟩ := h
 obtain ⟨w', hr, hm, hg⟩ := h1.drop K ht hkey ty
 have hs : Maps.size (D.del kl) = if (f kl).isSome = true then sz - 1 else sz := by
  have := Maps.size_del (k := kl) (h1.tidy K)
  rw [(h3 kl hk).1, h2] at this
  cases e : (f kl).isSome <;> rw [e] at this <;> simp at this ⊢ <;> omega
 have he : w'.heap.size = w.heap.size := by
  obtain ⟨es, cl, es', cl', _, rfl⟩ := hg
  simp [setBlock]
 refine ⟨w', hr, ⟨D.del kl, ?_, hs, h3.del kl⟩, hg.grown, he⟩
 have := tight hm
 rw [hs] at this
 exact this
def RgV (k : TypeId) (w : World) (b r sz : Nat) (f : Lit → Option Value) (left : Lit → Bool) (cnt : Nat) : Prop := ∃ D : DataW Value, w.ranges Tryz.prog k HV b r sz D left cnt ∧ Maps.size D ≤ sz ∧ DatV D f
theorem RgV.mp {r cnt : Nat} {left : Lit → Bool} (h : RgV k w b r sz f left cnt) : ∃ n, MpV k w b n f := by
 obtain ⟨D, h1, h2, h3⟩ := h
 exact ⟨_, D, tight h1.owns, rfl, h3⟩
theorem RgV.same {r cnt : Nat} {left : Lit → Bool} (h : RgV k w b r sz f left cnt) (hb : w'.heap[b]? = w.heap[b]?) (hr : w'.heap[r]? = w.heap[r]?) : RgV k w' b r sz f left cnt := by
 obtain ⟨D, ⟨es, clock, since, seen, c0, q1, q2, q3, q4, q5, q6⟩, h2⟩ := h
 exact ⟨D, ⟨es, clock, since, seen, c0, hb.trans q1, q2, q3, q4, hr.trans q5, q6⟩, h2⟩
theorem RgV.left_eq {r cnt : Nat} {left : Lit → Bool} (h : RgV k w b r sz f left cnt) : w.rangeLeft b r = cnt := by
 obtain ⟨D, h1, _⟩ := h
 exact h1.left_eq
theorem RgV.lt {r cnt : Nat} {left : Lit → Bool} (h : RgV k w b r sz f left cnt) : r < w.heap.size := by
 obtain ⟨D, h1, _⟩ := h
 exact h1.lt
theorem MpV.range (h : MpV k w b sz f) (K : Keyed Tryz.prog k) {t e : TypeId} (ht : Tryz.prog.underlying t = some (.map k e)) :
  ∃ w' left, (Instr.range t (.map (some b))).run Tryz.prog w = .ok (.pointer (some ⟨w.heap.size, 0, none⟩)) w' ∧ RgV k w' b w.heap.size sz f left sz ∧ (∀ kl, WideAt.IsKeyLit kl → left kl = (f kl).isSome) ∧ w.grownBy w' none ∧ w'.heap.size = w.heap.size + 1 := by
 obtain ⟨D, h1, h2, h3⟩ := h
 obtain ⟨w', q1, q2, q3, q4⟩ := h1.range K ht
 rw [h2] at q2
 exact ⟨w', _, q1, ⟨D, q2, by omega, h3⟩, fun kl hk => (h3 kl hk).1, q3, q4⟩
theorem RgV.next {r cnt : Nat} {left : Lit → Bool} (h : RgV k w b r sz f left cnt) (K : Keyed Tryz.prog k) (ty : TypeId) :
  (cnt = 0 ∧ (∀ kl, left kl = false) ∧ (Instr.next (.pointer (some ⟨r, 0, none⟩)) false ty).run Tryz.prog w = .ok (.tuple #[.bool false]) w) ∨
  ∃ key v kl w' cnt', keyOf Tryz.prog k key = some kl ∧ WideAt.IsKeyLit kl ∧ left kl = true ∧ f kl = some v ∧ (Instr.next (.pointer (some ⟨r, 0, none⟩)) false ty).run Tryz.prog w = .ok (.tuple #[.bool true, key, v]) w' ∧
   RgV k w' b r sz f (fun x => left x && !x.sameKey kl) cnt' ∧ cnt' < cnt ∧ w.grownBy w' (some r) ∧ w'.heap.size = w.heap.size ∧ (Instr.entry (.pointer (some ⟨r, 0, none⟩))).run Tryz.prog w' = .ok (.tuple #[key, v]) w' := by
 obtain ⟨D, h1, h2, h3⟩ := h
 rcases h1.next K ty with h0 | ⟨key, v, kl, y, w', cnt', q1, q2, q3, q4, q5, q6, q7, q8, q9, q10⟩
 ·exact .inl h0
 ·have hk := K.key q1
  have hh : has D kl = true := by
   obtain ⟨es, clock, since, seen, c0, t1, t2, t3, t4, t5, t6, t7, t8, t9, t10⟩ := h1
   obtain ⟨x, hx, hxe⟩ := t9 kl q2
   subst t4
   refine List.any_eq_true.2 ⟨rg Tryz.prog k HV x, mem_sorted.2 (List.mem_map.2 ⟨x, hx, rfl⟩), ?_⟩
   rw [hxe]; exact WideAt.sameKey_self hk
  obtain ⟨e1, e2⟩ := h3 kl hk
  rw [hh] at e1
  obtain ⟨v', hv'⟩ := Option.isSome_iff_exists.1 e1.symm
  have hy : y.1 = .held v' := (q4 (.held v')).symm.trans (e2 v' hv' _)
  obtain rfl : ((DataW.held v, []) : DataW Value × List MemPlace) = y := Option.some.inj q3
  obtain rfl : v = v' := DataW.held.inj hy
  exact .inr ⟨key, v, kl, w', cnt', q1, hk, q2, hv', q5, ⟨D, q6, h2, h3⟩, q7, q8, q9, q10⟩
open Classical in
theorem RgV.drop {r cnt : Nat} {left : Lit → Bool} (h : RgV k w b r sz f left cnt) (K : Keyed Tryz.prog k) {t e : TypeId} (ht : Tryz.prog.underlying t = some (.map k e)) {key : Value} {kl : Lit} (hkey : keyOf Tryz.prog k key = some kl) (hk : WideAt.IsKeyLit kl) (ty : TypeId) :
  ∃ w' cnt', (Builtin.delete_ #[t, k] ty #[.map (some b), key]).run Tryz.prog w = .ok (.tuple #[]) w' ∧ RgV k w' b r sz (delV f kl) (fun x => left x && !x.sameKey kl) cnt' ∧ cnt' ≤ cnt ∧ w.grownBy w' (some b) ∧ w'.heap.size = w.heap.size := by
 obtain ⟨D, h1, h2, h3⟩ := h
 obtain ⟨w', cnt', q1, q2, q3, q4⟩ := h1.drop K ht hkey ty
 have he : w'.heap.size = w.heap.size := by
  obtain ⟨es, cl, es', cl', _, rfl⟩ := q4
  simp [setBlock]
 have := Maps.size_del (k := kl) (h1.owns.tidy K)
 exact ⟨w', cnt', q1, ⟨D.del kl, q2, by omega, h3.del kl⟩, q3, q4.grown, he⟩
end
theorem keyI' {x : Int} (h : (Lit.int .i64 x).wf = true) : keyOf Tryz.prog 3 (.int .i64 x) = some (.int .i64 x) := keyOf_int_mk Tryz.underlying3 h
theorem keyedI' : Keyed Tryz.prog 3 := int_keyed Tryz.underlying3
theorem same_int (a b : Int) : (Lit.int .i64 a).sameKey (.int .i64 b) = decide (a = b) := by
 rw [Bool.eq_iff_iff, decide_eq_true_eq]
 constructor
 ·intro h
  have := WideAt.sameKey_eq h
  injection this
 ·intro h; subst h; exact WideAt.sameKey_self trivial
theorem same_str (a b : ByteArray) : (Lit.string a.data.toList).sameKey (.string b.data.toList) = decide (a = b) := by
 rw [Bool.eq_iff_iff, decide_eq_true_eq]
 constructor
 ·intro h
  have := WideAt.sameKey_eq h
  injection this with this
  exact ByteArray.ext (Array.toList_inj.1 this)
 ·intro h; subst h; exact WideAt.sameKey_self trivial
theorem lit_str {a b : ByteArray} (h : Lit.string a.data.toList = .string b.data.toList) : a = b := by
 injection h with this
 exact ByteArray.ext (Array.toList_inj.1 this)
def MpI (w : World) (b sz : Nat) (f : Int → Option Value) : Prop := ∃ F, MpV 3 w b sz F ∧ ∀ x, F (.int .i64 x) = f x
def RgI (w : World) (b r sz : Nat) (f : Int → Option Value) (left : Int → Bool) (cnt : Nat) : Prop := ∃ F lf, RgV 3 w b r sz F lf cnt ∧ (∀ x, F (.int .i64 x) = f x) ∧ ∀ x, lf (.int .i64 x) = left x
section
variable {w w' : World} {b sz : Nat} {f : Int → Option Value}
theorem MpI.same (h : MpI w b sz f) (hb : w'.heap[b]? = w.heap[b]?) : MpI w' b sz f := by obtain ⟨F, h1, h2⟩ := h; exact ⟨F, h1.same hb, h2⟩
theorem MpI.lt (h : MpI w b sz f) : b < w.heap.size := by obtain ⟨F, h1, _⟩ := h; exact h1.lt
theorem MpI.of (h : MpI w b sz f) {f' : Int → Option Value} (e : ∀ x, f' x = f x) : MpI w b sz f' := by obtain ⟨F, h1, h2⟩ := h; exact ⟨F, h1, fun x => (h2 x).trans (e x).symm⟩
theorem MpI.len (h : MpI w b sz f) {t e : TypeId} (ht : Tryz.prog.underlying t = some (.map 3 e)) (ty : TypeId) : (Builtin.len_ #[t] ty #[.map (some b)]).run Tryz.prog w = .ok (.int .i64 (sz : Int)) w := by obtain ⟨F, h1, _⟩ := h; exact h1.len ht ty
theorem MpI.new (w : World) : MpI (w.alloc (.map #[] 0)) w.heap.size 0 (fun _ => none) := ⟨_, MpV.new _ w, fun _ => rfl⟩
theorem MpI.look (h : MpI w b sz f) {t e : TypeId} (ht : Tryz.prog.underlying t = some (.map 3 e)) {zv : Value} (hz : (zeroValue e).run Tryz.prog w = .ok zv w) {x : Int} (hx : (Lit.int .i64 x).wf = true) :
  (Instr.lookup t (.map (some b)) (.int .i64 x) true).run Tryz.prog w = .ok (.tuple #[(f x).getD zv, .bool (f x).isSome]) w := by
 obtain ⟨F, h1, h2⟩ := h
 have := h1.look keyedI' ht hz (keyI' hx) trivial
 rw [h2 x] at this
 exact this
theorem MpI.get (h : MpI w b sz f) {t e : TypeId} (ht : Tryz.prog.underlying t = some (.map 3 e)) {zv : Value} (hz : (zeroValue e).run Tryz.prog w = .ok zv w) {x : Int} (hx : (Lit.int .i64 x).wf = true) :
  (Instr.lookup t (.map (some b)) (.int .i64 x) false).run Tryz.prog w = .ok ((f x).getD zv) w := by
 obtain ⟨F, h1, h2⟩ := h
 have := h1.get keyedI' ht hz (keyI' hx) trivial
 rw [h2 x] at this
 exact this
theorem MpI.store (h : MpI w b sz f) {t e : TypeId} (ht : Tryz.prog.underlying t = some (.map 3 e)) {x : Int} (hx : (Lit.int .i64 x).wf = true) (hsz : sz ≤ 100000000) (z : Value) :
  ∃ w', (Instr.mapUpdate t (.map (some b)) (.int .i64 x) z).run Tryz.prog w = .ok () w' ∧ MpI w' b (if (f x).isSome = true then sz else sz + 1) (fun y => if y = x then some z else f y) ∧ w.grownBy w' (some b) := by
 obtain ⟨F, h1, h2⟩ := h
 obtain ⟨w', q1, q2, q3⟩ := h1.store keyedI' ht (keyI' hx) trivial hsz z
 rw [h2 x] at q2
 refine ⟨w', q1, ⟨_, q2, fun y => ?_⟩, q3⟩
 simp only [updV]
 by_cases e : y = x
 ·rw [if_pos (by rw [e]), if_pos e]
 ·rw [if_neg (fun h => e (by injection h)), if_neg e]; exact h2 y
theorem MpI.drop (h : MpI w b sz f) {t e : TypeId} (ht : Tryz.prog.underlying t = some (.map 3 e)) {x : Int} (hx : (Lit.int .i64 x).wf = true) (ty : TypeId) :
  ∃ w', (Builtin.delete_ #[t, 3] ty #[.map (some b), .int .i64 x]).run Tryz.prog w = .ok (.tuple #[]) w' ∧ MpI w' b (if (f x).isSome = true then sz - 1 else sz) (fun y => if y = x then none else f y) ∧ w.grownBy w' (some b) ∧ w'.heap.size = w.heap.size := by
 obtain ⟨F, h1, h2⟩ := h
 obtain ⟨w', q1, q2, q3⟩ := h1.drop keyedI' ht (keyI' hx) trivial ty
 rw [h2 x] at q2
 refine ⟨w', q1, ⟨_, q2, fun y => ?_⟩, q3⟩
 simp only [delV]
 by_cases e : y = x
 ·rw [if_pos (by rw [e]), if_pos e]
 ·rw [if_neg (fun h => e (by injection h)), if_neg e]; exact h2 y
theorem MpI.range (h : MpI w b sz f) {t e : TypeId} (ht : Tryz.prog.underlying t = some (.map 3 e)) :
  ∃ w', (Instr.range t (.map (some b))).run Tryz.prog w = .ok (.pointer (some ⟨w.heap.size, 0, none⟩)) w' ∧ RgI w' b w.heap.size sz f (fun x => (f x).isSome) sz ∧ w.grownBy w' none ∧ w'.heap.size = w.heap.size + 1 := by
 obtain ⟨F, h1, h2⟩ := h
 obtain ⟨w', left, q1, q2, q3, q4, q5⟩ := h1.range keyedI' ht
 exact ⟨w', q1, ⟨F, left, q2, h2, fun x => by rw [q3 (.int .i64 x) trivial, h2 x]⟩, q4, q5⟩
theorem RgI.same {r cnt : Nat} {left : Int → Bool} (h : RgI w b r sz f left cnt) (hb : w'.heap[b]? = w.heap[b]?) (hr : w'.heap[r]? = w.heap[r]?) : RgI w' b r sz f left cnt := by
 obtain ⟨F, lf, h1, h2⟩ := h
 exact ⟨F, lf, h1.same hb hr, h2⟩
theorem RgI.left_eq {r cnt : Nat} {left : Int → Bool} (h : RgI w b r sz f left cnt) : w.rangeLeft b r = cnt := by obtain ⟨F, lf, h1, _⟩ := h; exact h1.left_eq
theorem RgI.lt {r cnt : Nat} {left : Int → Bool} (h : RgI w b r sz f left cnt) : r < w.heap.size := by obtain ⟨F, lf, h1, _⟩ := h; exact h1.lt
theorem RgI.mp {r cnt : Nat} {left : Int → Bool} (h : RgI w b r sz f left cnt) : ∃ n, MpI w b n f := by obtain ⟨F, lf, h1, h2, _⟩ := h; obtain ⟨n, hn⟩ := h1.mp; exact ⟨n, F, hn, h2⟩
theorem RgI.next {r cnt : Nat} {left : Int → Bool} (h : RgI w b r sz f left cnt) (ty : TypeId) :
  (cnt = 0 ∧ (∀ x, left x = false) ∧ (Instr.next (.pointer (some ⟨r, 0, none⟩)) false ty).run Tryz.prog w = .ok (.tuple #[.bool false]) w) ∨
  ∃ x v w' cnt', (Lit.int .i64 x).wf = true ∧ left x = true ∧ f x = some v ∧ (Instr.next (.pointer (some ⟨r, 0, none⟩)) false ty).run Tryz.prog w = .ok (.tuple #[.bool true, .int .i64 x, v]) w' ∧
   RgI w' b r sz f (fun z => left z && !decide (z = x)) cnt' ∧ cnt' < cnt ∧ w.grownBy w' (some r) ∧ w'.heap.size = w.heap.size ∧ (Instr.entry (.pointer (some ⟨r, 0, none⟩))).run Tryz.prog w' = .ok (.tuple #[.int .i64 x, v]) w' := by
 obtain ⟨F, lf, h1, h2, h3⟩ := h
 rcases h1.next keyedI' ty with ⟨q1, q2, q3⟩ | ⟨key, v, kl, w', cnt', q1, q2, q3, q4, q5, q6, q7, q8, q9, q10⟩
 ·exact .inl ⟨q1, fun x => by rw [← h3 x]; exact q2 _, q3⟩
 ·obtain ⟨x, rfl, rfl, hw⟩ := Maps.keyOf_int_inv Tryz.underlying3 q1
  refine .inr ⟨x, v, w', cnt', hw, by rw [← h3 x]; exact q3, by rw [← h2 x]; exact q4, q5, ⟨F, _, q6, h2, fun z => ?_⟩, q7, q8, q9, q10⟩
  rw [h3 z, same_int]
end
def MpS (w : World) (b sz : Nat) (f : ByteArray → Option Value) : Prop := ∃ F, MpV 9 w b sz F ∧ ∀ x : ByteArray, F (.string x.data.toList) = f x
def RgS (w : World) (b r sz : Nat) (f : ByteArray → Option Value) (left : ByteArray → Bool) (cnt : Nat) : Prop := ∃ F lf, RgV 9 w b r sz F lf cnt ∧ (∀ x : ByteArray, F (.string x.data.toList) = f x) ∧ ∀ x : ByteArray, lf (.string x.data.toList) = left x
theorem keyStr_inv {key : Value} {kl : Lit} (h : keyOf Tryz.prog 9 key = some kl) : ∃ s : ByteArray, key = .string s ∧ kl = .string s.data.toList ∧ s.size ≤ maxLen := by
 rw [keyOf_string Tryz.underlying9] at h
 unfold mapKey at h
 rw [Tryz.underlying9] at h
 cases key <;> simp at h
 rename_i s
 exact ⟨s, rfl, h.2.symm, h.1⟩
section
variable {w w' : World} {b sz : Nat} {f : ByteArray → Option Value}
theorem MpS.same (h : MpS w b sz f) (hb : w'.heap[b]? = w.heap[b]?) : MpS w' b sz f := by obtain ⟨F, h1, h2⟩ := h; exact ⟨F, h1.same hb, h2⟩
theorem MpS.lt (h : MpS w b sz f) : b < w.heap.size := by obtain ⟨F, h1, _⟩ := h; exact h1.lt
theorem MpS.of (h : MpS w b sz f) {f' : ByteArray → Option Value} (e : ∀ x, f' x = f x) : MpS w b sz f' := by obtain ⟨F, h1, h2⟩ := h; exact ⟨F, h1, fun x => (h2 x).trans (e x).symm⟩
theorem MpS.new (w : World) : MpS (w.alloc (.map #[] 0)) w.heap.size 0 (fun _ => none) := ⟨_, MpV.new _ w, fun _ => rfl⟩
theorem MpS.look (h : MpS w b sz f) {t e : TypeId} (ht : Tryz.prog.underlying t = some (.map 9 e)) {zv : Value} (hz : (zeroValue e).run Tryz.prog w = .ok zv w) {x : ByteArray} (hx : x.size ≤ maxLen) :
  (Instr.lookup t (.map (some b)) (.string x) true).run Tryz.prog w = .ok (.tuple #[(f x).getD zv, .bool (f x).isSome]) w := by
 obtain ⟨F, h1, h2⟩ := h
 have := h1.look keyedStr ht hz (keyStr x hx) trivial
 rw [h2 x] at this
 exact this
theorem MpS.get (h : MpS w b sz f) {t e : TypeId} (ht : Tryz.prog.underlying t = some (.map 9 e)) {zv : Value} (hz : (zeroValue e).run Tryz.prog w = .ok zv w) {x : ByteArray} (hx : x.size ≤ maxLen) :
  (Instr.lookup t (.map (some b)) (.string x) false).run Tryz.prog w = .ok ((f x).getD zv) w := by
 obtain ⟨F, h1, h2⟩ := h
 have := h1.get keyedStr ht hz (keyStr x hx) trivial
 rw [h2 x] at this
 exact this
theorem MpS.store (h : MpS w b sz f) {t e : TypeId} (ht : Tryz.prog.underlying t = some (.map 9 e)) {x : ByteArray} (hx : x.size ≤ maxLen) (hsz : sz ≤ 100000000) (z : Value) :
  ∃ w', (Instr.mapUpdate t (.map (some b)) (.string x) z).run Tryz.prog w = .ok () w' ∧ MpS w' b (if (f x).isSome = true then sz else sz + 1) (fun y => if y = x then some z else f y) ∧ w.grownBy w' (some b) := by
 obtain ⟨F, h1, h2⟩ := h
 obtain ⟨w', q1, q2, q3⟩ := h1.store keyedStr ht (keyStr x hx) trivial hsz z
 rw [h2 x] at q2
 refine ⟨w', q1, ⟨_, q2, fun y => ?_⟩, q3⟩
 simp only [updV]
 by_cases e : y = x
 ·rw [if_pos (by rw [e]), if_pos e]
 ·rw [if_neg (fun h => e (lit_str h)), if_neg e]; exact h2 y
theorem MpS.drop (h : MpS w b sz f) {t e : TypeId} (ht : Tryz.prog.underlying t = some (.map 9 e)) {x : ByteArray} (hx : x.size ≤ maxLen) (ty : TypeId) :
  ∃ w', (Builtin.delete_ #[t, 9] ty #[.map (some b), .string x]).run Tryz.prog w = .ok (.tuple #[]) w' ∧ MpS w' b (if (f x).isSome = true then sz - 1 else sz) (fun y => if y = x then none else f y) ∧ w.grownBy w' (some b) ∧ w'.heap.size = w.heap.size := by
 obtain ⟨F, h1, h2⟩ := h
 obtain ⟨w', q1, q2, q3⟩ := h1.drop keyedStr ht (keyStr x hx) trivial ty
 rw [h2 x] at q2
 refine ⟨w', q1, ⟨_, q2, fun y => ?_⟩, q3⟩
 simp only [delV]
 by_cases e : y = x
 ·rw [if_pos (by rw [e]), if_pos e]
 ·rw [if_neg (fun h => e (lit_str h)), if_neg e]; exact h2 y
theorem MpS.range (h : MpS w b sz f) {t e : TypeId} (ht : Tryz.prog.underlying t = some (.map 9 e)) :
  ∃ w', (Instr.range t (.map (some b))).run Tryz.prog w = .ok (.pointer (some ⟨w.heap.size, 0, none⟩)) w' ∧ RgS w' b w.heap.size sz f (fun x => (f x).isSome) sz ∧ w.grownBy w' none ∧ w'.heap.size = w.heap.size + 1 := by
 obtain ⟨F, h1, h2⟩ := h
 obtain ⟨w', left, q1, q2, q3, q4, q5⟩ := h1.range keyedStr ht
 exact ⟨w', q1, ⟨F, left, q2, h2, fun x => by rw [q3 (.string x.data.toList) trivial, h2 x]⟩, q4, q5⟩
theorem RgS.same {r cnt : Nat} {left : ByteArray → Bool} (h : RgS w b r sz f left cnt) (hb : w'.heap[b]? = w.heap[b]?) (hr : w'.heap[r]? = w.heap[r]?) : RgS w' b r sz f left cnt := by
 obtain ⟨F, lf, h1, h2⟩ := h
 exact ⟨F, lf, h1.same hb hr, h2⟩
theorem RgS.left_eq {r cnt : Nat} {left : ByteArray → Bool} (h : RgS w b r sz f left cnt) : w.rangeLeft b r = cnt := by obtain ⟨F, lf, h1, _⟩ := h; exact h1.left_eq
theorem RgS.lt {r cnt : Nat} {left : ByteArray → Bool} (h : RgS w b r sz f left cnt) : r < w.heap.size := by obtain ⟨F, lf, h1, _⟩ := h; exact h1.lt
theorem RgS.next {r cnt : Nat} {left : ByteArray → Bool} (h : RgS w b r sz f left cnt) (ty : TypeId) :
  (cnt = 0 ∧ (∀ x, left x = false) ∧ (Instr.next (.pointer (some ⟨r, 0, none⟩)) false ty).run Tryz.prog w = .ok (.tuple #[.bool false]) w) ∨
  ∃ x v w' cnt', x.size ≤ maxLen ∧ left x = true ∧ f x = some v ∧ (Instr.next (.pointer (some ⟨r, 0, none⟩)) false ty).run Tryz.prog w = .ok (.tuple #[.bool true, .string x, v]) w' ∧
   RgS w' b r sz f (fun z => left z && !decide (z = x)) cnt' ∧ cnt' < cnt ∧ w.grownBy w' (some r) ∧ w'.heap.size = w.heap.size ∧ (Instr.entry (.pointer (some ⟨r, 0, none⟩))).run Tryz.prog w' = .ok (.tuple #[.string x, v]) w' := by
 obtain ⟨F, lf, h1, h2, h3⟩ := h
 rcases h1.next keyedStr ty with ⟨q1, q2, q3⟩ | ⟨key, v, kl, w', cnt', q1, q2, q3, q4, q5, q6, q7, q8, q9, q10⟩
 ·exact .inl ⟨q1, fun x => by rw [← h3 x]; exact q2 _, q3⟩
 ·obtain ⟨x, rfl, rfl, hw⟩ := keyStr_inv q1
  refine .inr ⟨x, v, w', cnt', hw, by rw [← h3 x]; exact q3, by rw [← h2 x]; exact q4, q5, ⟨F, _, q6, h2, fun z => ?_⟩, q7, q8, q9, q10⟩
  rw [h3 z, same_str]
theorem RgS.drop {r cnt : Nat} {left : ByteArray → Bool} (h : RgS w b r sz f left cnt) {t e : TypeId} (ht : Tryz.prog.underlying t = some (.map 9 e)) {x : ByteArray} (hx : x.size ≤ maxLen) (ty : TypeId) :
  ∃ w' cnt', (Builtin.delete_ #[t, 9] ty #[.map (some b), .string x]).run Tryz.prog w = .ok (.tuple #[]) w' ∧ RgS w' b r sz (fun y => if y = x then none else f y) (fun z => left z && !decide (z = x)) cnt' ∧ cnt' ≤ cnt ∧ w.grownBy w' (some b) ∧ w'.heap.size = w.heap.size := by
 obtain ⟨F, lf, h1, h2, h3⟩ := h
 obtain ⟨w', cnt', q1, q2, q3, q4, q5⟩ := h1.drop keyedStr ht (keyStr x hx) trivial ty
 refine ⟨w', cnt', q1, ⟨_, _, q2, fun y => ?_, fun z => by rw [h3 z, same_str]⟩, q3, q4, q5⟩
 simp only [delV]
 by_cases e : y = x
 ·rw [if_pos (by rw [e]), if_pos e]
 ·rw [if_neg (fun h => e (lit_str h)), if_neg e]; exact h2 y
end
end Go.Proofs.YtbmeapehgajbkaaGreat
namespace Go.Proofs.YtbmeapehgajbkaaGreat
open Go.RowKit Go.Maps
open Lz (g)
open Cur
theorem eql_nil (w : World) (a : Option Addr) (n c : Nat) : (binOp .eql 38 (.slice a n c) (.slice none 0 0)).run Tryz.prog w = .ok (.bool a.isNone) w := by
 simp only [binOp]
 simp [run_equal_slice_nil w 38 5 a n c Tryz.underlying38]
structure New (w w' : World) (ao : Option Addr) (n c : Nat) (zs : List Int) : Prop where
 bs : Bs w' ao n zs
 cap : n ≤ c
 max : c ≤ 9223372036854775807
 nil : ao = none → c = 0
 bel : Below w.heap.size w w'
 own : ∀ a, ao = some a → w.heap.size ≤ a.block ∧ a = ⟨a.block, 0, none⟩ ∧ ∃ cur t, w'.heap[a.block]? = some (.cells cur t (0, 0))
theorem New.none (w : World) : New w w none 0 0 [] := ⟨⟨rfl, fun i => by simp [g], .inl rfl⟩, Nat.le_refl _, by omega, fun _ => rfl, Below.refl _ _, fun a h => by simp at h⟩
theorem New.of_owns {w w' : World} {B n c : Nat} {ao : Option Addr} {zs : List Int} (h : w'.ownsRow B 5 1 (.slice ao n c) n (bv zs)) (hb : Bytes zs) (hB : w.heap.size ≤ B) (hbel : Below w.heap.size w w') : New w w' ao n c zs := by
 refine ⟨bs_of_owns h hb, cap_of_owns h, ?_, nil_cap h, hbel, fun a ha => ?_⟩
 ·rcases h.2 with ⟨e, _⟩ | ⟨_, _, _, e, _, _, _, h, _⟩
  ·simp at e; omega
  ·simp at e; unfold maxLen at h; omega
 ·rcases h.2 with ⟨e, _⟩ | ⟨gb, _, cur, e, hg, hgg, _⟩
  ·simp at e; rw [e.1] at ha; simp at ha
  ·simp at e; rw [e.1] at ha; cases ha; exact ⟨Nat.le_trans hB hg, rfl, cur, _, hgg⟩
theorem New.from {w0 w w' : World} {ao : Option Addr} {n c : Nat} {zs : List Int} (h : New w w' ao n c zs) (hb : Below w0.heap.size w0 w) : New w0 w' ao n c zs :=
 ⟨h.bs, h.cap, h.max, h.nil, hb.trans (h.bel.mono hb.size), fun a ha => by have := h.own a ha; exact ⟨Nat.le_trans hb.size this.1, this.2⟩⟩
theorem New.on {w w' w2 : World} {ao : Option Addr} {n c : Nat} {zs : List Int} (h : New w w' ao n c zs) (hb : Below w'.heap.size w' w2) : New w w2 ao n c zs :=
 ⟨h.bs.below hb, h.cap, h.max, h.nil, h.bel.trans (hb.mono h.bel.size), fun a ha => by
  obtain ⟨h1, h2, cur, t, h3⟩ := h.own a ha
  exact ⟨h1, h2, cur, t, by rw [hb.block _ (heap_lt h3)]; exact h3⟩⟩
set_option maxRecDepth 100000 in
theorem CloneNew_any (n c : Nat) (ao : Option Addr) (zs : List Int) (w : World) (hb : Bs w ao n zs) (hc : n ≤ c) (hnil : ao = none → c = 0) (hn : n ≤ 100000000) :
  Calls Tryz.prog 29 #[.slice ao n c] w fun r w' => ∃ ao' c', r = .returned (.slice ao' n c') ∧ New w w' ao' n c' zs := by
 cases ao with
 | none =>
  obtain rfl : c = 0 := hnil rfl
  obtain rfl : n = 0 := by omega
  obtain rfl : zs = [] := List.eq_nil_of_length_eq_zero hb.1
  have H : Hid (New w w none 0 0 []) := New.none w
  clear hb hnil
  have hq : ∀ w : World, (binOp .eql 38 (.slice none 0 0) (.slice none 0 0)).run Tryz.prog w = .ok (.bool true) w := fun w => eql_nil w none 0 0
  go_enter Tryz.func29, Tryz.ntmps29
  go_wp2
  go_ret
  exact ⟨_, _, rfl, H.out⟩
 | some a =>
  clear hnil
  have hq : ∀ w : World, (binOp .eql 38 (.slice (some a) n c) (.slice none 0 0)).run Tryz.prog w = .ok (.bool false) w := fun w => eql_nil w (some a) n c
  have ho := emptyB (w := w) (Nat.le_refl _)
  have hb2 := hb.alloc (.cells #[] 5)
  go_enter Tryz.func29, Tryz.ntmps29
  go_wp2_with (first
   | (at_builtin; refine wpList_append_bs _ rfl (.tmp 5) (.tmp 6) rfl w.heap.size _ _ _ _ rfl ho _ n c zs rfl hb2 (fun h => by simp at h) (by omega) (by simp) ?_; intro ao' c' w1 ho1 hg1))
  go_ret
  have hz : 0 + n = n := by omega
  rw [hz] at ho1
  rw [List.nil_append] at ho1
  exact ⟨_, _, rfl, New.of_owns ho1 hb.bytes (Nat.le_refl _) ((((Below.refl _ w).alloc (Nat.le_refl _) _)).grown hg1 (by simp) (fun k e => (ho.lt k e).1))⟩
end Go.Proofs.YtbmeapehgajbkaaGreat
namespace Go.Proofs.YtbmeapehgajbkaaGreat
open Go.RowKit Go.Maps
open Lz (g)
open Cur
end Go.Proofs.YtbmeapehgajbkaaGreat
namespace Go.Proofs.YtbmeapehgajbkaaGreat
open Go.RowKit Go.Maps
open Lz (g)
open Cur
end Go.Proofs.YtbmeapehgajbkaaGreat
namespace Go.Proofs.YtbmeapehgajbkaaGreat
open Go.RowKit Go.Maps
open Lz (g)
open Cur
end Go.Proofs.YtbmeapehgajbkaaGreat

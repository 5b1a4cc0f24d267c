import Derived.Test.YtgnjifdaccphhaaRows
import Derived.WalkKit
import Derived.WalkSpells
import Derived.WalkLawsBesides
import Derived.BigQuiet
import Derived.Deep.QuietTactic
import Derived.Deep.AppendLies
import Derived.Maps.AppendAt
import Derived.Laws.BytesArg
import Derived.Lib.SlBytesConst
import Derived.OpenShut
import Derived.Laws.AppendOwnNone
import Derived.Deep.RegionHeld3
import Derived.Maps.OwnSet
import Derived.Maps.Views
import Derived.Carry
import Derived.Maps.RangeWalk
set_option linter.unusedVariables false
namespace Go.Proofs.Ytgnjifdaccphhaa.Lz
def g (zs : List Int) (i : Nat) : Int := zs.getD i 0
theorem g_lt (zs : List Int) (i : Nat) (h : i < zs.length) : g zs i = zs[i] := by simp [g, h]
theorem g_drop (zs : List Int) (k i : Nat) : g (zs.drop k) i = g zs (k + i) := by simp [g]
theorem g_take (zs : List Int) (k i : Nat) (h : i < k) : g (zs.take k) i = g zs i := by simp [g, h]
end Go.Proofs.Ytgnjifdaccphhaa.Lz
namespace Go.Proofs.Ytgnjifdaccphhaa
open Go.RowKit Go.Maps
open Lz (g)
def Seg (w : World) (b off : Nat) (zs : List Int) : Prop := ∀ i, i < zs.length → w.cell? ⟨b, off + i, none⟩ = some (.int .u8 (g zs i))
theorem dr2 (w : World) (n m : Nat) : ∃ k, (w.drewN n).drewN m = w.drewN k := ⟨n + m, by simp⟩
theorem ret_int {a b : Int} (h : a = b) : Ending.returned (.int .i64 a) = .returned (.int .i64 b) := by rw [h]
theorem infoByte : (Try.prog.info? 5).map (fun i => (i.zero, i.size, i.bytes)) = some (some (.int .u8 0), 1, 1) := by kernel_rfl
theorem heap_lt {w : World} {i : Nat} {o : Obj} (h : w.heap[i]? = some o) : i < w.heap.size := (Array.getElem?_eq_some_iff.1 h).1
theorem owns_shape {w : World} {base e size n : Nat} {v : Value} {xs : List Value} (h : w.ownsRow base e size v n xs) : ∃ ao c, v = .slice ao n c := by
 rcases h.2 with ⟨rfl, rfl⟩ | ⟨g, cap, cur, rfl, _⟩
 ·exact ⟨_, _, rfl⟩
 ·exact ⟨_, _, rfl⟩
def Bs (w : World) (ao : Option Addr) (n : Nat) (zs : List Int) : Prop :=
 zs.length = n ∧ (∀ i, 0 ≤ g zs i ∧ g zs i ≤ 255) ∧ (n = 0 ∨ ∃ b off, ao = some ⟨b, off, none⟩ ∧ b < w.heap.size ∧ Seg w b off zs)
theorem Seg.below {w w' : World} {B b off : Nat} {zs : List Int} (h : Seg w b off zs) (hb : Below B w w') (hlt : b < B) : Seg w' b off zs := fun i hi => (hb.cell (by exact hlt)).trans (h i hi)
theorem Bs.below {w w' : World} {ao : Option Addr} {n : Nat} {zs : List Int} (h : Bs w ao n zs) (hb : Below w.heap.size w w') : Bs w' ao n zs := by
 refine ⟨h.1, h.2.1, ?_⟩
 rcases h.2.2 with h0 | ⟨b, off, h1, h2, h3⟩
 ·exact .inl h0
 ·exact .inr ⟨b, off, h1, Nat.lt_of_lt_of_le h2 hb.size, h3.below hb h2⟩
theorem Seg.cut {w : World} {b off : Nat} {zs : List Int} (h : Seg w b off zs) (lo hi : Nat) : Seg w b (off + lo) ((zs.take hi).drop lo) := fun i hj => by
 simp only [List.length_drop, List.length_take] at hj
 rw [Lz.g_drop, Lz.g_take _ _ _ (by omega), Nat.add_assoc]
 exact h (lo + i) (by omega)
theorem bytes_take {zs : List Int} (h : ∀ i, 0 ≤ g zs i ∧ g zs i ≤ 255) (hi : Nat) : ∀ i, 0 ≤ g (zs.take hi) i ∧ g (zs.take hi) i ≤ 255 := fun i => by
 by_cases e : i < hi
 ·rw [Lz.g_take _ _ _ e]; exact h _
 ·have : g (zs.take hi) i = 0 := by simp [g, List.getElem?_take, e]
  rw [this]; omega
def bv (xs : List Int) : List Value := xs.map (Value.int .u8)
theorem bv_append (xs ys : List Int) : bv (xs ++ ys) = bv xs ++ bv ys := by simp [bv]
theorem bv_length (xs : List Int) : (bv xs).length = xs.length := by simp [bv]
theorem news_seg {w : World} {b off : Nat} {l : List Int} (h : Seg w b off l) (k : Nat) : ∀ j u, (bv (l.take k))[j]? = some u → w.cell? ((⟨b, off, none⟩ : Addr).add j) = some u := by
 intro j u hu
 have hj : j < (l.take k).length := by
  have := (List.getElem?_eq_some_iff.1 hu).1
  simpa [bv] using this
 rw [Addr.add_lit, h j (by simp at hj; omega)]
 have e : (bv (l.take k))[j]? = some (.int .u8 (g (l.take k) j)) := by
  unfold bv
  rw [List.getElem?_map, List.getElem?_eq_getElem hj, Lz.g_lt _ _ hj]; rfl
 rw [e] at hu
 rw [← Lz.g_take l k j (by simp at hj; omega)]
 exact hu
theorem bv_one (xs : List Int) : ∀ u ∈ bv xs, u.oneCell' = true := ints_oneCell .u8 xs
theorem grown_alloc {w w1 : World} {row : Option Nat} {o : Obj} (h : (w.alloc o).grownBy w1 row) : w.grownBy w1 row :=
 ⟨h.os, h.tape, h.output, Nat.le_trans (by simp) h.size, fun k hk hne => (h.block k (by simp; omega) hne).trans (Below.heap_alloc w o k hk)⟩
theorem emptyB {w : World} {B : Nat} (hB : B ≤ w.heap.size) : (w.alloc (.cells #[] 5)).ownsRow B 5 1 (.slice (some ⟨w.heap.size, 0, none⟩) 0 0) 0 (bv []) :=
 ⟨rfl, .inr ⟨w.heap.size, 0, #[], rfl, hB, heap_alloc_new w _, Nat.le_refl _, by unfold maxLen; omega, rfl, rfl⟩⟩
theorem owns_below {w w' : World} {B e size n : Nat} {v : Value} {xs : List Value} (h : w.ownsRow B e size v n xs) (hb : Below w.heap.size w w') : w'.ownsRow B e size v n xs := by
 refine ⟨h.1, ?_⟩
 rcases h.2 with hn | ⟨g, cap, cur, rfl, hg, hgg, rest⟩
 ·exact .inl hn
 ·exact .inr ⟨g, cap, cur, rfl, hg, by rw [hb.block g (heap_lt hgg)]; exact hgg, rest⟩
def Bytes (zs : List Int) : Prop := ∀ x ∈ zs, 0 ≤ x ∧ x ≤ 255
theorem Bytes.g {zs : List Int} (h : Bytes zs) : ∀ i, 0 ≤ Lz.g zs i ∧ Lz.g zs i ≤ 255 := fun i => by
 unfold Lz.g
 by_cases hi : i < zs.length
 ·simp only [List.getD, List.getElem?_eq_getElem hi, Option.getD_some]
  exact h _ (List.getElem_mem hi)
 ·simp only [List.getD, List.getElem?_eq_none (by omega : zs.length ≤ i), Option.getD_none]; omega
theorem Bytes.of_g {zs : List Int} (h : ∀ i, 0 ≤ Lz.g zs i ∧ Lz.g zs i ≤ 255) : Bytes zs := fun x hx => by
 obtain ⟨i, hi, rfl⟩ := List.getElem_of_mem hx
 have := h i
 rw [Lz.g_lt zs i hi] at this
 exact this
theorem Bytes.take {a : List Int} (h : Bytes a) (n : Nat) : Bytes (a.take n) := fun x hx => h x (List.mem_of_mem_take hx)
theorem bs_of_owns {w : World} {B n c : Nat} {ao : Option Addr} {zs : List Int} (h : w.ownsRow B 5 1 (.slice ao n c) n (bv zs)) (hb : Bytes zs) : Bs w ao n zs := by
 have hlen : zs.length = n := by have := h.1; rw [bv_length] at this; omega
 refine ⟨hlen, hb.g, ?_⟩
 by_cases e : n = 0
 ·exact .inl e
 ·obtain ⟨gb, c', hv, _, hlt⟩ := h.form (by omega)
  obtain ⟨rfl, _, rfl⟩ : ao = some ⟨gb, 0, none⟩ ∧ n = n ∧ c = c' := by simpa using hv
  refine .inr ⟨gb, 0, rfl, hlt, fun i hi => ?_⟩
  rw [Nat.zero_add, h.cellAt i (by omega)]
  unfold bv
  rw [List.getElem?_map, List.getElem?_eq_getElem hi, Lz.g_lt _ _ hi]; rfl
theorem cap_of_owns {w : World} {B n c e : Nat} {ao : Option Addr} {xs : List Value} (h : w.ownsRow B e 1 (.slice ao n c) n xs) : n ≤ c := by
 rcases h.2 with ⟨e, _⟩ | ⟨_, _, _, e, _, _, h, _⟩
 ·simp at e; omega
 ·simp at e; omega
theorem str_any {w : World} {ao : Option Addr} {n : Nat} {zs : List Int} (h : Bs w ao n zs) (c : Nat) : (convert 35 9 (.slice ao n c)).run Try.prog w = .ok (.string (strOfNums zs)) w := by
 obtain ⟨hz, _, h0⟩ := h
 rcases h0 with h0 | ⟨b, off, rfl, _, hs⟩
 ·subst h0
  have : zs = [] := List.eq_nil_of_length_eq_zero hz
  subst this
  cases ao with
  | none => exact run_convert_bytes_nil w _ _ Try.underlying35 Try.underlying5 0 c _ Try.underlying9
  | some a =>
   rw [run_convert_bytes_string w _ _ _ _ 0 c Try.underlying35 Try.underlying5 Try.underlying9, run_bytesToString w a 0 c [] (by simp [loadCells, loadCellsFrom])]
   rfl
 ·exact run_convert_bytes_arg w _ _ Try.underlying35 Try.underlying5 b off n c zs hz (fun i hi => hs i (by omega)) _ Try.underlying9
def RowB (w : World) (a : Option Addr) (len cap : Nat) (zs : List Int) : Prop :=
 (a = none ∧ len = 0 ∧ cap = 0 ∧ zs = []) ∨
 ∃ x, a = some x ∧ len ≤ cap ∧ cap ≤ maxLen ∧ zs.length = cap ∧ (∀ i, i < zs.length → w.cell? (x.add i) = some (.int .u8 (zs.getD i 0))) ∧ ∀ n ∈ zs, (Lit.int .u8 n).wf = true
theorem wf_u8 {n : Int} (h : (Lit.int .u8 n).wf = true) : 0 ≤ n ∧ n ≤ 255 := by
 have := bounds_u8 h
 omega
theorem Bs.alloc {w : World} {ao : Option Addr} {n : Nat} {zs : List Int} (h : Bs w ao n zs) (o : Obj) : Bs (w.alloc o) ao n zs := h.below ((Below.refl _ _).alloc (Nat.le_refl _) o)
theorem RowB.bs {w : World} {a : Option Addr} {len cap : Nat} {zs : List Int} (h : RowB w a len cap zs) (m : Nat) (hm : m ≤ len) : Bs w a m (zs.take m) ∧ len ≤ cap ∧ cap ≤ 9223372036854775807 ∧ Bytes (zs.take m) ∧ (a = none → cap = 0) := by
 rcases h with ⟨rfl, rfl, rfl, rfl⟩ | ⟨x, rfl, hl, hc, hz, hcell, hwf⟩
 ·obtain rfl : m = 0 := by omega
  exact ⟨⟨rfl, fun i => by simp [g], .inl rfl⟩, by omega, by omega, fun x hx => by simp at hx, fun _ => rfl⟩
 ·have hb : Bytes zs := fun n hn => wf_u8 (hwf n hn)
  refine ⟨⟨by simp; omega, (hb.take m).g, ?_⟩, hl, by unfold maxLen at hc; omega, hb.take m, fun e => by simp at e⟩
  by_cases e : m = 0
  ·exact .inl e
  ·obtain ⟨b, off, spot⟩ := x
   have hc0 := hcell 0 (by omega)
   have hspot : spot = none := by simpa [Addr.add] using World.cell?_spot hc0
   subst hspot
   have hlt : b < w.heap.size := by
    have := World.block_lt_of_cell? w _ hc0
    simpa [Addr.add] using this
   refine .inr ⟨b, off, rfl, hlt, fun i hi => ?_⟩
   simp at hi
   rw [Lz.g_take _ _ _ (by omega)]
   have := hcell i (by omega)
   rw [Addr.add_lit] at this
   exact this
theorem wpList_append_bs (w : World) {ops : Array Oper} {rest : List Oper} {o : Oper} {a : Act} {Q : Exit → Act → World → Prop} (hgd : o.guard = none) (s x : Operand)
  (ho : o.op = .call { callee := .builtin .append, args := #[s, x], argTypes := #[35, 35] })
  (base : Nat) (vo : Option Addr) (n vc : Nat) (xs : List Int) (hs : a.eval s = .slice vo n vc) (hown : w.ownsRow base 5 1 (.slice vo n vc) n (bv xs))
  (ao : Option Addr) (m c : Nat) (zs : List Int) (hx : a.eval x = .slice ao m c) (hb : Bs w ao m zs) (hnil : ao = none → c = 0)
  (hbd : n + m ≤ 100000000) (hbase : base ≤ w.heap.size)
  (h : ∀ ao' c' w', w'.ownsRow base 5 1 (.slice ao' (n + m) c') (n + m) (bv (xs ++ zs)) → w.grownBy w' (Value.slice vo n vc).ownBlock → wpList Try.prog ops Q rest (a.put o.dst (.slice ao' (n + m) c')) w') :
  wpList Try.prog ops Q (o :: rest) a w := by
 obtain ⟨i0, hi, hz0, hz1, hz2⟩ := info_parts infoByte
 obtain ⟨hz, hby, h0⟩ := hb
 cases ao with
 | none =>
  obtain rfl : c = 0 := hnil rfl
  obtain rfl : m = 0 := by
   rcases h0 with h0 | ⟨b, off, h1, _⟩
   ·exact h0
   ·simp at h1
  obtain rfl : zs = [] := List.eq_nil_of_length_eq_zero hz
  refine wpList_append_own_none hgd s x _ ho base 5 i0 1 Try.underlying35 hi _ n (bv xs) hs hown hx ?_
  have := h vo vc w (by simpa using hown) (World.grownBy.refl _ _)
  simpa using this
 | some ad =>
  refine wpList_append_own w hgd s x _ ho base 5 i0 (.int .u8 0) 1 1 Try.underlying35 hi hz0 hz1 hz2 rfl (by decide) _ n (bv xs) hs hown ad m c (bv zs) hx (by rw [bv_length]; omega) ?_ (bv_one _) (by unfold maxLen; omega) (by omega) hbase ?_
  ·rcases h0 with h0 | ⟨b, off, h1, _, hseg⟩
   ·have : zs = [] := List.eq_nil_of_length_eq_zero (by omega)
    subst this
    intro j u hu; simp [bv] at hu
   ·obtain rfl := Option.some.inj h1
    have := news_seg hseg m
    rw [List.take_of_length_le (by omega)] at this
    exact this
  ·intro v' w' h2 h3 _
   obtain ⟨ao', c', rfl⟩ := owns_shape h2
   exact h ao' c' w' (by rw [bv_append]; exact h2) h3
theorem nil_cap {w : World} {B n c e : Nat} {ao : Option Addr} {vs : List Value} (h : w.ownsRow B e 1 (.slice ao n c) n vs) : ao = none → c = 0 := fun hn => by
 subst hn
 rcases h.2 with ⟨e, _⟩ | ⟨_, _, _, e, _⟩
 ·simp at e; omega
 ·simp at e
theorem Bs.take {w : World} {ao : Option Addr} {n : Nat} {zs : List Int} (h : Bs w ao n zs) (k : Nat) (hk : k ≤ n) : Bs w ao k (zs.take k) := by
 obtain ⟨hz, hby, h0⟩ := h
 refine ⟨by simp; omega, bytes_take hby k, ?_⟩
 by_cases e : k = 0
 ·exact .inl e
 ·rcases h0 with h0 | ⟨b, off, h1, h2, h3⟩
  ·omega
  ·refine .inr ⟨b, off, h1, h2, ?_⟩
   have := h3.cut 0 k
   simpa using this
theorem hide {p : Prop} (h : p) : Hid p := h
theorem ret_bool {a b : Bool} (h : a = b) : Ending.returned (.bool a) = .returned (.bool b) := by rw [h]
theorem enters (fn : Nat) {f : Func} {c : Code} (hf : Try.prog.funcs[fn]? = some f) (hname : (f.name == "runtime.NumGoroutine") = false) (hb : f.body = some c) : ∀ (args : Array Value) (w : World), (callFunc fn args).run Try.prog w = .ok (.enter fn args) w := fun args w => by
 have hn : ¬ f.name = "runtime.NumGoroutine" := by simpa using hname
 simp [callFunc, hf, hn, hb]
theorem heap_new {w : World} {o : Obj} {k : Nat} (h : k = w.heap.size) : (w.alloc o).heap[k]? = some o := by subst h; exact heap_alloc_new w o
theorem below_drewN {B : Nat} {a b : World} (h : Below B a b) (n : Nat) : Below B a (b.drewN n) := ⟨h.os, h.tape, h.output, h.size, h.block⟩
theorem below_one (w : World) (o : Obj) : Below w.heap.size w (w.alloc o) := (Below.refl _ _).alloc (Nat.le_refl _) o
theorem Bs.bytes {w : World} {ao : Option Addr} {n : Nat} {zs : List Int} (h : Bs w ao n zs) : Bytes zs := Bytes.of_g h.2.1
theorem str_inj : ∀ {xs ys : List Int}, Bytes xs → Bytes ys → strOfNums xs = strOfNums ys → xs = ys := by
 intro xs ys hx hy h
 have h2 : xs.map (fun n => UInt8.ofNat n.toNat) = ys.map (fun n => UInt8.ofNat n.toNat) := by
  have := congrArg (fun b : ByteArray => b.data.toList) h
  simpa [strOfNums] using this
 clear h
 induction xs generalizing ys with
 | nil => cases ys with
  | nil => rfl
  | cons y ys => simp at h2
 | cons x xs ih => cases ys with
  | nil => simp at h2
  | cons y ys =>
   simp only [List.map_cons, List.cons.injEq] at h2
   have hx0 := hx x (by simp)
   have hy0 := hy y (by simp)
   have e := congrArg UInt8.toNat h2.1
   rw [UInt8.toNat_ofNat_of_lt' (by show x.toNat < 256; omega), UInt8.toNat_ofNat_of_lt' (by show y.toNat < 256; omega)] at e
   rw [ih (fun z hz => hx z (by simp [hz])) (fun z hz => hy z (by simp [hz])) h2.2]
   congr 1; omega
theorem str_eq {x y : List Int} (hx : Bytes x) (hy : Bytes y) : ((strOfNums x).toList == (strOfNums y).toList) = decide (x = y) := by
 rw [Bool.eq_iff_iff, beq_iff_eq, decide_eq_true_eq]
 refine ⟨fun h => str_inj hx hy ?_, fun h => by rw [h]⟩
 rw [ByteArray.toList_eq, ByteArray.toList_eq] at h
 exact ByteArray.ext (Array.toList_inj.1 h)
theorem emptyR {w : World} {B t size : Nat} (hB : B ≤ w.heap.size) : (w.alloc (.cells #[] t)).ownsRow B t size (.slice (some ⟨w.heap.size, 0, none⟩) 0 0) 0 [] :=
 ⟨by simp, .inr ⟨w.heap.size, 0, #[], rfl, hB, heap_alloc_new w _, Nat.le_refl _, by unfold maxLen; omega, by simp, by simp⟩⟩
theorem owns_obj {w : World} {B e size n k : Nat} {v : Value} {xs : List Value} (h : w.ownsRow B e size v n xs) (hk : v.ownBlock = some k) : ∃ cur, w.heap[k]? = some (.cells cur e (0, 0)) := by
 rcases h.2 with ⟨rfl, _⟩ | ⟨g, cap, cur, rfl, _, hgg, _⟩
 ·simp [Value.ownBlock] at hk
 ·simp [Value.ownBlock] at hk
  subst hk
  exact ⟨cur, hgg⟩
end Go.Proofs.Ytgnjifdaccphhaa
namespace Go.Proofs.Ytgnjifdaccphhaa
open Go.RowKit Go.Maps
def HV (v : Value) : Option (DataW Value × List MemPlace) := some (.held v, [])
def MpK (k : TypeId) (w : World) (b sz : Nat) (f : Lit → Option Nat) : Prop :=
 ∃ D : DataW Value, w.ownsMap Try.prog k HV b sz D ∧ Maps.size D = sz ∧ ∀ kl, WideAt.IsKeyLit kl → has D kl = (f kl).isSome ∧ ∀ z, f kl = some z → D.atKey kl (.held (.int .i64 0)) = .held (.int .i64 (z : Int))
theorem MpK.same {k : TypeId} {w w' : World} {b sz : Nat} {f : Lit → Option Nat} (h : MpK k w b sz f) (hb : w'.heap[b]? = w.heap[b]?) : MpK k w' b sz f := by
 obtain ⟨D, ⟨es, clock, h1, h2⟩, h3⟩ := h
 exact ⟨D, ⟨es, clock, hb.trans h1, h2⟩, h3⟩
theorem MpK.lt {k : TypeId} {w : World} {b sz : Nat} {f : Lit → Option Nat} (h : MpK k w b sz f) : b < w.heap.size := by
 obtain ⟨D, h1, _⟩ := h
 exact h1.lt
theorem MpK.below {k : TypeId} {w w' : World} {b sz : Nat} {f : Lit → Option Nat} (h : MpK k w b sz f) (hb : Below w.heap.size w w') : MpK k w' b sz f :=
 h.same (hb.block b h.lt)
theorem mpk_new (k : TypeId) (w : World) : MpK k (w.alloc (.map #[] 0)) w.heap.size 0 (fun _ => none) :=
 ⟨.map [], World.ownsMap_made w _ _ _, rfl, fun kl _ => ⟨rfl, fun z hz => by cases hz⟩⟩
theorem MpK.len {k : TypeId} {w : World} {b sz : Nat} {f : Lit → Option Nat} (h : MpK k w b sz f) {t e : TypeId} (ht : Try.prog.underlying t = some (.map k e)) (ty : TypeId) : (Builtin.len_ #[t] ty #[.map (some b)]).run Try.prog w = .ok (.int .i64 (sz : Int)) w := by
 obtain ⟨D, h1, h2, _⟩ := h
 have := h1.len ht ty
 rw [h2] at this
 exact this
theorem zeroInt7 (w : World) : (zeroValue 3).run Try.prog w = .ok (.int .i64 0) w := by kernel_rfl
theorem MpK.look {k : TypeId} {w : World} {b sz : Nat} {f : Lit → Option Nat} (h : MpK k w b sz f) (K : Keyed Try.prog k) {t : TypeId} (ht : Try.prog.underlying t = some (.map k 3)) {key : Value} {kl : Lit} (hkey : keyOf Try.prog k key = some kl) (hk : WideAt.IsKeyLit kl) :
  (Instr.lookup t (.map (some b)) key true).run Try.prog w = .ok (.tuple #[.int .i64 (((f kl).getD 0 : Nat) : Int), .bool (f kl).isSome]) w := by
 obtain ⟨D, h1, _, h3⟩ := h
 obtain ⟨e1, e2⟩ := h3 kl hk
 obtain ⟨v, ps, hr, hv⟩ := h1.look_ok K ht (zeroInt7 w) (zd := .held (.int .i64 0)) (zp := []) rfl hkey
 rw [e1] at hr
 cases hf : f kl with
 | none =>
  rw [hf] at e1 hr
  rw [Maps.atKey_of_not_has e1] at hv
  simp [HV] at hv
  rw [hv.1] at hr
  exact hr
 | some z =>
  rw [hf] at hr
  rw [e2 z hf] at hv
  simp [HV] at hv
  rw [hv.1] at hr
  exact hr
def upd (f : Lit → Option Nat) (kl : Lit) (z : Nat) : Lit → Option Nat := fun k => if k.sameKey kl = true then some z else f k
theorem upd_same (f : Lit → Option Nat) (kl : Lit) (z : Nat) (hk : WideAt.IsKeyLit kl) : upd f kl z kl = some z := by
 unfold upd; rw [if_pos (WideAt.sameKey_self hk)]
theorem upd_other (f : Lit → Option Nat) {kl k : Lit} (z : Nat) (h : k ≠ kl) : upd f kl z k = f k := by
 unfold upd; rw [if_neg (fun e => h (WideAt.sameKey_eq e))]
theorem tight {k : TypeId} {w : World} {b n : Nat} {D : DataW Value} (h : w.ownsMap Try.prog k HV b n D) : w.ownsMap Try.prog k HV b (Maps.size D) D := by
 obtain ⟨es, clock, h1, h2, h3, rfl⟩ := h
 refine ⟨es, clock, h1, h2, ?_, rfl⟩
 simp [Maps.size, length_sorted]
theorem MpK.store {k : TypeId} {w : World} {b sz : Nat} {f : Lit → Option Nat} (h : MpK k w b sz f) (K : Keyed Try.prog k) {t : TypeId} (ht : Try.prog.underlying t = some (.map k 3)) {key : Value} {kl : Lit} (hkey : keyOf Try.prog k key = some kl) (hk : WideAt.IsKeyLit kl) (hsz : sz ≤ 1000000) (z : Nat) :
  ∃ w', (Instr.mapUpdate t (.map (some b)) key (.int .i64 (z : Int))).run Try.prog w = .ok () w' ∧ MpK k w' b (if (f kl).isSome = true then sz else sz + 1) (upd f kl z) ∧ w.grownBy w' (some b) := by
 obtain ⟨D, h1, h2, h3⟩ := h
 obtain ⟨w', hr, hm, hg⟩ := h1.update K ht (by unfold maxLen; omega) hkey (show HV (.int .i64 (z : Int)) = some (.held _, []) from rfl)
 refine ⟨w', hr, ⟨D.put kl (.held (.int .i64 (z : Int))), ?_, ?_, fun k' hk' => ?_⟩, hg⟩
 ·have := tight hm
  rw [Maps.size_put (h1.tidy K), (h3 kl hk).1, h2] at this
  exact this
 ·rw [Maps.size_put (h1.tidy K), (h3 kl hk).1, h2]
 ·by_cases e : k' = kl
  ·subst e
   rw [upd_same _ _ _ hk]
   refine ⟨Maps.has_put_same h1.isMap hk _, fun y hy => ?_⟩
   cases hy
   exact Maps.atKey_put_same h1.isMap hk _ _
  ·rw [upd_other _ _ e, Maps.has_put_other e]
   refine ⟨(h3 k' hk').1, fun y hy => ?_⟩
   rw [Maps.atKey_put_other e]
   exact (h3 k' hk').2 y hy
theorem keyStr (s : ByteArray) (hs : s.size ≤ maxLen) : keyOf Try.prog 9 (.string s) = some (.string s.data.toList) := by
 rw [keyOf_string Try.underlying9]
 simp [mapKey, Try.underlying9, hs]
theorem keyedStr : Keyed Try.prog 9 := string_keyed Try.underlying9
end Go.Proofs.Ytgnjifdaccphhaa
namespace Go.Proofs.Ytgnjifdaccphhaa
open Go.RowKit Go.Maps
open Lz (g)
theorem heap_setCell_self {w : World} {p i : Nat} {cs : Array Value} {t : TypeId} {fz : Nat × Nat} (h : w.heap[p]? = some (.cells cs t fz)) (v : Value) : (w.setCell ⟨p, i, none⟩ v).heap[p]? = some (.cells (cs.setIfInBounds i v) t fz) := by
 simp [World.setCell, Array.getElem?_modify, h]
structure Fr (S : Nat → Prop) (w w' : World) : Prop where
 os : w'.os = w.os
 tape : w'.tape = w.tape
 output : w'.output = w.output
 size : w.heap.size ≤ w'.heap.size
 block : ∀ k, k < w.heap.size → ¬ S k → w'.heap[k]? = w.heap[k]?
theorem Fr.refl (S : Nat → Prop) (w : World) : Fr S w w := ⟨rfl, rfl, rfl, Nat.le_refl _, fun _ _ _ => rfl⟩
theorem Fr.set {S : Nat → Prop} {a b : World} (h : Fr S a b) {p : Addr} (v : Value) (hp : p.block < a.heap.size → S p.block) : Fr S a (b.setCell p v) :=
 ⟨h.os, h.tape, h.output, by simpa [World.setCell] using h.size, fun i hi hn => (Below.heap_setCell _ _ _ _ (fun e => by subst e; exact hn (hp hi))).trans (h.block i hi hn)⟩
theorem Fr.of_below {S : Nat → Prop} {a b : World} (h : Below a.heap.size a b) : Fr S a b := ⟨h.os, h.tape, h.output, h.size, fun i hi _ => h.block i hi⟩
theorem Fr.cell {S : Nat → Prop} {a b : World} (h : Fr S a b) {q : Addr} (hq : q.block < a.heap.size) (hn : ¬ S q.block) : b.cell? q = a.cell? q := World.cell?_of_block (w := a) (h.block _ hq hn)
theorem Bs.fr {S : Nat → Prop} {w w' : World} {ao : Option Addr} {n : Nat} {zs : List Int} (h : Bs w ao n zs) (hf : Fr S w w') (hn : ∀ a, ao = some a → 0 < n → ¬ S a.block) : Bs w' ao n zs := by
 refine ⟨h.1, h.2.1, ?_⟩
 rcases h.2.2 with h0 | ⟨b, off, h1, h2, h3⟩
 ·exact .inl h0
 ·by_cases e : n = 0
  ·exact .inl e
  ·exact .inr ⟨b, off, h1, Nat.lt_of_lt_of_le h2 hf.size, fun i hi => (hf.cell (q := ⟨b, off + i, none⟩) h2 (show ¬ S b from hn ⟨b, off, none⟩ h1 (by omega))).trans (h3 i hi)⟩
namespace Cur
def le : List Int → Int
 | [] => 0
 | x :: xs => x + 256 * le xs
end Cur
end Go.Proofs.Ytgnjifdaccphhaa
namespace Go.Proofs.Ytgnjifdaccphhaa
open Go.RowKit Go.Maps Go.ChangeMaps Go.MapKept Go.WideShapes
open Go.WideElems (rg)
def DatV (D : DataW Value) (f : Lit → Option Value) : Prop := ∀ kl, WideAt.IsKeyLit kl → has D kl = (f kl).isSome ∧ ∀ v, f kl = some v → ∀ z, D.atKey kl z = .held v
def MpV (k : TypeId) (w : World) (b sz : Nat) (f : Lit → Option Value) : Prop := ∃ D : DataW Value, w.ownsMap Try.prog k HV b sz D ∧ Maps.size D = sz ∧ DatV D f
section
variable {k : TypeId} {w w' : World} {b sz : Nat} {f : Lit → Option Value}
theorem MpV.same (h : MpV k w b sz f) (hb : w'.heap[b]? = w.heap[b]?) : MpV k w' b sz f := by
 obtain ⟨D, ⟨es, clock, h1, h2⟩, h3⟩ := h
 exact ⟨D, ⟨es, clock, hb.trans h1, h2⟩, h3⟩
theorem MpV.lt (h : MpV k w b sz f) : b < w.heap.size := by
 obtain ⟨D, h1, _⟩ := h
 exact h1.lt
theorem MpV.new (k : TypeId) (w : World) : MpV k (w.alloc (.map #[] 0)) w.heap.size 0 (fun _ => none) :=
 ⟨.map [], World.ownsMap_made w _ _ _, rfl, fun kl _ => ⟨rfl, fun z hz => by cases hz⟩⟩
def updV [DecidableEq Lit] (f : Lit → Option Value) (kl : Lit) (z : Value) : Lit → Option Value := fun x => if x = kl then some z else f x
open Classical in
theorem DatV.put {D : DataW Value} (h : DatV D f) (hm : IsMap D) {kl : Lit} (hk : WideAt.IsKeyLit kl) (z : Value) : DatV (D.put kl (.held z)) (updV f kl z) := fun x hx => by
 unfold updV
 by_cases e : x = kl
 ·subst e
  rw [if_pos rfl]
  exact ⟨Maps.has_put_same hm hk _, fun y hy => by cases hy; exact fun zz => Maps.atKey_put_same hm hk _ _⟩
 ·rw [if_neg e, Maps.has_put_other e]
  exact ⟨(h x hx).1, fun y hy zz => by rw [Maps.atKey_put_other e]; exact (h x hx).2 y hy zz⟩
open Classical in
open Classical in
theorem MpV.store (h : MpV k w b sz f) (K : Keyed Try.prog k) {t e : TypeId} (ht : Try.prog.underlying t = some (.map k e)) {key : Value} {kl : Lit} (hkey : keyOf Try.prog k key = some kl) (hk : WideAt.IsKeyLit kl) (hsz : sz ≤ 100000000) (z : Value) :
  ∃ w', (Instr.mapUpdate t (.map (some b)) key z).run Try.prog w = .ok () w' ∧ MpV k w' b (if (f kl).isSome = true then sz else sz + 1) (updV f kl z) ∧ w.grownBy w' (some b) := by
 obtain ⟨D, h1, h2, h3⟩ := h
 obtain ⟨w', hr, hm, hg⟩ := h1.update K ht (by unfold maxLen; omega) hkey (show HV z = some (.held z, []) from rfl)
 refine ⟨w', hr, ⟨D.put kl (.held z), ?_, ?_, h3.put h1.isMap hk z⟩, hg⟩
 ·have := tight hm
  rw [Maps.size_put (h1.tidy K), (h3 kl hk).1, h2] at this
  exact this
 ·rw [Maps.size_put (h1.tidy K), (h3 kl hk).1, h2]
open Classical in
open Classical in
end
theorem keyI' {x : Int} (h : (Lit.int .i64 x).wf = true) : keyOf Try.prog 3 (.int .i64 x) = some (.int .i64 x) := keyOf_int_mk Try.underlying3 h
theorem keyedI' : Keyed Try.prog 3 := int_keyed Try.underlying3
def MpI (w : World) (b sz : Nat) (f : Int → Option Value) : Prop := ∃ F, MpV 3 w b sz F ∧ ∀ x, F (.int .i64 x) = f x
section
variable {w w' : World} {b sz : Nat} {f : Int → Option Value}
theorem MpI.same (h : MpI w b sz f) (hb : w'.heap[b]? = w.heap[b]?) : MpI w' b sz f := by obtain ⟨F, h1, h2⟩ := h; exact ⟨F, h1.same hb, h2⟩
theorem MpI.of (h : MpI w b sz f) {f' : Int → Option Value} (e : ∀ x, f' x = f x) : MpI w b sz f' := by obtain ⟨F, h1, h2⟩ := h; exact ⟨F, h1, fun x => (h2 x).trans (e x).symm⟩
theorem MpI.new (w : World) : MpI (w.alloc (.map #[] 0)) w.heap.size 0 (fun _ => none) := ⟨_, MpV.new _ w, fun _ => rfl⟩
theorem MpI.store (h : MpI w b sz f) {t e : TypeId} (ht : Try.prog.underlying t = some (.map 3 e)) {x : Int} (hx : (Lit.int .i64 x).wf = true) (hsz : sz ≤ 100000000) (z : Value) :
  ∃ w', (Instr.mapUpdate t (.map (some b)) (.int .i64 x) z).run Try.prog w = .ok () w' ∧ MpI w' b (if (f x).isSome = true then sz else sz + 1) (fun y => if y = x then some z else f y) ∧ w.grownBy w' (some b) := by
 obtain ⟨F, h1, h2⟩ := h
 obtain ⟨w', q1, q2, q3⟩ := h1.store keyedI' ht (keyI' hx) trivial hsz z
 rw [h2 x] at q2
 refine ⟨w', q1, ⟨_, q2, fun y => ?_⟩, q3⟩
 simp only [updV]
 by_cases e : y = x
 ·rw [if_pos (by rw [e]), if_pos e]
 ·rw [if_neg (fun h => e (by injection h)), if_neg e]; exact h2 y
end
def MpS (w : World) (b sz : Nat) (f : ByteArray → Option Value) : Prop := ∃ F, MpV 9 w b sz F ∧ ∀ x : ByteArray, F (.string x.data.toList) = f x
section
variable {w w' : World} {b sz : Nat} {f : ByteArray → Option Value}
theorem MpS.same (h : MpS w b sz f) (hb : w'.heap[b]? = w.heap[b]?) : MpS w' b sz f := by obtain ⟨F, h1, h2⟩ := h; exact ⟨F, h1.same hb, h2⟩
theorem MpS.lt (h : MpS w b sz f) : b < w.heap.size := by obtain ⟨F, h1, _⟩ := h; exact h1.lt
theorem MpS.of (h : MpS w b sz f) {f' : ByteArray → Option Value} (e : ∀ x, f' x = f x) : MpS w b sz f' := by obtain ⟨F, h1, h2⟩ := h; exact ⟨F, h1, fun x => (h2 x).trans (e x).symm⟩
theorem MpS.new (w : World) : MpS (w.alloc (.map #[] 0)) w.heap.size 0 (fun _ => none) := ⟨_, MpV.new _ w, fun _ => rfl⟩
end
end Go.Proofs.Ytgnjifdaccphhaa
namespace Go.Proofs.Ytgnjifdaccphhaa
open Go.RowKit Go.Maps
open Lz (g)
open Cur
theorem eql_nil (w : World) (a : Option Addr) (n c : Nat) : (binOp .eql 35 (.slice a n c) (.slice none 0 0)).run Try.prog w = .ok (.bool a.isNone) w := by
 simp only [binOp]
 simp [run_equal_slice_nil w 35 5 a n c Try.underlying35]
structure New (w w' : World) (ao : Option Addr) (n c : Nat) (zs : List Int) : Prop where
 bs : Bs w' ao n zs
 cap : n ≤ c
 max : c ≤ 9223372036854775807
 nil : ao = none → c = 0
 bel : Below w.heap.size w w'
 own : ∀ a, ao = some a → w.heap.size ≤ a.block ∧ a = ⟨a.block, 0, none⟩ ∧ ∃ cur t, w'.heap[a.block]? = some (.cells cur t (0, 0))
theorem New.none (w : World) : New w w none 0 0 [] := ⟨⟨rfl, fun i => by simp [g], .inl rfl⟩, Nat.le_refl _, by omega, fun _ => rfl, Below.refl _ _, fun a h => by simp at h⟩
theorem New.of_owns {w w' : World} {B n c : Nat} {ao : Option Addr} {zs : List Int} (h : w'.ownsRow B 5 1 (.slice ao n c) n (bv zs)) (hb : Bytes zs) (hB : w.heap.size ≤ B) (hbel : Below w.heap.size w w') : New w w' ao n c zs := by
 refine ⟨bs_of_owns h hb, cap_of_owns h, ?_, nil_cap h, hbel, fun a ha => ?_⟩
 ·rcases h.2 with ⟨e, _⟩ | ⟨_, _, _, e, _, _, _, h, _⟩
  ·simp at e; omega
  ·simp at e; unfold maxLen at h; omega
 ·rcases h.2 with ⟨e, _⟩ | ⟨gb, _, cur, e, hg, hgg, _⟩
  ·simp at e; rw [e.1] at ha; simp at ha
  ·simp at e; rw [e.1] at ha; cases ha; exact ⟨Nat.le_trans hB hg, rfl, cur, _, hgg⟩
theorem New.from {w0 w w' : World} {ao : Option Addr} {n c : Nat} {zs : List Int} (h : New w w' ao n c zs) (hb : Below w0.heap.size w0 w) : New w0 w' ao n c zs :=
 ⟨h.bs, h.cap, h.max, h.nil, hb.trans (h.bel.mono hb.size), fun a ha => by have := h.own a ha; exact ⟨Nat.le_trans hb.size this.1, this.2⟩⟩
theorem New.on {w w' w2 : World} {ao : Option Addr} {n c : Nat} {zs : List Int} (h : New w w' ao n c zs) (hb : Below w'.heap.size w' w2) : New w w2 ao n c zs :=
 ⟨h.bs.below hb, h.cap, h.max, h.nil, h.bel.trans (hb.mono h.bel.size), fun a ha => by
  obtain ⟨h1, h2, cur, t, h3⟩ := h.own a ha
  exact ⟨h1, h2, cur, t, by rw [hb.block _ (heap_lt h3)]; exact h3⟩⟩
set_option maxRecDepth 100000 in
theorem CloneNew_any (n c : Nat) (ao : Option Addr) (zs : List Int) (w : World) (hb : Bs w ao n zs) (hc : n ≤ c) (hnil : ao = none → c = 0) (hn : n ≤ 100000000) :
  Calls Try.prog 46 #[.slice ao n c] w fun r w' => ∃ ao' c', r = .returned (.slice ao' n c') ∧ New w w' ao' n c' zs := by
 cases ao with
 | none =>
  obtain rfl : c = 0 := hnil rfl
  obtain rfl : n = 0 := by omega
  obtain rfl : zs = [] := List.eq_nil_of_length_eq_zero hb.1
  have H : Hid (New w w none 0 0 []) := New.none w
  clear hb hnil
  have hq : ∀ w : World, (binOp .eql 35 (.slice none 0 0) (.slice none 0 0)).run Try.prog w = .ok (.bool true) w := fun w => eql_nil w none 0 0
  go_enter Try.func46, Try.ntmps46
  go_wp2
  go_ret
  exact ⟨_, _, rfl, H.out⟩
 | some a =>
  clear hnil
  have hq : ∀ w : World, (binOp .eql 35 (.slice (some a) n c) (.slice none 0 0)).run Try.prog w = .ok (.bool false) w := fun w => eql_nil w (some a) n c
  have ho := emptyB (w := w) (Nat.le_refl _)
  have hb2 := hb.alloc (.cells #[] 5)
  go_enter Try.func46, Try.ntmps46
  go_wp2_with (first
   | (at_builtin; refine wpList_append_bs _ rfl (.tmp 5) (.tmp 6) rfl w.heap.size _ _ _ _ rfl ho _ n c zs rfl hb2 (fun h => by simp at h) (by omega) (by simp) ?_; intro ao' c' w1 ho1 hg1))
  go_ret
  have hz : 0 + n = n := by omega
  rw [hz] at ho1
  rw [List.nil_append] at ho1
  exact ⟨_, _, rfl, New.of_owns ho1 hb.bytes (Nat.le_refl _) ((((Below.refl _ w).alloc (Nat.le_refl _) _)).grown hg1 (by simp) (fun k e => (ho.lt k e).1))⟩
end Go.Proofs.Ytgnjifdaccphhaa
namespace Go.Proofs.Ytgnjifdaccphhaa
open Go.RowKit Go.Maps
open Lz (g)
open Cur
end Go.Proofs.Ytgnjifdaccphhaa
namespace Go.Proofs.Ytgnjifdaccphhaa
open Go.RowKit Go.Maps
open Lz (g)
open Cur
end Go.Proofs.Ytgnjifdaccphhaa
namespace Go.Proofs.Ytgnjifdaccphhaa
open Go.RowKit Go.Maps
open Lz (g)
open Cur
end Go.Proofs.Ytgnjifdaccphhaa

/- What the proof stands on: Base, MapK, TreStabP, CurState, CurLeaf, CurRead, CurWrite, CurDead, with what the proof reaches of it. -/
import Derived.Test.YtoohanojfoichaaGreatDoorRows
import Derived.WalkKit
import Derived.WalkSpells
import Derived.WalkLawsBesides
import Derived.BigQuiet
import Derived.Deep.QuietTactic
import Derived.Deep.AppendLies
import Derived.Maps.AppendAt
import Derived.Laws.BytesArg
import Derived.Lib.SlBytesConst
import Derived.OpenShut
import Derived.Laws.AppendOwnNone
import Derived.Deep.RegionHeld3
import Derived.Maps.OwnSet
import Derived.Maps.Views
import Derived.Carry

/- What all layers' walks stand on: bytes in memory, rows of bytes of the call's own, frames by the element's type, bytes as a string. Nothing here speaks of one function of the program. -/
namespace Go.Proofs.YtoohanojfoichaaGreatDoor.Lz
/-- The number at a place; 0 where there is none. -/
def g (zs : List Int) (i : Nat) : Int := zs.getD i 0
theorem g_lt (zs : List Int) (i : Nat) (h : i < zs.length) : g zs i = zs[i] := by simp [g, h]
theorem g_drop (zs : List Int) (k i : Nat) : g (zs.drop k) i = g zs (k + i) := by simp [g]
theorem g_take (zs : List Int) (k i : Nat) (h : i < k) : g (zs.take k) i = g zs i := by simp [g, h]
theorem g_append_left (xs ys : List Int) (i : Nat) (h : i < xs.length) : g (xs ++ ys) i = g xs i := by simp [g, List.getElem?_append, h]
end Go.Proofs.YtoohanojfoichaaGreatDoor.Lz
namespace Go.Proofs.YtoohanojfoichaaGreatDoor
set_option linter.unusedVariables false
open Go.RowKit Go.Maps
open Lz (g)

/-- The cells from ⟨b, off⟩ on hold the bytes zs. -/
def Seg (w : World) (b off : Nat) (zs : List Int) : Prop := ∀ i, i < zs.length → w.cell? ⟨b, off + i, none⟩ = some (.int .u8 (g zs i))
theorem Seg.drewN {w : World} {b off : Nat} {zs : List Int} (h : Seg w b off zs) (n : Nat) : Seg (w.drewN n) b off zs := fun i hi => by rw [← h i hi]; simp
theorem dr2 (w : World) (n m : Nat) : ∃ k, (w.drewN n).drewN m = w.drewN k := ⟨n + m, by simp⟩
theorem ret_int {a b : Int} (h : a = b) : Ending.returned (.int .i64 a) = .returned (.int .i64 b) := by rw [h]
theorem ret_nat {a b : Nat} (h : a = b) : Ending.returned (.int .i64 (a : Int)) = .returned (.int .i64 (b : Int)) := by rw [h]
theorem infoByte : (Tryz.prog.info? 5).map (fun i => (i.zero, i.size, i.bytes)) = some (some (.int .u8 0), 1, 1) := by kernel_rfl
/-- Blocks of cells of the type e are as they were. -/
def KeepT (e : TypeId) (w w' : World) : Prop := ∀ (i : Nat) (cur : Array Value) (fz : Nat × Nat), w.heap[i]? = some (Obj.cells cur e fz) → w'.heap[i]? = some (Obj.cells cur e fz)
/-- All blocks but those of cells of the type e are as they were. -/
def KeepN (e : TypeId) (w w' : World) : Prop := ∀ (i : Nat) (o : Obj), w.heap[i]? = some o → (∀ cur fz, o ≠ Obj.cells cur e fz) → w'.heap[i]? = some o
theorem heap_lt {w : World} {i : Nat} {o : Obj} (h : w.heap[i]? = some o) : i < w.heap.size := (Array.getElem?_eq_some_iff.1 h).1
theorem KeepT.refl (e : TypeId) (w : World) : KeepT e w w := fun _ _ _ h => h
theorem KeepT.trans {e : TypeId} {a b c : World} (h : KeepT e a b) (k : KeepT e b c) : KeepT e a c := fun i cur fz hi => k i cur fz (h i cur fz hi)
theorem KeepT.drewN {e : TypeId} {a w : World} (h : KeepT e a w) (n : Nat) : KeepT e a (w.drewN n) := h
theorem KeepT.alloc {e : TypeId} {a w : World} (h : KeepT e a w) (o : Obj) : KeepT e a (w.alloc o) := fun i cur fz hi => by
  have := h i cur fz hi
  rw [Below.heap_alloc w o i (heap_lt this)]; exact this
theorem KeepT.setCell {e : TypeId} {a w : World} (h : KeepT e a w) {p : Addr} (u : Value) (hp : ∀ cur fz, w.heap[p.block]? ≠ some (Obj.cells cur e fz)) : KeepT e a (w.setCell p u) := fun i cur fz hi => by
  have := h i cur fz hi
  rw [Below.heap_setCell _ _ _ _ (fun ei => by subst ei; exact hp _ _ this)]; exact this
theorem KeepT.grown {e : TypeId} {a w w' : World} (h : KeepT e a w) {row : Option Nat} (hg : w.grownBy w' row) (hr : ∀ k, row = some k → ∀ cur fz, w.heap[k]? ≠ some (Obj.cells cur e fz)) : KeepT e a w' := fun i cur fz hi => by
  have := h i cur fz hi
  rw [hg.block i (heap_lt this) (fun ei => hr i ei.symm _ _ this)]; exact this
theorem KeepT.owns {e : TypeId} {w w' : World} (h : KeepT e w w') {base size n : Nat} {v : Value} {xs : List Value} (ho : w.ownsRow base e size v n xs) : w'.ownsRow base e size v n xs := by
  refine ⟨ho.1, ?_⟩
  rcases ho.2 with hn | ⟨g, cap, cur, rfl, hb, hgg, rest⟩
  · exact .inl hn
  · exact .inr ⟨g, cap, cur, rfl, hb, h _ _ _ hgg, rest⟩
theorem KeepN.refl (e : TypeId) (w : World) : KeepN e w w := fun _ _ h _ => h
theorem KeepN.alloc {e : TypeId} {a w : World} (h : KeepN e a w) (x : Obj) : KeepN e a (w.alloc x) := fun i o hi ho => by
  have := h i o hi ho
  rw [Below.heap_alloc w x i (heap_lt this)]; exact this
theorem KeepN.grown {e : TypeId} {a w w' : World} (h : KeepN e a w) {base n : Nat} {size : Nat} {v : Value} {xs : List Value} (ho : w.ownsRow base e size v n xs) (hg : w.grownBy w' v.ownBlock) : KeepN e a w' := fun i o hi hne => by
  have := h i o hi hne
  rw [hg.block i (heap_lt this) (fun ei => ?_)]
  · exact this
  · rcases ho.2 with ⟨rfl, _⟩ | ⟨g, cap, cur, rfl, _, hgg, _⟩
    · simp [Value.ownBlock] at ei
    · simp [Value.ownBlock] at ei
      subst ei
      rw [this] at hgg
      exact hne _ _ (Option.some.inj hgg)
theorem owns_shape {w : World} {base e size n : Nat} {v : Value} {xs : List Value} (h : w.ownsRow base e size v n xs) : ∃ ao c, v = .slice ao n c := by
  rcases h.2 with ⟨rfl, rfl⟩ | ⟨g, cap, cur, rfl, _⟩
  · exact ⟨_, _, rfl⟩
  · exact ⟨_, _, rfl⟩
theorem owns_ne {w : World} {base e size n p : Nat} {v : Value} {xs : List Value} {o : Obj} (h : w.ownsRow base e size v n xs) (hp : w.heap[p]? = some o) (ho : ∀ cur fz, o ≠ Obj.cells cur e fz) : some p ≠ v.ownBlock := by
  rcases h.2 with ⟨rfl, _⟩ | ⟨g, cap, cur, rfl, _, hgg, _⟩
  · simp [Value.ownBlock]
  · intro e'
    simp [Value.ownBlock] at e'
    subst e'
    rw [hp] at hgg
    exact ho _ _ (Option.some.inj hgg)
/-- The slice at ao, n long, holds the bytes zs. -/
def Bs (w : World) (ao : Option Addr) (n : Nat) (zs : List Int) : Prop :=
  zs.length = n ∧ (∀ i, 0 ≤ g zs i ∧ g zs i ≤ 255) ∧ (n = 0 ∨ ∃ b off, ao = some ⟨b, off, none⟩ ∧ b < w.heap.size ∧ Seg w b off zs)
theorem Seg.below {w w' : World} {B b off : Nat} {zs : List Int} (h : Seg w b off zs) (hb : Below B w w') (hlt : b < B) : Seg w' b off zs := fun i hi => (hb.cell (by exact hlt)).trans (h i hi)
theorem Bs.below {w w' : World} {ao : Option Addr} {n : Nat} {zs : List Int} (h : Bs w ao n zs) (hb : Below w.heap.size w w') : Bs w' ao n zs := by
  refine ⟨h.1, h.2.1, ?_⟩
  rcases h.2.2 with h0 | ⟨b, off, h1, h2, h3⟩
  · exact .inl h0
  · exact .inr ⟨b, off, h1, Nat.lt_of_lt_of_le h2 hb.size, h3.below hb h2⟩
theorem Seg.cut {w : World} {b off : Nat} {zs : List Int} (h : Seg w b off zs) (lo hi : Nat) : Seg w b (off + lo) ((zs.take hi).drop lo) := fun i hj => by
  simp only [List.length_drop, List.length_take] at hj
  rw [Lz.g_drop, Lz.g_take _ _ _ (by omega), Nat.add_assoc]
  exact h (lo + i) (by omega)
theorem bytes_drop {zs : List Int} (h : ∀ i, 0 ≤ g zs i ∧ g zs i ≤ 255) (lo : Nat) : ∀ i, 0 ≤ g (zs.drop lo) i ∧ g (zs.drop lo) i ≤ 255 := fun i => by
  rw [Lz.g_drop]; exact h _
theorem bytes_take {zs : List Int} (h : ∀ i, 0 ≤ g zs i ∧ g zs i ≤ 255) (hi : Nat) : ∀ i, 0 ≤ g (zs.take hi) i ∧ g (zs.take hi) i ≤ 255 := fun i => by
  by_cases e : i < hi
  · rw [Lz.g_take _ _ _ e]; exact h _
  · have : g (zs.take hi) i = 0 := by simp [g, List.getElem?_take, e]
    rw [this]; omega
theorem bytes_cut {zs : List Int} (h : ∀ i, 0 ≤ g zs i ∧ g zs i ≤ 255) (lo hi : Nat) : ∀ i, 0 ≤ g ((zs.take hi).drop lo) i ∧ g ((zs.take hi).drop lo) i ≤ 255 := bytes_drop (bytes_take h hi) lo
/-- Numbers as bytes' values. -/
def bv (xs : List Int) : List Value := xs.map (Value.int .u8)
theorem bv_append (xs ys : List Int) : bv (xs ++ ys) = bv xs ++ bv ys := by simp [bv]
theorem bv_length (xs : List Int) : (bv xs).length = xs.length := by simp [bv]
/-- The slice holds the bytes, in a block below B. -/
def BsB (w : World) (B : Nat) (ao : Option Addr) (n : Nat) (zs : List Int) : Prop :=
  zs.length = n ∧ (∀ i, 0 ≤ g zs i ∧ g zs i ≤ 255) ∧ (n = 0 ∨ ∃ b off, ao = some ⟨b, off, none⟩ ∧ b < B ∧ Seg w b off zs)
theorem BsB.below {w w' : World} {B : Nat} {ao : Option Addr} {n : Nat} {zs : List Int} (h : BsB w B ao n zs) (hb : Below B w w') : BsB w' B ao n zs := by
  refine ⟨h.1, h.2.1, ?_⟩
  rcases h.2.2 with h0 | ⟨b, off, h1, h2, h3⟩
  · exact .inl h0
  · exact .inr ⟨b, off, h1, h2, h3.below hb h2⟩
theorem news_seg {w : World} {b off : Nat} {l : List Int} (h : Seg w b off l) (k : Nat) : ∀ j u, (bv (l.take k))[j]? = some u → w.cell? ((⟨b, off, none⟩ : Addr).add j) = some u := by
  intro j u hu
  have hj : j < (l.take k).length := by
    have := (List.getElem?_eq_some_iff.1 hu).1
    simpa [bv] using this
  rw [Addr.add_lit, h j (by simp at hj; omega)]
  have e : (bv (l.take k))[j]? = some (.int .u8 (g (l.take k) j)) := by
    unfold bv
    rw [List.getElem?_map, List.getElem?_eq_getElem hj, Lz.g_lt _ _ hj]; rfl
  rw [e] at hu
  rw [← Lz.g_take l k j (by simp at hj; omega)]
  exact hu
theorem bv_one (xs : List Int) : ∀ u ∈ bv xs, u.oneCell' = true := ints_oneCell .u8 xs
/-- Behind an append to a row of bytes of the call's own. -/
theorem grow_step {a w w1 : World} {B n : Nat} {v : Value} {xs : List Value} {o : Obj} (hbel : Below B a w) (hkeep : KeepN 5 a w) (hB : B ≤ w.heap.size) (ho : w.ownsRow B 5 1 v n xs) (hg : (w.alloc o).grownBy w1 v.ownBlock) :
    Below B a w1 ∧ KeepN 5 a w1 ∧ Below B w w1 := by
  have h1 : Below B w w1 := ((Below.refl B w).alloc hB o).grown hg (by simp; omega) (fun k e => (ho.lt k e).1)
  exact ⟨hbel.trans h1, (hkeep.alloc o).grown (ho.alloc o) hg, h1⟩
theorem grow_step0 {a w w1 : World} {B n : Nat} {v : Value} {xs : List Value} (hbel : Below B a w) (hkeep : KeepN 5 a w) (hB : B ≤ w.heap.size) (ho : w.ownsRow B 5 1 v n xs) (hg : w.grownBy w1 v.ownBlock) :
    Below B a w1 ∧ KeepN 5 a w1 ∧ Below B w w1 := by
  have h1 : Below B w w1 := (Below.refl B w).grown hg hB (fun k e => (ho.lt k e).1)
  exact ⟨hbel.trans h1, hkeep.grown ho hg, h1⟩
theorem grown_alloc {w w1 : World} {row : Option Nat} {o : Obj} (h : (w.alloc o).grownBy w1 row) : w.grownBy w1 row :=
  ⟨h.os, h.tape, h.output, Nat.le_trans (by simp) h.size, fun k hk hne => (h.block k (by simp; omega) hne).trans (Below.heap_alloc w o k hk)⟩
theorem Bs.toB {w : World} {ao : Option Addr} {n : Nat} {zs : List Int} (h : Bs w ao n zs) : BsB w w.heap.size ao n zs := h
theorem BsB.cut {w : World} {B b off : Nat} {zs : List Int} (hs : Seg w b off zs) (hb : b < B) (hby : ∀ i, 0 ≤ g zs i ∧ g zs i ≤ 255) (lo hi n : Nat) (hn : n = hi - lo) (hh : hi ≤ zs.length) : BsB w B (some ⟨b, off + lo, none⟩) n ((zs.take hi).drop lo) := by
  refine ⟨by simp; omega, bytes_cut hby lo hi, ?_⟩
  exact .inr ⟨b, off + lo, rfl, hb, hs.cut lo hi⟩
/-- The rest of a slice, wherever it is cut. -/
theorem BsB.rest {w : World} {B n cap : Nat} {ao : Option Addr} {zs : List Int} (h : BsB w B ao n zs) (lo : Nat) (hlo : lo ≤ n) (hc : n ≤ cap) : BsB w B (if cap = lo then ao else Option.map (fun x => x.add lo) ao) (n - lo) (zs.drop lo) := by
  obtain ⟨hz, hby, h0⟩ := h
  refine ⟨by simp [hz], bytes_drop hby lo, ?_⟩
  by_cases e : n = lo
  · exact .inl (by omega)
  · rcases h0 with h0 | ⟨b, off, rfl, hb, hs⟩
    · omega
    · refine .inr ⟨b, off + lo, ?_, hb, ?_⟩
      · rw [if_neg (by omega)]; simp [Addr.add_lit]
      · have := hs.cut lo n
        rw [List.take_of_length_le (by omega)] at this
        exact this
theorem emptyB {w : World} {B : Nat} (hB : B ≤ w.heap.size) : (w.alloc (.cells #[] 5)).ownsRow B 5 1 (.slice (some ⟨w.heap.size, 0, none⟩) 0 0) 0 (bv []) :=
  ⟨rfl, .inr ⟨w.heap.size, 0, #[], rfl, hB, heap_alloc_new w _, Nat.le_refl _, by unfold maxLen; omega, rfl, rfl⟩⟩
theorem grown_drewN {w w1 : World} {nq : Nat} {row : Option Nat} (h : (w.drewN nq).grownBy w1 row) : w.grownBy w1 row := ⟨h.os, h.tape, h.output, h.size, h.block⟩
theorem owns_below {w w' : World} {B e size n : Nat} {v : Value} {xs : List Value} (h : w.ownsRow B e size v n xs) (hb : Below w.heap.size w w') : w'.ownsRow B e size v n xs := by
  refine ⟨h.1, ?_⟩
  rcases h.2 with hn | ⟨g, cap, cur, rfl, hg, hgg, rest⟩
  · exact .inl hn
  · exact .inr ⟨g, cap, cur, rfl, hg, by rw [hb.block g (heap_lt hgg)]; exact hgg, rest⟩
def Bytes (zs : List Int) : Prop := ∀ x ∈ zs, 0 ≤ x ∧ x ≤ 255
theorem Bytes.g {zs : List Int} (h : Bytes zs) : ∀ i, 0 ≤ Lz.g zs i ∧ Lz.g zs i ≤ 255 := fun i => by
  unfold Lz.g
  by_cases hi : i < zs.length
  · simp only [List.getD, List.getElem?_eq_getElem hi, Option.getD_some]
    exact h _ (List.getElem_mem hi)
  · simp only [List.getD, List.getElem?_eq_none (by omega : zs.length ≤ i), Option.getD_none]; omega
theorem Bytes.of_g {zs : List Int} (h : ∀ i, 0 ≤ Lz.g zs i ∧ Lz.g zs i ≤ 255) : Bytes zs := fun x hx => by
  obtain ⟨i, hi, rfl⟩ := List.getElem_of_mem hx
  have := h i
  rw [Lz.g_lt zs i hi] at this
  exact this
theorem Bytes.append {a b : List Int} (h : Bytes a) (k : Bytes b) : Bytes (a ++ b) := fun x hx => by
  rcases List.mem_append.1 hx with h1 | h1
  · exact h x h1
  · exact k x h1
theorem Bytes.take {a : List Int} (h : Bytes a) (n : Nat) : Bytes (a.take n) := fun x hx => h x (List.mem_of_mem_take hx)
theorem Bytes.drop {a : List Int} (h : Bytes a) (n : Nat) : Bytes (a.drop n) := fun x hx => h x (List.mem_of_mem_drop hx)
theorem bs_of_owns {w : World} {B n c : Nat} {ao : Option Addr} {zs : List Int} (h : w.ownsRow B 5 1 (.slice ao n c) n (bv zs)) (hb : Bytes zs) : Bs w ao n zs := by
  have hlen : zs.length = n := by have := h.1; rw [bv_length] at this; omega
  refine ⟨hlen, hb.g, ?_⟩
  by_cases e : n = 0
  · exact .inl e
  · obtain ⟨gb, c', hv, _, hlt⟩ := h.form (by omega)
    obtain ⟨rfl, _, rfl⟩ : ao = some ⟨gb, 0, none⟩ ∧ n = n ∧ c = c' := by simpa using hv
    refine .inr ⟨gb, 0, rfl, hlt, fun i hi => ?_⟩
    rw [Nat.zero_add, h.cellAt i (by omega)]
    unfold bv
    rw [List.getElem?_map, List.getElem?_eq_getElem hi, Lz.g_lt _ _ hi]; rfl
theorem cap_of_owns {w : World} {B n c e : Nat} {ao : Option Addr} {xs : List Value} (h : w.ownsRow B e 1 (.slice ao n c) n xs) : n ≤ c := by
  rcases h.2 with ⟨e, _⟩ | ⟨_, _, _, e, _, _, h, _⟩
  · simp at e; omega
  · simp at e; omega
theorem str_any {w : World} {ao : Option Addr} {n : Nat} {zs : List Int} (h : Bs w ao n zs) (c : Nat) : (convert 25 9 (.slice ao n c)).run Tryz.prog w = .ok (.string (strOfNums zs)) w := by
  obtain ⟨hz, _, h0⟩ := h
  rcases h0 with h0 | ⟨b, off, rfl, _, hs⟩
  · subst h0
    have : zs = [] := List.eq_nil_of_length_eq_zero hz
    subst this
    cases ao with
    | none => exact run_convert_bytes_nil w _ _ Tryz.underlying25 Tryz.underlying5 0 c _ Tryz.underlying9
    | some a =>
      rw [run_convert_bytes_string w _ _ _ _ 0 c Tryz.underlying25 Tryz.underlying5 Tryz.underlying9, run_bytesToString w a 0 c [] (by simp [loadCells, loadCellsFrom])]
      rfl
  · exact run_convert_bytes_arg w _ _ Tryz.underlying25 Tryz.underlying5 b off n c zs hz (fun i hi => hs i (by omega)) _ Tryz.underlying9
/-- Bytes that were just laid down. -/
theorem bs_new (w : World) (fz : Nat × Nat) (zs : List Int) (hb : Bytes zs) : Bs (w.alloc (.cells (bv zs).toArray 5 fz)) (some ⟨w.heap.size, 0, none⟩) zs.length zs := by
  refine ⟨rfl, hb.g, .inr ⟨w.heap.size, 0, rfl, by simp, fun i hi => ?_⟩⟩
  rw [Nat.zero_add, cell_of_row _ w.heap.size i _ _ _ (heap_alloc_new w _)]
  simp [bv, Lz.g_lt _ _ hi, hi]
/-- A slice of bytes that came in. -/
def RowB (w : World) (a : Option Addr) (len cap : Nat) (zs : List Int) : Prop :=
  (a = none ∧ len = 0 ∧ cap = 0 ∧ zs = []) ∨
  ∃ x, a = some x ∧ len ≤ cap ∧ cap ≤ maxLen ∧ zs.length = cap ∧ (∀ i, i < zs.length → w.cell? (x.add i) = some (.int .u8 (zs.getD i 0))) ∧ ∀ n ∈ zs, (Lit.int .u8 n).wf = true
theorem wf_u8 {n : Int} (h : (Lit.int .u8 n).wf = true) : 0 ≤ n ∧ n ≤ 255 := by
  have := bounds_u8 h
  omega
theorem Bs.alloc {w : World} {ao : Option Addr} {n : Nat} {zs : List Int} (h : Bs w ao n zs) (o : Obj) : Bs (w.alloc o) ao n zs := h.below ((Below.refl _ _).alloc (Nat.le_refl _) o)
/-- Its first m bytes. -/
theorem RowB.bs {w : World} {a : Option Addr} {len cap : Nat} {zs : List Int} (h : RowB w a len cap zs) (m : Nat) (hm : m ≤ len) : Bs w a m (zs.take m) ∧ len ≤ cap ∧ cap ≤ 9223372036854775807 ∧ Bytes (zs.take m) ∧ (a = none → cap = 0) := by
  rcases h with ⟨rfl, rfl, rfl, rfl⟩ | ⟨x, rfl, hl, hc, hz, hcell, hwf⟩
  · obtain rfl : m = 0 := by omega
    exact ⟨⟨rfl, fun i => by simp [g], .inl rfl⟩, by omega, by omega, fun x hx => by simp at hx, fun _ => rfl⟩
  · have hb : Bytes zs := fun n hn => wf_u8 (hwf n hn)
    refine ⟨⟨by simp; omega, (hb.take m).g, ?_⟩, hl, by unfold maxLen at hc; omega, hb.take m, fun e => by simp at e⟩
    by_cases e : m = 0
    · exact .inl e
    · obtain ⟨b, off, spot⟩ := x
      have hc0 := hcell 0 (by omega)
      have hspot : spot = none := by simpa [Addr.add] using World.cell?_spot hc0
      subst hspot
      have hlt : b < w.heap.size := by
        have := World.block_lt_of_cell? w _ hc0
        simpa [Addr.add] using this
      refine .inr ⟨b, off, rfl, hlt, fun i hi => ?_⟩
      simp at hi
      rw [Lz.g_take _ _ _ (by omega)]
      have := hcell i (by omega)
      rw [Addr.add_lit] at this
      exact this
theorem Bytes.nil : Bytes [] := fun x hx => by simp at hx
/-- 'append' to a row of bytes of the call's own, of bytes wherever they lie, none too. -/
theorem wpList_append_bs (w : World) {ops : Array Oper} {rest : List Oper} {o : Oper} {a : Act} {Q : Exit → Act → World → Prop} (hgd : o.guard = none) (s x : Operand)
    (ho : o.op = .call { callee := .builtin .append, args := #[s, x], argTypes := #[25, 25] })
    (base : Nat) (vo : Option Addr) (n vc : Nat) (xs : List Int) (hs : a.eval s = .slice vo n vc) (hown : w.ownsRow base 5 1 (.slice vo n vc) n (bv xs))
    (ao : Option Addr) (m c : Nat) (zs : List Int) (hx : a.eval x = .slice ao m c) (hb : Bs w ao m zs) (hnil : ao = none → c = 0)
    (hbd : n + m ≤ 100000000) (hbase : base ≤ w.heap.size)
    (h : ∀ ao' c' w', w'.ownsRow base 5 1 (.slice ao' (n + m) c') (n + m) (bv (xs ++ zs)) → w.grownBy w' (Value.slice vo n vc).ownBlock → wpList Tryz.prog ops Q rest (a.put o.dst (.slice ao' (n + m) c')) w') :
    wpList Tryz.prog ops Q (o :: rest) a w := by
  obtain ⟨i0, hi, hz0, hz1, hz2⟩ := info_parts infoByte
  obtain ⟨hz, hby, h0⟩ := hb
  cases ao with
  | none =>
    obtain rfl : c = 0 := hnil rfl
    obtain rfl : m = 0 := by
      rcases h0 with h0 | ⟨b, off, h1, _⟩
      · exact h0
      · simp at h1
    obtain rfl : zs = [] := List.eq_nil_of_length_eq_zero hz
    refine wpList_append_own_none hgd s x _ ho base 5 i0 1 Tryz.underlying25 hi _ n (bv xs) hs hown hx ?_
    have := h vo vc w (by simpa using hown) (World.grownBy.refl _ _)
    simpa using this
  | some ad =>
    refine wpList_append_own w hgd s x _ ho base 5 i0 (.int .u8 0) 1 1 Tryz.underlying25 hi hz0 hz1 hz2 rfl (by decide) _ n (bv xs) hs hown ad m c (bv zs) hx (by rw [bv_length]; omega) ?_ (bv_one _) (by unfold maxLen; omega) (by omega) hbase ?_
    · rcases h0 with h0 | ⟨b, off, h1, _, hseg⟩
      · have : zs = [] := List.eq_nil_of_length_eq_zero (by omega)
        subst this
        intro j u hu; simp [bv] at hu
      · obtain rfl := Option.some.inj h1
        have := news_seg hseg m
        rw [List.take_of_length_le (by omega)] at this
        exact this
    · intro v' w' h2 h3 _
      obtain ⟨ao', c', rfl⟩ := owns_shape h2
      exact h ao' c' w' (by rw [bv_append]; exact h2) h3
theorem nil_cap {w : World} {B n c e : Nat} {ao : Option Addr} {vs : List Value} (h : w.ownsRow B e 1 (.slice ao n c) n vs) : ao = none → c = 0 := fun hn => by
  subst hn
  rcases h.2 with ⟨e, _⟩ | ⟨_, _, _, e, _⟩
  · simp at e; omega
  · simp at e
theorem Bs.take {w : World} {ao : Option Addr} {n : Nat} {zs : List Int} (h : Bs w ao n zs) (k : Nat) (hk : k ≤ n) : Bs w ao k (zs.take k) := by
  obtain ⟨hz, hby, h0⟩ := h
  refine ⟨by simp; omega, bytes_take hby k, ?_⟩
  by_cases e : k = 0
  · exact .inl e
  · rcases h0 with h0 | ⟨b, off, h1, h2, h3⟩
    · omega
    · refine .inr ⟨b, off, h1, h2, ?_⟩
      have := h3.cut 0 k
      simpa using this
def half (K i : Nat) (c : Int) : List Int := List.replicate i c ++ List.replicate (K - i) 0
theorem half_zero (K : Nat) (c : Int) : (madeCells (Value.int .u8 0).cells (K * 1)).toList = bv (half K 0 c) := by
  rw [Nat.mul_one]
  show (madeCells #[Value.int .u8 0] K).toList = _
  rw [toList_madeCells_one]
  simp [half, bv]
theorem hide {p : Prop} (h : p) : Hid p := h
theorem ret_bool {a b : Bool} (h : a = b) : Ending.returned (.bool a) = .returned (.bool b) := by rw [h]
theorem enters (fn : Nat) {f : Func} {c : Code} (hf : Tryz.prog.funcs[fn]? = some f) (hname : (f.name == "runtime.NumGoroutine") = false) (hb : f.body = some c) : ∀ (args : Array Value) (w : World), (callFunc fn args).run Tryz.prog w = .ok (.enter fn args) w := fun args w => by
  have hn : ¬ f.name = "runtime.NumGoroutine" := by simpa using hname
  simp [callFunc, hf, hn, hb]
theorem heap_new {w : World} {o : Obj} {k : Nat} (h : k = w.heap.size) : (w.alloc o).heap[k]? = some o := by subst h; exact heap_alloc_new w o
theorem below_drewN {B : Nat} {a b : World} (h : Below B a b) (n : Nat) : Below B a (b.drewN n) := ⟨h.os, h.tape, h.output, h.size, h.block⟩
theorem below_one (w : World) (o : Obj) : Below w.heap.size w (w.alloc o) := (Below.refl _ _).alloc (Nat.le_refl _) o
theorem Bs.bytes {w : World} {ao : Option Addr} {n : Nat} {zs : List Int} (h : Bs w ao n zs) : Bytes zs := Bytes.of_g h.2.1
def In64 (x : Int) : Prop := -9223372036854775808 ≤ x ∧ x ≤ 9223372036854775807
theorem str_inj : ∀ {xs ys : List Int}, Bytes xs → Bytes ys → strOfNums xs = strOfNums ys → xs = ys := by
  intro xs ys hx hy h
  have h2 : xs.map (fun n => UInt8.ofNat n.toNat) = ys.map (fun n => UInt8.ofNat n.toNat) := by
    have := congrArg (fun b : ByteArray => b.data.toList) h
    simpa [strOfNums] using this
  clear h
  induction xs generalizing ys with
  | nil => cases ys with
    | nil => rfl
    | cons y ys => simp at h2
  | cons x xs ih => cases ys with
    | nil => simp at h2
    | cons y ys =>
      simp only [List.map_cons, List.cons.injEq] at h2
      have hx0 := hx x (by simp)
      have hy0 := hy y (by simp)
      have e := congrArg UInt8.toNat h2.1
      rw [UInt8.toNat_ofNat_of_lt' (by show x.toNat < 256; omega), UInt8.toNat_ofNat_of_lt' (by show y.toNat < 256; omega)] at e
      rw [ih (fun z hz => hx z (by simp [hz])) (fun z hz => hy z (by simp [hz])) h2.2]
      congr 1; omega
theorem str_eq {x y : List Int} (hx : Bytes x) (hy : Bytes y) : ((strOfNums x).toList == (strOfNums y).toList) = decide (x = y) := by
  rw [Bool.eq_iff_iff, beq_iff_eq, decide_eq_true_eq]
  refine ⟨fun h => str_inj hx hy ?_, fun h => by rw [h]⟩
  rw [ByteArray.toList_eq, ByteArray.toList_eq] at h
  exact ByteArray.ext (Array.toList_inj.1 h)
theorem results_cr2 {fn : Func} {p u : Tmp} {ty : TypeId} (h : fn.results = #[.cell p ty, .tmp u]) (tmps : Array Value) (w : World) (g : Nat) (cs : Array Value)
    (hp : tmps.getD p undef = .pointer (some ⟨g, 0, none⟩)) (hr : (loadVar ty ⟨g, 0, none⟩).run Tryz.prog w = .ok (.agg cs) w) :
    (results fn tmps).run Tryz.prog w = .ok (.tuple #[.agg cs, tmps.getD u undef]) w := by
  have hp' : tmps[p]?.getD undef = .pointer (some ⟨g, 0, none⟩) := by simpa using hp
  simp [results, h, hp', asAddr, hr]
theorem yieldsIf_load_row {ops : Array Oper} {S : World → Prop} {op : Oper} {a : Act} (hw : Region.wanted op (yielded ops a.tmps) = true) (ty : TypeId) (x : Operand) (ho : op.op = .load ty x)
    (b : Nat) (hx : a.eval x = .pointer (some ⟨b, 0, none⟩)) (cs : Array Value) (hS : ∀ w, S w → (loadVar ty ⟨b, 0, none⟩).run Tryz.prog w = .ok (.agg cs) w) : YieldsIf Tryz.prog ops S op (.agg cs) a :=
  .inl ⟨hw, fun w hw' => by
    unfold execOp
    simp only [ho, hx, Instr.loadAt, Instr.sureAddr, Sem.run_bind, Sem.run_pure, Result.andThen_ok, hS w hw']⟩
theorem owns_obj {w : World} {B e size n k : Nat} {v : Value} {xs : List Value} (h : w.ownsRow B e size v n xs) (hk : v.ownBlock = some k) : ∃ cur, w.heap[k]? = some (.cells cur e (0, 0)) := by
  rcases h.2 with ⟨rfl, _⟩ | ⟨g, cap, cur, rfl, _, hgg, _⟩
  · simp [Value.ownBlock] at hk
  · simp [Value.ownBlock] at hk
    subst hk
    exact ⟨cur, hgg⟩
/-- Blocks of two types are two. -/
theorem ne_obj {w : World} {a b : Nat} {cs cs' : Array Value} {t t' : TypeId} {f f' : Nat × Nat} (h : w.heap[a]? = some (.cells cs t f)) (k : w.heap[b]? = some (.cells cs' t' f')) (ht : t ≠ t') : a ≠ b := fun e => by
  subst e
  rw [h] at k
  injection k with k
  injection k with _ k2 _
  exact ht k2
end Go.Proofs.YtoohanojfoichaaGreatDoor

/- Maps of the call's own whose values are numbers, as functions of the key. -/
namespace Go.Proofs.YtoohanojfoichaaGreatDoor
set_option linter.unusedVariables false
open Go.RowKit Go.Maps

/-- How an entry reads: as itself. -/
def HV (v : Value) : Option (DataW Value × List MemPlace) := some (.held v, [])
/-- The map in block b has sz entries: those of f. -/
def MpK (k : TypeId) (w : World) (b sz : Nat) (f : Lit → Option Nat) : Prop :=
  ∃ D : DataW Value, w.ownsMap Tryz.prog k HV b sz D ∧ Maps.size D = sz ∧ ∀ kl, WideAt.IsKeyLit kl → has D kl = (f kl).isSome ∧ ∀ z, f kl = some z → D.atKey kl (.held (.int .i64 0)) = .held (.int .i64 (z : Int))
theorem MpK.same {k : TypeId} {w w' : World} {b sz : Nat} {f : Lit → Option Nat} (h : MpK k w b sz f) (hb : w'.heap[b]? = w.heap[b]?) : MpK k w' b sz f := by
  obtain ⟨D, ⟨es, clock, h1, h2⟩, h3⟩ := h
  exact ⟨D, ⟨es, clock, hb.trans h1, h2⟩, h3⟩
theorem MpK.lt {k : TypeId} {w : World} {b sz : Nat} {f : Lit → Option Nat} (h : MpK k w b sz f) : b < w.heap.size := by
  obtain ⟨D, h1, _⟩ := h
  exact h1.lt
theorem MpK.below {k : TypeId} {w w' : World} {b sz : Nat} {f : Lit → Option Nat} (h : MpK k w b sz f) (hb : Below w.heap.size w w') : MpK k w' b sz f :=
  h.same (hb.block b h.lt)
theorem mpk_new (k : TypeId) (w : World) : MpK k (w.alloc (.map #[] 0)) w.heap.size 0 (fun _ => none) :=
  ⟨.map [], World.ownsMap_made w _ _ _, rfl, fun kl _ => ⟨rfl, fun z hz => by cases hz⟩⟩
theorem MpK.len {k : TypeId} {w : World} {b sz : Nat} {f : Lit → Option Nat} (h : MpK k w b sz f) {t e : TypeId} (ht : Tryz.prog.underlying t = some (.map k e)) (ty : TypeId) : (Builtin.len_ #[t] ty #[.map (some b)]).run Tryz.prog w = .ok (.int .i64 (sz : Int)) w := by
  obtain ⟨D, h1, h2, _⟩ := h
  have := h1.len ht ty
  rw [h2] at this
  exact this
theorem zeroInt7 (w : World) : (zeroValue 3).run Tryz.prog w = .ok (.int .i64 0) w := by kernel_rfl
theorem MpK.look {k : TypeId} {w : World} {b sz : Nat} {f : Lit → Option Nat} (h : MpK k w b sz f) (K : Keyed Tryz.prog k) {t : TypeId} (ht : Tryz.prog.underlying t = some (.map k 3)) {key : Value} {kl : Lit} (hkey : keyOf Tryz.prog k key = some kl) (hk : WideAt.IsKeyLit kl) :
    (Instr.lookup t (.map (some b)) key true).run Tryz.prog w = .ok (.tuple #[.int .i64 (((f kl).getD 0 : Nat) : Int), .bool (f kl).isSome]) w := by
  obtain ⟨D, h1, _, h3⟩ := h
  obtain ⟨e1, e2⟩ := h3 kl hk
  obtain ⟨v, ps, hr, hv⟩ := h1.look_ok K ht (zeroInt7 w) (zd := .held (.int .i64 0)) (zp := []) rfl hkey
  rw [e1] at hr
  cases hf : f kl with
  | none =>
    rw [hf] at e1 hr
    rw [Maps.atKey_of_not_has e1] at hv
    simp [HV] at hv
    rw [hv.1] at hr
    exact hr
  | some z =>
    rw [hf] at hr
    rw [e2 z hf] at hv
    simp [HV] at hv
    rw [hv.1] at hr
    exact hr
/-- f with an entry more. -/
def upd (f : Lit → Option Nat) (kl : Lit) (z : Nat) : Lit → Option Nat := fun k => if k.sameKey kl = true then some z else f k
theorem upd_same (f : Lit → Option Nat) (kl : Lit) (z : Nat) (hk : WideAt.IsKeyLit kl) : upd f kl z kl = some z := by
  unfold upd; rw [if_pos (WideAt.sameKey_self hk)]
theorem upd_other (f : Lit → Option Nat) {kl k : Lit} (z : Nat) (h : k ≠ kl) : upd f kl z k = f k := by
  unfold upd; rw [if_neg (fun e => h (WideAt.sameKey_eq e))]
theorem tight {k : TypeId} {w : World} {b n : Nat} {D : DataW Value} (h : w.ownsMap Tryz.prog k HV b n D) : w.ownsMap Tryz.prog k HV b (Maps.size D) D := by
  obtain ⟨es, clock, h1, h2, h3, rfl⟩ := h
  refine ⟨es, clock, h1, h2, ?_, rfl⟩
  simp [Maps.size, length_sorted]
theorem MpK.store {k : TypeId} {w : World} {b sz : Nat} {f : Lit → Option Nat} (h : MpK k w b sz f) (K : Keyed Tryz.prog k) {t : TypeId} (ht : Tryz.prog.underlying t = some (.map k 3)) {key : Value} {kl : Lit} (hkey : keyOf Tryz.prog k key = some kl) (hk : WideAt.IsKeyLit kl) (hsz : sz ≤ 1000000) (z : Nat) :
    ∃ w', (Instr.mapUpdate t (.map (some b)) key (.int .i64 (z : Int))).run Tryz.prog w = .ok () w' ∧ MpK k w' b (if (f kl).isSome = true then sz else sz + 1) (upd f kl z) ∧ w.grownBy w' (some b) := by
  obtain ⟨D, h1, h2, h3⟩ := h
  obtain ⟨w', hr, hm, hg⟩ := h1.update K ht (by unfold maxLen; omega) hkey (show HV (.int .i64 (z : Int)) = some (.held _, []) from rfl)
  refine ⟨w', hr, ⟨D.put kl (.held (.int .i64 (z : Int))), ?_, ?_, fun k' hk' => ?_⟩, hg⟩
  · have := tight hm
    rw [Maps.size_put (h1.tidy K), (h3 kl hk).1, h2] at this
    exact this
  · rw [Maps.size_put (h1.tidy K), (h3 kl hk).1, h2]
  · by_cases e : k' = kl
    · subst e
      rw [upd_same _ _ _ hk]
      refine ⟨Maps.has_put_same h1.isMap hk _, fun y hy => ?_⟩
      cases hy
      exact Maps.atKey_put_same h1.isMap hk _ _
    · rw [upd_other _ _ e, Maps.has_put_other e]
      refine ⟨(h3 k' hk').1, fun y hy => ?_⟩
      rw [Maps.atKey_put_other e]
      exact (h3 k' hk').2 y hy
theorem keyStr (s : ByteArray) (hs : s.size ≤ maxLen) : keyOf Tryz.prog 9 (.string s) = some (.string s.data.toList) := by
  rw [keyOf_string Tryz.underlying9]
  simp [mapKey, Tryz.underlying9, hs]
theorem keyedStr : Keyed Tryz.prog 9 := string_keyed Tryz.underlying9
end Go.Proofs.YtoohanojfoichaaGreatDoor

/- Layer 7: a row of numbers, put in order as slices.SortStableFunc does it: the pure part (a row as a function of its place). -/
namespace Go.Proofs.YtoohanojfoichaaGreatDoor
set_option linter.unusedVariables false

namespace Stb
def swp (C : Nat → Nat) (i j : Nat) : Nat → Nat := fun k => if k = i then C j else if k = j then C i else C k
/-- Two stretches of n exchanged. -/
def swr (C : Nat → Nat) (a b n : Nat) : Nat → Nat := fun k => if a ≤ k ∧ k < a + n then C (k + (b - a)) else if b ≤ k ∧ k < b + n then C (k - (b - a)) else C k
/-- What lies from lo to m, and what lies from m to hi, exchanged. -/
def rot (C : Nat → Nat) (lo m hi : Nat) : Nat → Nat := fun k => if lo ≤ k ∧ k < lo + (hi - m) then C (k + (m - lo)) else if lo + (hi - m) ≤ k ∧ k < hi then C (k - (hi - m)) else C k
theorem swr_zero (C : Nat → Nat) (a b : Nat) : swr C a b 0 = C := by
  funext k
  unfold swr
  rw [if_neg (by omega), if_neg (by omega)]
theorem swr_succ (C : Nat → Nat) (a b n : Nat) (h : a + n < b) : swp (swr C a b n) (a + n) (b + n) = swr C a b (n + 1) := by
  funext k
  simp only [swp, swr]
  repeat' split
  all_goals first | rfl | (exfalso; omega) | (congr 1; omega)
theorem rot_gt (C : Nat → Nat) (i j m : Nat) (hi : i ≤ m) (h : j < i) : rot (swr C (m - i) m j) (m - (i - j)) m (m + j) = rot C (m - i) m (m + j) := by
  funext k
  simp only [rot, swr]
  repeat' split
  all_goals first | rfl | (exfalso; omega) | (congr 1; omega)
theorem rot_lt (C : Nat → Nat) (i j m : Nat) (hi : i ≤ m) (h : i < j) : rot (swr C (m - i) (m + j - i) i) (m - i) m (m + (j - i)) = rot C (m - i) m (m + j) := by
  funext k
  simp only [rot, swr]
  repeat' split
  all_goals first | rfl | (exfalso; omega) | (congr 1; omega)
theorem rot_eq (C : Nat → Nat) (i m : Nat) (hi : i ≤ m) : swr C (m - i) m i = rot C (m - i) m (m + i) := by
  funext k
  simp only [rot, swr]
  repeat' split
  all_goals first | rfl | (exfalso; omega) | (congr 1; omega)
theorem rot_none (C : Nat → Nat) (s m e : Nat) (h1 : s ≤ m) (h2 : m ≤ e) (h : s = m ∨ e = m) : rot C s m e = C := by
  funext k
  unfold rot
  repeat' split
  all_goals first | rfl | (exfalso; omega) | (congr 1; omega)
theorem rot_up (C : Nat → Nat) (a k : Nat) (h : a ≤ k) : swp (rot C a (a + 1) (k + 1)) k (k + 1) = rot C a (a + 1) (k + 2) := by
  funext x
  simp only [rot, swp]
  repeat' split
  all_goals first | rfl | (exfalso; omega) | (congr 1; omega)
theorem rot_down (C : Nat → Nat) (k m : Nat) (h : k < m) : swp (rot C (k + 1) m (m + 1)) (k + 1) k = rot C k m (m + 1) := by
  funext x
  simp only [rot, swp]
  repeat' split
  all_goals first | rfl | (exfalso; omega) | (congr 1; omega)
theorem rot_out (C : Nat → Nat) {s m e k : Nat} (h1 : s ≤ m) (h2 : m ≤ e) (h : k < s ∨ e ≤ k) : rot C s m e k = C k := by
  unfold rot
  rw [if_neg (by omega), if_neg (by omega)]
theorem rot_one (C : Nat → Nat) {s m e k : Nat} (h1 : s ≤ k) (h : k < s + (e - m)) : rot C s m e k = C (k + (m - s)) := by
  unfold rot
  rw [if_pos ⟨h1, h⟩]
theorem rot_two (C : Nat → Nat) {s m e k : Nat} (h1 : s + (e - m) ≤ k) (h : k < e) : rot C s m e k = C (k - (e - m)) := by
  unfold rot
  rw [if_neg (by omega), if_pos ⟨h1, h⟩]

def In (C : Nat → Nat) (a b x : Nat) : Prop := ∃ k, a ≤ k ∧ k < b ∧ C k = x
def Srd (lt : Nat → Nat → Prop) (C : Nat → Nat) (a b : Nat) : Prop := ∀ i j, a ≤ i → i < j → j < b → lt (C i) (C j)
def Idx (C : Nat → Nat) (a m b : Nat) : Prop := ∀ i j, a ≤ i → i < m → m ≤ j → j < b → C i < C j
structure Mg (lt : Nat → Nat → Prop) (C D : Nat → Nat) (a b : Nat) : Prop where
  out : ∀ k, k < a ∨ b ≤ k → D k = C k
  inn : ∀ x, In D a b x ↔ In C a b x
  srd : Srd lt D a b
theorem In.rot {C : Nat → Nat} {a s m e b x : Nat} (h1 : a ≤ s) (h2 : s ≤ m) (h3 : m ≤ e) (h4 : e ≤ b) : In (rot C s m e) a b x ↔ In C a b x := by
  constructor
  · rintro ⟨k, k1, k2, rfl⟩
    by_cases c1 : k < s ∨ e ≤ k
    · exact ⟨k, k1, k2, (rot_out C h2 h3 c1).symm⟩
    · by_cases c2 : k < s + (e - m)
      · exact ⟨k + (m - s), by omega, by omega, (rot_one C (by omega) c2).symm⟩
      · exact ⟨k - (e - m), by omega, by omega, (rot_two C (by omega) (by omega)).symm⟩
  · rintro ⟨k, k1, k2, rfl⟩
    by_cases c1 : k < s ∨ e ≤ k
    · exact ⟨k, k1, k2, rot_out C h2 h3 c1⟩
    · by_cases c2 : k < m
      · exact ⟨k + (e - m), by omega, by omega, by rw [rot_two C (by omega) (by omega)]; congr 1; omega⟩
      · exact ⟨k - (m - s), by omega, by omega, by rw [rot_one C (by omega) (by omega)]; congr 1; omega⟩
theorem Srd.le {lt : Nat → Nat → Prop} {C : Nat → Nat} {a b i j k : Nat} (tr : ∀ x y z, lt x y → lt y z → lt x z) (h : Srd lt C a b) (h1 : a ≤ i) (h2 : i ≤ j) (h3 : j < b) {z : Nat} (hz : lt (C j) z) : lt (C i) z := by
  rcases Nat.lt_or_ge i j with c | c
  · exact tr _ _ _ (h i j h1 c h3) hz
  · obtain rfl : i = j := by omega
    exact hz
theorem Srd.ge {lt : Nat → Nat → Prop} {C : Nat → Nat} {a b i j : Nat} (tr : ∀ x y z, lt x y → lt y z → lt x z) (h : Srd lt C a b) (h1 : a ≤ i) (h2 : i ≤ j) (h3 : j < b) {z : Nat} (hz : lt z (C i)) : lt z (C j) := by
  rcases Nat.lt_or_ge i j with c | c
  · exact tr _ _ _ hz (h i j h1 c h3)
  · obtain rfl : i = j := by omega
    exact hz
theorem mg_down {lt : Nat → Nat → Prop} (tr : ∀ x y z, lt x y → lt y z → lt x z) {C : Nat → Nat} {a s m : Nat} (hs : Srd lt C a m) (h1 : a ≤ s) (h2 : s ≤ m) (h3 : s = a ∨ lt (C (s - 1)) (C m)) (h4 : s = m ∨ lt (C m) (C s)) :
    Mg lt C (rot C s m (m + 1)) a (m + 1) := by
  refine ⟨fun k hk => rot_out C h2 (by omega) (by omega), fun x => In.rot h1 h2 (by omega) (Nat.le_refl _), fun i j e1 e2 e3 => ?_⟩
  have f1 : ∀ k, k < s → rot C s m (m + 1) k = C k := fun k hk => rot_out C h2 (by omega) (.inl hk)
  have f2 : rot C s m (m + 1) s = C m := by rw [rot_one C (Nat.le_refl _) (by omega)]; congr 1; omega
  have f3 : ∀ k, s < k → k < m + 1 → rot C s m (m + 1) k = C (k - 1) := fun k hk hm => by rw [rot_two C (by omega) hm]; congr 1; omega
  have low : ∀ i, a ≤ i → i < s → lt (C i) (C m) := fun i q1 q2 => by
    rcases h3 with h3 | h3
    · omega
    · exact hs.le (k := 0) tr q1 (by omega) (by omega) h3
  have high : ∀ j, s ≤ j → j < m → lt (C m) (C j) := fun j q1 q2 => by
    rcases h4 with h4 | h4
    · omega
    · exact hs.ge tr h1 q1 q2 h4
  rcases Nat.lt_trichotomy j s with c | c | c
  · rw [f1 i (by omega), f1 j c]; exact hs i j e1 e2 (by omega)
  · subst c; rw [f1 i e2, f2]; exact low i e1 e2
  · rw [f3 j c e3]
    rcases Nat.lt_trichotomy i s with d | d | d
    · rw [f1 i d]; exact hs i (j - 1) e1 (by omega) (by omega)
    · subst d; rw [f2]; exact high _ (by omega) (by omega)
    · rw [f3 i d (by omega)]; exact hs (i - 1) (j - 1) (by omega) (by omega) (by omega)
theorem mg_up {lt : Nat → Nat → Prop} (tr : ∀ x y z, lt x y → lt y z → lt x z) {C : Nat → Nat} {a s b : Nat} (hs : Srd lt C (a + 1) b) (h1 : a + 1 ≤ s) (h2 : s ≤ b) (h3 : s = a + 1 ∨ lt (C (s - 1)) (C a)) (h4 : s = b ∨ lt (C a) (C s)) :
    Mg lt C (rot C a (a + 1) s) a b := by
  refine ⟨fun k hk => rot_out C (by omega) (by omega) (by omega), fun x => In.rot (Nat.le_refl _) (by omega) h1 h2, fun i j e1 e2 e3 => ?_⟩
  have f1 : ∀ k, s ≤ k → rot C a (a + 1) s k = C k := fun k hk => rot_out C (by omega) (by omega) (.inr hk)
  have f2 : rot C a (a + 1) s (s - 1) = C a := by rw [rot_two C (by omega) (by omega)]; congr 1; omega
  have f3 : ∀ k, a ≤ k → k < s - 1 → rot C a (a + 1) s k = C (k + 1) := fun k hk hm => by rw [rot_one C hk (by omega)]; congr 1; omega
  have low : ∀ i, a + 1 ≤ i → i < s → lt (C i) (C a) := fun i q1 q2 => by
    rcases h3 with h3 | h3
    · omega
    · exact hs.le (k := 0) tr q1 (by omega) (by omega) h3
  have high : ∀ j, s ≤ j → j < b → lt (C a) (C j) := fun j q1 q2 => by
    rcases h4 with h4 | h4
    · omega
    · exact hs.ge tr h1 q1 q2 h4
  by_cases c : s ≤ i
  · rw [f1 i c, f1 j (by omega)]; exact hs i j (by omega) e2 e3
  · by_cases d : i = s - 1
    · rw [d, f2, f1 j (by omega)]; exact high j (by omega) e3
    · rw [f3 i e1 (by omega)]
      by_cases e : s ≤ j
      · rw [f1 j e]; exact hs (i + 1) j (by omega) (by omega) e3
      · by_cases f : j = s - 1
        · rw [f, f2]; exact low _ (by omega) (by omega)
        · rw [f3 j (by omega) (by omega)]; exact hs (i + 1) (j + 1) (by omega) (by omega) (by omega)
/-- What is in a stretch is in its two parts. -/
theorem In.parts {C : Nat → Nat} {a m b x : Nat} (h1 : a ≤ m) (h2 : m ≤ b) : In C a b x ↔ In C a m x ∨ In C m b x := by
  constructor
  · rintro ⟨k, k1, k2, rfl⟩
    rcases Nat.lt_or_ge k m with c | c
    · exact .inl ⟨k, k1, c, rfl⟩
    · exact .inr ⟨k, c, k2, rfl⟩
  · rintro (⟨k, k1, k2, rfl⟩ | ⟨k, k1, k2, rfl⟩)
    · exact ⟨k, k1, by omega, rfl⟩
    · exact ⟨k, by omega, k2, rfl⟩
theorem In.same {C D : Nat → Nat} {a b x : Nat} (h : ∀ k, a ≤ k → k < b → D k = C k) : In D a b x ↔ In C a b x :=
  ⟨fun ⟨k, k1, k2, e⟩ => ⟨k, k1, k2, (h k k1 k2).symm.trans e⟩, fun ⟨k, k1, k2, e⟩ => ⟨k, k1, k2, (h k k1 k2).trans e⟩⟩
theorem Srd.same {lt : Nat → Nat → Prop} {C D : Nat → Nat} {a b : Nat} (h : Srd lt C a b) (e : ∀ k, a ≤ k → k < b → D k = C k) : Srd lt D a b := fun i j h1 h2 h3 => by
  rw [e i h1 (by omega), e j (by omega) h3]; exact h i j h1 h2 h3
theorem Idx.same {C D : Nat → Nat} {a m b : Nat} (h : Idx C a m b) (e : ∀ k, a ≤ k → k < b → D k = C k) : Idx D a m b := fun i j h1 h2 h3 h4 => by
  rw [e i h1 (by omega), e j (by omega) h4]; exact h i j h1 h2 h3 h4
/-- Where the place s was found: the two halves. -/
structure Half (lt : Nat → Nat → Prop) (C D : Nat → Nat) (a s mid e b : Nat) : Prop where
  s1 : Srd lt D a s
  s2 : Srd lt D s mid
  s3 : Srd lt D mid e
  s4 : Srd lt D e b
  i1 : Idx D a s mid
  i2 : Idx D mid e b
  inn : ∀ x, In D a b x ↔ In C a b x
  out : ∀ k, k < a ∨ b ≤ k → D k = C k
  cross : ∀ x y, In D a mid x → In D mid b y → lt x y
theorem half {lt : Nat → Nat → Prop} (tr : ∀ x y z, lt x y → lt y z → lt x z) {C : Nat → Nat} {a s m mid e b : Nat} (hl : Srd lt C a m) (hr : Srd lt C m b) (hi : Idx C a m b)
    (h1 : a ≤ s) (h2 : s ≤ m) (h3 : m ≤ e) (h4 : e ≤ b) (he : s + e = mid + m)
    (c1 : s = a ∨ e = b ∨ lt (C (s - 1)) (C e)) (c2 : s = m ∨ e = m ∨ lt (C (e - 1)) (C s)) : Half lt C (rot C s m e) a s mid e b := by
  have f1 : ∀ k, k < s → rot C s m e k = C k := fun k hk => rot_out C h2 h3 (.inl hk)
  have f2 : ∀ k, s ≤ k → k < mid → rot C s m e k = C (k + (m - s)) := fun k hk hm => rot_one C hk (by omega)
  have f3 : ∀ k, mid ≤ k → k < e → rot C s m e k = C (k - (e - m)) := fun k hk hm => rot_two C (by omega) hm
  have f4 : ∀ k, e ≤ k → rot C s m e k = C k := fun k hk => rot_out C h2 h3 (.inr hk)
  refine ⟨?_, ?_, ?_, ?_, ?_, ?_, fun x => In.rot h1 h2 h3 h4, fun k hk => rot_out C h2 h3 (by omega), ?_⟩
  · intro i j e1 e2 e3; rw [f1 i (by omega), f1 j e3]; exact hl i j e1 e2 (by omega)
  · intro i j e1 e2 e3; rw [f2 i e1 (by omega), f2 j (by omega) e3]; exact hr _ _ (by omega) (by omega) (by omega)
  · intro i j e1 e2 e3; rw [f3 i e1 (by omega), f3 j (by omega) e3]; exact hl _ _ (by omega) (by omega) (by omega)
  · intro i j e1 e2 e3; rw [f4 i e1, f4 j (by omega)]; exact hr _ _ (by omega) (by omega) (by omega)
  · intro i j e1 e2 e3 e4; rw [f1 i e2, f2 j e3 e4]; exact hi _ _ e1 (by omega) (by omega) (by omega)
  · intro i j e1 e2 e3 e4; rw [f3 i e1 e2, f4 j e3]; exact hi _ _ (by omega) (by omega) (by omega) (by omega)
  · rintro x y ⟨i, i1, i2, rfl⟩ ⟨j, j1, j2, rfl⟩
    by_cases ci : i < s
    · rw [f1 i ci]
      by_cases cj : j < e
      · rw [f3 j j1 cj]; exact hl _ _ i1 (by omega) (by omega)
      · rw [f4 j (by omega)]
        rcases c1 with c | c | c
        · omega
        · omega
        · exact hr.ge tr h3 (by omega) j2 (hl.le (k := 0) tr i1 (by omega) (by omega) c)
    · rw [f2 i (by omega) i2]
      by_cases cj : j < e
      · rw [f3 j j1 cj]
        rcases c2 with c | c | c
        · omega
        · omega
        · exact hl.ge tr h1 (by omega) (by omega) (hr.le (k := 0) tr (by omega) (by omega) (by omega) c)
      · rw [f4 j (by omega)]; exact hr _ _ (by omega) (by omega) (by omega)
theorem Mg.none {lt : Nat → Nat → Prop} {C : Nat → Nat} {a m b : Nat} (h1 : Srd lt C a m) (h2 : Srd lt C m b) (h : ¬ (a < m ∧ m < b)) (ha : a ≤ m) (hb : m ≤ b) : Mg lt C C a b := by
  refine ⟨fun _ _ => rfl, fun _ => Iff.rfl, ?_⟩
  by_cases c : a < m
  · obtain rfl : m = b := by omega
    exact h1
  · obtain rfl : a = m := by omega
    exact h2
theorem Half.mg {lt : Nat → Nat → Prop} {C D E G : Nat → Nat} {a s mid e b : Nat} (h : Half lt C D a s mid e b) (ha : a ≤ mid) (hb : mid ≤ b) (m1 : Mg lt D E a mid) (m2 : Mg lt E G mid b) : Mg lt C G a b := by
  have g1 : ∀ k, a ≤ k → k < mid → G k = E k := fun k _ hk => m2.out k (.inl hk)
  have e1 : ∀ k, mid ≤ k → k < b → E k = D k := fun k hk _ => m1.out k (.inr hk)
  refine ⟨fun k hk => ?_, fun x => ?_, fun i j i1 i2 i3 => ?_⟩
  · rw [m2.out k (by omega), m1.out k (by omega)]; exact h.out k hk
  · rw [← h.inn x, In.parts ha hb, In.parts ha hb, In.same g1, m1.inn, m2.inn, In.same e1]
  · rcases Nat.lt_or_ge j mid with c | c
    · exact (m1.srd.same g1) i j i1 i2 c
    · rcases Nat.lt_or_ge i mid with d | d
      · refine h.cross _ _ ((m1.inn _).1 ⟨i, i1, d, (g1 i i1 d).symm⟩) ?_
        exact (In.same e1).1 ((m2.inn _).1 ⟨j, c, i3, rfl⟩)
      · exact m2.srd i j d i2 i3
theorem Half.again2 {lt : Nat → Nat → Prop} {C D E : Nat → Nat} {a s mid e b : Nat} (h : Half lt C D a s mid e b) (h3 : mid ≤ e) (h4 : e ≤ b) (m1 : Mg lt D E a mid) : Srd lt E mid e ∧ Srd lt E e b ∧ Idx E mid e b :=
  have e1 : ∀ k, mid ≤ k → k < b → E k = D k := fun k hk _ => m1.out k (.inr hk)
  ⟨h.s3.same fun k a b => e1 k a (by omega), h.s4.same fun k a b => e1 k (by omega) b, h.i2.same e1⟩
/-- A stretch in order that holds what it held at first. -/
structure St (lt : Nat → Nat → Prop) (C0 C : Nat → Nat) (a b : Nat) : Prop where
  srd : Srd lt C a b
  inn : ∀ x, In C a b x ↔ In C0 a b x
theorem St.same {lt : Nat → Nat → Prop} {C0 C D : Nat → Nat} {a b : Nat} (h : St lt C0 C a b) (e : ∀ k, a ≤ k → k < b → D k = C k) : St lt C0 D a b := ⟨h.srd.same e, fun x => (In.same e).trans (h.inn x)⟩
theorem St.idx {lt : Nat → Nat → Prop} {C0 C : Nat → Nat} {a m b n : Nat} (h0 : ∀ i j, i < j → j < n → C0 i < C0 j) (hb : b ≤ n) (h1 : St lt C0 C a m) (h2 : St lt C0 C m b) : Idx C a m b := fun i j e1 e2 e3 e4 => by
  obtain ⟨p, p1, p2, p3⟩ := (h1.inn _).1 ⟨i, e1, e2, rfl⟩
  obtain ⟨q, q1, q2, q3⟩ := (h2.inn _).1 ⟨j, e3, e4, rfl⟩
  rw [← p3, ← q3]
  exact h0 p q (by omega) (by omega)
theorem St.mg {lt : Nat → Nat → Prop} {C0 C D : Nat → Nat} {a m b : Nat} (ha : a ≤ m) (hb : m ≤ b) (h1 : St lt C0 C a m) (h2 : St lt C0 C m b) (h : Mg lt C D a b) : St lt C0 D a b :=
  ⟨h.srd, fun x => by rw [h.inn, In.parts ha hb, In.parts ha hb, h1.inn, h2.inn]⟩
theorem Mg.more {lt : Nat → Nat → Prop} {C D E : Nat → Nat} {a i : Nat} (hi : a ≤ i) (h : Mg lt C D a i) (k : Mg lt D E a (i + 1)) : Mg lt C E a (i + 1) :=
  ⟨fun x hx => (k.out x hx).trans (h.out x (by omega)), fun x => by
    rw [k.inn, In.parts hi (Nat.le_succ i), In.parts hi (Nat.le_succ i), h.inn, In.same (C := C) fun k h1 h2 => h.out k (.inr h1)], k.srd⟩
/-- Two rows in order with the same in them are the same. -/
theorem srd_one {lt : Nat → Nat → Prop} (ir : ∀ x, ¬ lt x x) (tr : ∀ x y z, lt x y → lt y z → lt x z) : ∀ (l k : List Nat), l.Pairwise lt → k.Pairwise lt → (∀ x, x ∈ l ↔ x ∈ k) → l = k
  | [], [], _, _, _ => rfl
  | [], y :: k, _, _, h => by have := (h y).2 (by simp); simp at this
  | x :: l, [], _, _, h => by have := (h x).1 (by simp); simp at this
  | x :: l, y :: k, h1, h2, h => by
    rw [List.pairwise_cons] at h1 h2
    have e : x = y := by
      rcases List.mem_cons.1 ((h x).1 (by simp)) with e | e
      · exact e
      · rcases List.mem_cons.1 ((h y).2 (by simp)) with f | f
        · exact f.symm
        · exact absurd (tr _ _ _ (h1.1 y f) (h2.1 x e)) (ir x)
    subst e
    congr 1
    refine srd_one ir tr l k h1.2 h2.2 fun z => ⟨fun hz => ?_, fun hz => ?_⟩
    · rcases List.mem_cons.1 ((h z).1 (by simp [hz])) with e | e
      · rw [e] at hz; exact absurd (h1.1 x hz) (ir x)
      · exact e
    · rcases List.mem_cons.1 ((h z).2 (by simp [hz])) with e | e
      · rw [e] at hz; exact absurd (h2.1 x hz) (ir x)
      · exact e
end Stb
end Go.Proofs.YtoohanojfoichaaGreatDoor

/- Readers and writers in memory: a block of two cells, a slice of bytes and the error; frames that name the blocks that may turn. -/
namespace Go.Proofs.YtoohanojfoichaaGreatDoor
set_option linter.unusedVariables false
open Go.RowKit Go.Maps
open Lz (g)

/-- The block p, of the type t, holds the slice and the error. -/
def Hd (t : TypeId) (w : World) (p : Nat) (ao : Option Addr) (n c : Nat) (e : Int) : Prop := w.heap[p]? = some (.cells #[.slice ao n c, .int .i64 e] t (0, 0))
theorem Hd.lt {t : TypeId} {w : World} {p n c : Nat} {ao : Option Addr} {e : Int} (h : Hd t w p ao n c e) : p < w.heap.size := heap_lt h
theorem Hd.c0 {t : TypeId} {w : World} {p n c : Nat} {ao : Option Addr} {e : Int} (h : Hd t w p ao n c e) : w.cell? ⟨p, 0, none⟩ = some (.slice ao n c) := by
  unfold Hd at h; simp [World.cell?, h]
theorem Hd.c1 {t : TypeId} {w : World} {p n c : Nat} {ao : Option Addr} {e : Int} (h : Hd t w p ao n c e) : w.cell? ⟨p, 1, none⟩ = some (.int .i64 e) := by
  unfold Hd at h; simp [World.cell?, h]
theorem Hd.f {t : TypeId} {w : World} {p n c : Nat} {ao : Option Addr} {e : Int} (h : Hd t w p ao n c e) (i : Nat) : w.frozen? ⟨p, i, none⟩ = false := by
  unfold Hd at h; simp [World.frozen?, h]
theorem heap_setCell_self {w : World} {p i : Nat} {cs : Array Value} {t : TypeId} {fz : Nat × Nat} (h : w.heap[p]? = some (.cells cs t fz)) (v : Value) : (w.setCell ⟨p, i, none⟩ v).heap[p]? = some (.cells (cs.setIfInBounds i v) t fz) := by
  simp [World.setCell, Array.getElem?_modify, h]
theorem Hd.set0 {t : TypeId} {w : World} {p n c : Nat} {ao : Option Addr} {e : Int} (h : Hd t w p ao n c e) (ao' : Option Addr) (n' c' : Nat) : Hd t (w.setCell ⟨p, 0, none⟩ (.slice ao' n' c')) p ao' n' c' e := by
  unfold Hd; rw [heap_setCell_self h]; rfl
theorem Hd.set1 {t : TypeId} {w : World} {p n c : Nat} {ao : Option Addr} {e : Int} (h : Hd t w p ao n c e) (e' : Int) : Hd t (w.setCell ⟨p, 1, none⟩ (.int .i64 e')) p ao n c e' := by
  unfold Hd; rw [heap_setCell_self h]; rfl
/-- All blocks but those that S names are as they were. -/
structure Fr (S : Nat → Prop) (w w' : World) : Prop where
  os : w'.os = w.os
  tape : w'.tape = w.tape
  output : w'.output = w.output
  size : w.heap.size ≤ w'.heap.size
  block : ∀ k, k < w.heap.size → ¬ S k → w'.heap[k]? = w.heap[k]?
theorem Fr.refl (S : Nat → Prop) (w : World) : Fr S w w := ⟨rfl, rfl, rfl, Nat.le_refl _, fun _ _ _ => rfl⟩
theorem Fr.trans {S S' : Nat → Prop} {a b c : World} (h : Fr S a b) (k : Fr S' b c) (hs : ∀ i, i < a.heap.size → S' i → S i) : Fr S a c :=
  ⟨k.os.trans h.os, k.tape.trans h.tape, k.output.trans h.output, Nat.le_trans h.size k.size, fun i hi hn => (k.block i (Nat.lt_of_lt_of_le hi h.size) (fun hx => hn (hs i hi hx))).trans (h.block i hi hn)⟩
theorem Fr.then {S : Nat → Prop} {a b c : World} (h : Fr S a b) (k : Fr S b c) : Fr S a c := h.trans k (fun _ _ h => h)
theorem Fr.mono {S S' : Nat → Prop} {a b : World} (h : Fr S a b) (hs : ∀ i, i < a.heap.size → S i → S' i) : Fr S' a b :=
  ⟨h.os, h.tape, h.output, h.size, fun i hi hn => h.block i hi (fun hx => hn (hs i hi hx))⟩
theorem Fr.set {S : Nat → Prop} {a b : World} (h : Fr S a b) {p : Addr} (v : Value) (hp : p.block < a.heap.size → S p.block) : Fr S a (b.setCell p v) :=
  ⟨h.os, h.tape, h.output, by simpa [World.setCell] using h.size, fun i hi hn => (Below.heap_setCell _ _ _ _ (fun e => by subst e; exact hn (hp hi))).trans (h.block i hi hn)⟩
theorem Fr.alloc {S : Nat → Prop} {a b : World} (h : Fr S a b) (o : Obj) : Fr S a (b.alloc o) :=
  ⟨h.os, h.tape, h.output, Nat.le_trans h.size (by simp), fun i hi hn => (Below.heap_alloc _ _ _ (Nat.lt_of_lt_of_le hi h.size)).trans (h.block i hi hn)⟩
theorem Fr.drew {S : Nat → Prop} {a b : World} (h : Fr S a b) : Fr S a b.drew := ⟨h.os, h.tape, h.output, h.size, h.block⟩
theorem Fr.drewN {S : Nat → Prop} {a b : World} (h : Fr S a b) (n : Nat) : Fr S a (b.drewN n) := ⟨h.os, h.tape, h.output, h.size, h.block⟩
theorem Fr.undrew {S : Nat → Prop} {a b : World} (h : Fr S a.drew b) : Fr S a b := ⟨h.os, h.tape, h.output, h.size, h.block⟩
theorem Fr.of_below {S : Nat → Prop} {a b : World} (h : Below a.heap.size a b) : Fr S a b := ⟨h.os, h.tape, h.output, h.size, fun i hi _ => h.block i hi⟩
theorem Fr.of_grown {S : Nat → Prop} {a b : World} {row : Option Nat} (h : a.grownBy b row) (hr : ∀ k, row = some k → S k) : Fr S a b := ⟨h.os, h.tape, h.output, h.size, fun i hi hn => h.block i hi (fun e => hn (hr i e.symm))⟩
theorem Fr.below {S : Nat → Prop} {a b : World} (h : Fr S a b) (B : Nat) (hB : B ≤ a.heap.size) (hs : ∀ k, S k → B ≤ k) : Below B a b :=
  ⟨h.os, h.tape, h.output, h.size, fun k hk => h.block k (by omega) (fun hx => by have := hs k hx; omega)⟩
theorem Fr.cell {S : Nat → Prop} {a b : World} (h : Fr S a b) {q : Addr} (hq : q.block < a.heap.size) (hn : ¬ S q.block) : b.cell? q = a.cell? q := World.cell?_of_block (w := a) (h.block _ hq hn)
theorem Hd.fr {S : Nat → Prop} {t : TypeId} {w w' : World} {p n c : Nat} {ao : Option Addr} {e : Int} (h : Hd t w p ao n c e) (hf : Fr S w w') (hn : ¬ S p) : Hd t w' p ao n c e := (hf.block p h.lt hn).trans h
theorem Bs.fr {S : Nat → Prop} {w w' : World} {ao : Option Addr} {n : Nat} {zs : List Int} (h : Bs w ao n zs) (hf : Fr S w w') (hn : ∀ a, ao = some a → 0 < n → ¬ S a.block) : Bs w' ao n zs := by
  refine ⟨h.1, h.2.1, ?_⟩
  rcases h.2.2 with h0 | ⟨b, off, h1, h2, h3⟩
  · exact .inl h0
  · by_cases e : n = 0
    · exact .inl e
    · exact .inr ⟨b, off, h1, Nat.lt_of_lt_of_le h2 hf.size, fun i hi => (hf.cell (q := ⟨b, off + i, none⟩) h2 (show ¬ S b from hn ⟨b, off, none⟩ h1 (by omega))).trans (h3 i hi)⟩
/-- Bytes lie in no block of the other kind. -/
theorem Bs.ne {t : TypeId} {w : World} {p n c m : Nat} {ao ao' : Option Addr} {e : Int} {zs : List Int} (h : Bs w ao m zs) (hd : Hd t w p ao' n c e) (hne : t ≠ 5) : ∀ a, ao = some a → 0 < m → a.block ≠ p := by
  intro a ha hm hp
  rcases h.2.2 with h0 | ⟨b, off, h1, h2, h3⟩
  · omega
  · rw [ha] at h1
    obtain rfl := Option.some.inj h1
    have := h3 0 (by rw [h.1]; omega)
    simp only at hp
    subst hp
    unfold Hd at hd
    simp [World.cell?, hd] at this
    rcases off with _ | _ | off <;> simp at this
theorem owns_ne_hd {t : TypeId} {w : World} {p n c m B size : Nat} {ao : Option Addr} {v : Value} {e : Int} {xs : List Value} (h : w.ownsRow B 5 size v m xs) (hd : Hd t w p ao n c e) (hne : t ≠ 5) : v.ownBlock ≠ some p := by
  intro hv
  have := owns_ne h hd (fun cur fz hx => by injection hx with _ h2 _; exact hne h2)
  exact this hv.symm
theorem owns_fr {S : Nat → Prop} {w w' : World} {B e size n : Nat} {v : Value} {xs : List Value} (h : w.ownsRow B e size v n xs) (hf : Fr S w w') (hn : ∀ k, v.ownBlock = some k → ¬ S k) : w'.ownsRow B e size v n xs := by
  refine ⟨h.1, ?_⟩
  rcases h.2 with h0 | ⟨g, cap, cur, rfl, hg, hgg, rest⟩
  · exact .inl h0
  · exact .inr ⟨g, cap, cur, rfl, hg, by rw [hf.block g (heap_lt hgg) (hn g rfl)]; exact hgg, rest⟩
/-- A new block of that kind. -/
theorem Hd.new (t : TypeId) (w : World) (ao : Option Addr) (n c : Nat) (e : Int) : Hd t (w.alloc (.cells #[.slice ao n c, .int .i64 e] t)) w.heap.size ao n c e := heap_alloc_new w _

/-- What is left to be read, or was written, and the error. -/
abbrev St := List Int × Int
/-- A reader: its bytes lie in a block below L; behind an error there are none. -/
def RdP (w : World) (p L : Nat) (s : St) : Prop := ∃ ao n c, Hd 161 w p ao n c s.2 ∧ BsB w L ao n s.1 ∧ n ≤ c ∧ c ≤ 9223372036854775807 ∧ n ≤ 1000000 ∧ (ao = none → c = 0) ∧ L ≤ w.heap.size ∧ (s.2 = 0 ∨ s.1 = [])
/-- A writer: its row is its own. -/
def WrP (w : World) (p B : Nat) (v : Value) (s : St) : Prop := ∃ ao n c, v = .slice ao n c ∧ Hd 120 w p ao n c s.2 ∧ w.ownsRow B 5 1 (.slice ao n c) n (bv s.1) ∧ Bytes s.1 ∧ (s.2 = 0 ∨ s.1 = [])
/-- The block p alone. -/
def One (p : Nat) : Nat → Prop := fun k => k = p
/-- The block p and the row v. -/
def Two (p : Nat) (v : Value) : Nat → Prop := fun k => k = p ∨ v.ownBlock = some k
theorem BsB.bs {w : World} {L n : Nat} {ao : Option Addr} {zs : List Int} (h : BsB w L ao n zs) (hL : L ≤ w.heap.size) : Bs w ao n zs := by
  refine ⟨h.1, h.2.1, ?_⟩
  rcases h.2.2 with h0 | ⟨b, off, h1, h2, h3⟩
  · exact .inl h0
  · exact .inr ⟨b, off, h1, by omega, h3⟩
theorem BsB.fr {S : Nat → Prop} {w w' : World} {L n : Nat} {ao : Option Addr} {zs : List Int} (h : BsB w L ao n zs) (hL : L ≤ w.heap.size) (hf : Fr S w w') (hn : ∀ a, ao = some a → a.block < L → 0 < n → ¬ S a.block) : BsB w' L ao n zs := by
  refine ⟨h.1, h.2.1, ?_⟩
  rcases h.2.2 with h0 | ⟨b, off, h1, h2, h3⟩
  · exact .inl h0
  · by_cases e : n = 0
    · exact .inl e
    · exact .inr ⟨b, off, h1, h2, fun i hi => (hf.cell (q := ⟨b, off + i, none⟩) (Nat.lt_of_lt_of_le h2 hL) (show ¬ S b from hn ⟨b, off, none⟩ h1 h2 (by omega))).trans (h3 i hi)⟩
/-- Another block of that kind has turned. -/
theorem BsB.one {t : TypeId} {w w' : World} {q L n n' c' : Nat} {ao ao' : Option Addr} {zs : List Int} {e : Int} (h : BsB w L ao n zs) (hL : L ≤ w.heap.size) (hf : Fr (One q) w w') (hq : Hd t w q ao' n' c' e) (ht : t ≠ 5) : BsB w' L ao n zs :=
  h.fr hL hf fun a ha _ hn => (h.bs hL).ne hq ht a ha hn
/-- Blocks from L on have turned, its own not. -/
theorem RdP.above {S : Nat → Prop} {w w' : World} {p L : Nat} {s : St} (h : RdP w p L s) (hf : Fr S w w') (hS : ∀ k, S k → L ≤ k) (hp : ¬ S p) : RdP w' p L s := by
  obtain ⟨ao, n, c, h1, h2, h3, h4, h5, h6, h7, h8⟩ := h
  exact ⟨ao, n, c, h1.fr hf hp, h2.fr h7 hf (fun a _ hl _ hx => by have := hS _ hx; omega), h3, h4, h5, h6, Nat.le_trans h7 hf.size, h8⟩
theorem RdP.below {w w' : World} {p L : Nat} {s : St} (h : RdP w p L s) (hb : Below w.heap.size w w') : RdP w' p L s := by
  refine h.above (S := fun k => w.heap.size ≤ k) ⟨hb.os, hb.tape, hb.output, hb.size, fun k hk _ => hb.block k hk⟩ (fun k hk => ?_) ?_
  · obtain ⟨_, _, _, _, _, _, _, _, _, h7, _⟩ := h; omega
  · obtain ⟨_, _, _, h1, _⟩ := h; have := h1.lt; omega
theorem RdP.lt {w : World} {p L : Nat} {s : St} (h : RdP w p L s) : p < w.heap.size := by obtain ⟨_, _, _, h1, _⟩ := h; exact h1.lt
/-- Where a row lies that has grown or gone: where it lay, or in a block that is new. -/
def Lie (w : World) (v v' : Value) : Prop := ∀ k, v'.ownBlock = some k → v.ownBlock = some k ∨ w.heap.size ≤ k
theorem Lie.refl (w : World) (v : Value) : Lie w v v := fun k h => .inl h
theorem Lie.trans {w w1 : World} {v v1 v2 : Value} (h : Lie w v v1) (hs : w.heap.size ≤ w1.heap.size) (h2 : Lie w1 v1 v2) : Lie w v v2 := fun k hk => by
  rcases h2 k hk with h3 | h3
  · exact h k h3
  · exact .inr (by omega)
/-- 'append' to a row of bytes of the call's own, of bytes wherever they lie; and where the new row lies. -/
theorem wpList_append_at (w : World) {ops : Array Oper} {rest : List Oper} {o : Oper} {a : Act} {Q : Exit → Act → World → Prop} (hgd : o.guard = none) (s x : Operand)
    (ho : o.op = .call { callee := .builtin .append, args := #[s, x], argTypes := #[25, 25] })
    (base : Nat) (vo : Option Addr) (n vc : Nat) (xs : List Int) (hs : a.eval s = .slice vo n vc) (hown : w.ownsRow base 5 1 (.slice vo n vc) n (bv xs))
    (ao : Option Addr) (m c : Nat) (zs : List Int) (hx : a.eval x = .slice ao m c) (hb : Bs w ao m zs) (hnil : ao = none → c = 0)
    (hbd : n + m ≤ 100000000) (hbase : base ≤ w.heap.size)
    (h : ∀ ao' c' w', w'.ownsRow base 5 1 (.slice ao' (n + m) c') (n + m) (bv (xs ++ zs)) → w.grownBy w' (Value.slice vo n vc).ownBlock → Lie w (.slice vo n vc) (.slice ao' (n + m) c') → wpList Tryz.prog ops Q rest (a.put o.dst (.slice ao' (n + m) c')) w') :
    wpList Tryz.prog ops Q (o :: rest) a w := by
  obtain ⟨i0, hi, hz0, hz1, hz2⟩ := info_parts infoByte
  obtain ⟨hz, hby, h0⟩ := hb
  cases ao with
  | none =>
    obtain rfl : c = 0 := hnil rfl
    obtain rfl : m = 0 := by
      rcases h0 with h0 | ⟨b, off, h1, _⟩
      · exact h0
      · simp at h1
    obtain rfl : zs = [] := List.eq_nil_of_length_eq_zero hz
    refine wpList_append_own_none hgd s x _ ho base 5 i0 1 Tryz.underlying25 hi _ n (bv xs) hs hown hx ?_
    have := h vo vc w (by simpa using hown) (World.grownBy.refl _ _) (fun k hk => .inl hk)
    simpa using this
  | some ad =>
    refine wpList_append_own_at w hgd s x _ ho base 5 i0 (.int .u8 0) 1 1 Tryz.underlying25 hi hz0 hz1 hz2 rfl (by decide) _ n (bv xs) hs hown ad m c (bv zs) hx (by rw [bv_length]; omega) ?_ (bv_one _) (by unfold maxLen; omega) (by omega) hbase ?_
    · rcases h0 with h0 | ⟨b, off, h1, _, hseg⟩
      · have : zs = [] := List.eq_nil_of_length_eq_zero (by omega)
        subst this
        intro j u hu; simp [bv] at hu
      · obtain rfl := Option.some.inj h1
        have := news_seg hseg m
        rw [List.take_of_length_le (by omega)] at this
        exact this
    · intro v' w' h2 h3 _ h5
      obtain ⟨ao', c', rfl⟩ := owns_shape h2
      refine h ao' c' w' (by rw [bv_append]; exact h2) h3 (fun k hk => ?_)
      rcases h5 with h5 | h5
      · rw [h5] at hk; exact .inl hk
      · rw [h5] at hk; exact .inr (by cases hk; omega)

namespace Cur
/-- A number of bytes, the lowest first. -/
def le : List Int → Int
  | [] => 0
  | x :: xs => x + 256 * le xs
def fl (c : Int) (s : St) : St := if s.2 = 0 then ([], c) else s
def ps (n : Nat) (s : St) : St := if s.1.length < n then fl 2 s else (s.1.drop n, s.2)
def pa (n : Nat) (s : St) : List Int := if s.1.length < n then [] else s.1.take n
def numS (n : Int) (s : St) : St := if 1 ≤ n ∧ n ≤ 4 then ps n.toNat s else fl 1 s
def numA (n : Int) (s : St) : Int := if 1 ≤ n ∧ n ≤ 4 then le (pa n.toNat s) else 0
/-- A number's bytes. -/
def by' : Nat → Int → List Int
  | 0, _ => []
  | n + 1, x => x % 256 :: by' n (x / 256)
def wByt (b : List Int) (s : St) : St := if s.2 = 0 then (s.1 ++ b, 0) else s
def wNum (x n : Int) (s : St) : St := if 1 ≤ n ∧ n ≤ 4 ∧ 0 ≤ x ∧ x < 256 ^ n.toNat then wByt (by' n.toNat x) s else fl 1 s
def wTxt (b : List Int) (s : St) : St := if 255 < b.length then fl 3 s else wByt b (wNum b.length 1 s)
/-- A string's bytes. -/
def sb (s : ByteArray) : List Int := s.data.toList.map (fun b => (b.toNat : Int))
end Cur
end Go.Proofs.YtoohanojfoichaaGreatDoor

/- The walks of the smallest functions: kind, isWidth, Err, fail, Left, Len, Clone and the reference's fail. -/
namespace Go.Proofs.YtoohanojfoichaaGreatDoor
set_option linter.unusedVariables false
open Go.RowKit Go.Maps
open Lz (g)
open Cur

set_option maxRecDepth 100000 in
theorem isWidth_any (n : Int) (w : World) :
    Calls Tryz.prog 99 #[.int .i64 n] w fun e w' => e = .returned (.bool (decide (1 ≤ n ∧ n ≤ 4))) ∧ w' = w := by
  by_cases h1 : 1 ≤ n
  · by_cases h2 : n ≤ 4
    · rw [decide_eq_true ⟨h1, h2⟩]
      go_enter Tryz.func99, Tryz.ntmps99
      go_wp2
      go_ret
      exact ⟨rfl, rfl⟩
    · rw [decide_eq_false (fun h => h2 h.2)]
      go_enter Tryz.func99, Tryz.ntmps99
      go_wp2
      go_ret
      exact ⟨rfl, rfl⟩
  · rw [decide_eq_false (fun h => h1 h.1)]
    go_enter Tryz.func99, Tryz.ntmps99
    go_wp2
    go_ret
    exact ⟨rfl, rfl⟩

set_option maxRecDepth 100000 in
theorem Err_any (t : TypeId) (p n c : Nat) (ao : Option Addr) (e0 : Int) (w : World) (h : Hd t w p ao n c e0) :
    Calls Tryz.prog 96 #[.pointer (some ⟨p, 0, none⟩)] w fun e w' => e = .returned (.int .i64 e0) ∧ w' = w := by
  have h1 := h.c1
  clear h
  go_enter Tryz.func96, Tryz.ntmps96
  go_wp2
  go_ret
  exact ⟨rfl, rfl⟩

/-- The first error stays; at it the bytes go. -/
def Failed (t : TypeId) (w : World) (p : Nat) (ao : Option Addr) (n c : Nat) (e k : Int) (w' : World) : Prop :=
  Fr (One p) w w' ∧ ((e = 0 ∧ Hd t w' p none 0 0 k) ∨ (e ≠ 0 ∧ w' = w))
set_option maxRecDepth 100000 in
theorem fail_any (t : TypeId) (p n c : Nat) (ao : Option Addr) (e0 k : Int) (w : World) (h : Hd t w p ao n c e0) :
    Calls Tryz.prog 100 #[.pointer (some ⟨p, 0, none⟩), .int .i64 k] w fun e w' => e = .returned (.tuple #[]) ∧ Failed t w p ao n c e0 k w' := by
  have h1 := h.c1
  have h0 := h.c0
  have f0 := h.f 0
  have f1 := h.f 1
  by_cases he : e0 = 0
  · subst he
    have H : Hid (Failed t w p ao n c 0 k ((w.setCell ⟨p, 0, none⟩ (.slice none 0 0)).setCell ⟨p, 1, none⟩ (.int .i64 k))) :=
      ⟨((Fr.refl (One p) w).set (p := ⟨p, 0, none⟩) _ (fun _ => rfl)).set (p := ⟨p, 1, none⟩) _ (fun _ => rfl), .inl ⟨rfl, (h.set0 none 0 0).set1 k⟩⟩
    clear h
    go_enter Tryz.func100, Tryz.ntmps100
    go_wp2
    go_end0
    exact ⟨rfl, H.out⟩
  · have H : Hid (Failed t w p ao n c e0 k w) := ⟨Fr.refl _ w, .inr ⟨he, rfl⟩⟩
    clear h
    go_enter Tryz.func100, Tryz.ntmps100
    go_wp2
    go_end0
    exact ⟨rfl, H.out⟩



/-- A copy of bytes, in a row that is new. -/
def Copied (w w' : World) (zs : List Int) (r : Ending) : Prop :=
  ∃ ao c, r = .returned (.slice ao zs.length c) ∧ Bs w' ao zs.length zs ∧ zs.length ≤ c ∧ c ≤ 9223372036854775807 ∧ (ao = none → c = 0) ∧ Below w.heap.size w w'
theorem Copied.nil (w : World) : Copied w w [] (.returned (.slice none 0 0)) := ⟨none, 0, rfl, ⟨rfl, fun i => by simp [g], .inl rfl⟩, by simp, by omega, fun _ => rfl, Below.refl _ _⟩
theorem copied_of_owns {w w' : World} {n c : Nat} {ao : Option Addr} {zs : List Int} (h : w'.ownsRow w.heap.size 5 1 (.slice ao n c) n (bv zs)) (hb : Bytes zs) (hbel : Below w.heap.size w w') : Copied w w' zs (.returned (.slice ao n c)) := by
  have hlen : zs.length = n := by have := h.1; rw [bv_length] at this; omega
  subst hlen
  refine ⟨ao, c, rfl, bs_of_owns h hb, cap_of_owns h, ?_, nil_cap h, hbel⟩
  rcases h.2 with ⟨e, _⟩ | ⟨_, _, _, e, _, _, _, h, _⟩
  · simp at e; omega
  · simp at e; unfold maxLen at h; omega
theorem eql_nil (w : World) (a : Option Addr) (n c : Nat) : (binOp .eql 25 (.slice a n c) (.slice none 0 0)).run Tryz.prog w = .ok (.bool a.isNone) w := by
  simp only [binOp]
  simp [run_equal_slice_nil w 25 5 a n c Tryz.underlying25]

set_option maxRecDepth 100000 in
theorem Clone_any (n c : Nat) (ao : Option Addr) (zs : List Int) (w : World) (hb : Bs w ao n zs) (hc : n ≤ c) (hnil : ao = none → c = 0) (hn : n ≤ 100000000) :
    Calls Tryz.prog 54 #[.slice ao n c] w fun r w' => Copied w w' zs r := by
  cases ao with
  | none =>
    obtain rfl : c = 0 := hnil rfl
    obtain rfl : n = 0 := by omega
    obtain rfl : zs = [] := List.eq_nil_of_length_eq_zero hb.1
    have H : Hid (Copied w w [] (.returned (.slice none 0 0))) := Copied.nil w
    clear hb hnil
    have hq : ∀ w : World, (binOp .eql 25 (.slice none 0 0) (.slice none 0 0)).run Tryz.prog w = .ok (.bool true) w := fun w => eql_nil w none 0 0
    go_enter Tryz.func54, Tryz.ntmps54
    go_wp2
    go_ret
    exact H.out
  | some a =>
    clear hnil
    have hq : ∀ w : World, (binOp .eql 25 (.slice (some a) n c) (.slice none 0 0)).run Tryz.prog w = .ok (.bool false) w := fun w => eql_nil w (some a) n c
    have ho := emptyB (w := w) (Nat.le_refl _)
    have hb2 := hb.alloc (.cells #[] 5)
    go_enter Tryz.func54, Tryz.ntmps54
    go_wp2_with (first
      | (at_builtin; refine wpList_append_bs _ rfl (.tmp 5) (.tmp 6) rfl w.heap.size _ _ _ _ rfl ho _ n c zs rfl hb2 (fun h => by simp at h) (by omega) (by simp) ?_; intro ao' c' w1 ho1 hg1))
    go_ret
    have hz : 0 + n = n := by omega
    rw [hz] at ho1
    rw [List.nil_append] at ho1
    exact copied_of_owns ho1 hb.bytes ((((Below.refl _ w).alloc (Nat.le_refl _) _)).grown hg1 (by simp) (fun k e => (ho.lt k e).1))
/-- Bytes in a row that is new since w and may be written. -/
structure New (w w' : World) (ao : Option Addr) (n c : Nat) (zs : List Int) : Prop where
  bs : Bs w' ao n zs
  cap : n ≤ c
  max : c ≤ 9223372036854775807
  nil : ao = none → c = 0
  bel : Below w.heap.size w w'
  own : ∀ a, ao = some a → w.heap.size ≤ a.block ∧ a = ⟨a.block, 0, none⟩ ∧ ∃ cur t, w'.heap[a.block]? = some (.cells cur t (0, 0))
theorem New.none (w : World) : New w w none 0 0 [] := ⟨⟨rfl, fun i => by simp [g], .inl rfl⟩, Nat.le_refl _, by omega, fun _ => rfl, Below.refl _ _, fun a h => by simp at h⟩
theorem New.of_owns {w w' : World} {B n c : Nat} {ao : Option Addr} {zs : List Int} (h : w'.ownsRow B 5 1 (.slice ao n c) n (bv zs)) (hb : Bytes zs) (hB : w.heap.size ≤ B) (hbel : Below w.heap.size w w') : New w w' ao n c zs := by
  refine ⟨bs_of_owns h hb, cap_of_owns h, ?_, nil_cap h, hbel, fun a ha => ?_⟩
  · rcases h.2 with ⟨e, _⟩ | ⟨_, _, _, e, _, _, _, h, _⟩
    · simp at e; omega
    · simp at e; unfold maxLen at h; omega
  · rcases h.2 with ⟨e, _⟩ | ⟨gb, _, cur, e, hg, hgg, _⟩
    · simp at e; rw [e.1] at ha; simp at ha
    · simp at e; rw [e.1] at ha; cases ha; exact ⟨Nat.le_trans hB hg, rfl, cur, _, hgg⟩
/-- Earlier blocks ahead of it. -/
theorem New.from {w0 w w' : World} {ao : Option Addr} {n c : Nat} {zs : List Int} (h : New w w' ao n c zs) (hb : Below w0.heap.size w0 w) : New w0 w' ao n c zs :=
  ⟨h.bs, h.cap, h.max, h.nil, hb.trans (h.bel.mono hb.size), fun a ha => by have := h.own a ha; exact ⟨Nat.le_trans hb.size this.1, this.2⟩⟩
set_option maxRecDepth 100000 in
theorem CloneNew_any (n c : Nat) (ao : Option Addr) (zs : List Int) (w : World) (hb : Bs w ao n zs) (hc : n ≤ c) (hnil : ao = none → c = 0) (hn : n ≤ 100000000) :
    Calls Tryz.prog 54 #[.slice ao n c] w fun r w' => ∃ ao' c', r = .returned (.slice ao' n c') ∧ New w w' ao' n c' zs := by
  cases ao with
  | none =>
    obtain rfl : c = 0 := hnil rfl
    obtain rfl : n = 0 := by omega
    obtain rfl : zs = [] := List.eq_nil_of_length_eq_zero hb.1
    have H : Hid (New w w none 0 0 []) := New.none w
    clear hb hnil
    have hq : ∀ w : World, (binOp .eql 25 (.slice none 0 0) (.slice none 0 0)).run Tryz.prog w = .ok (.bool true) w := fun w => eql_nil w none 0 0
    go_enter Tryz.func54, Tryz.ntmps54
    go_wp2
    go_ret
    exact ⟨_, _, rfl, H.out⟩
  | some a =>
    clear hnil
    have hq : ∀ w : World, (binOp .eql 25 (.slice (some a) n c) (.slice none 0 0)).run Tryz.prog w = .ok (.bool false) w := fun w => eql_nil w (some a) n c
    have ho := emptyB (w := w) (Nat.le_refl _)
    have hb2 := hb.alloc (.cells #[] 5)
    go_enter Tryz.func54, Tryz.ntmps54
    go_wp2_with (first
      | (at_builtin; refine wpList_append_bs _ rfl (.tmp 5) (.tmp 6) rfl w.heap.size _ _ _ _ rfl ho _ n c zs rfl hb2 (fun h => by simp at h) (by omega) (by simp) ?_; intro ao' c' w1 ho1 hg1))
    go_ret
    have hz : 0 + n = n := by omega
    rw [hz] at ho1
    rw [List.nil_append] at ho1
    exact ⟨_, _, rfl, New.of_owns ho1 hb.bytes (Nat.le_refl _) ((((Below.refl _ w).alloc (Nat.le_refl _) _)).grown hg1 (by simp) (fun k e => (ho.lt k e).1))⟩
end Go.Proofs.YtoohanojfoichaaGreatDoor

/- The walks of the program's reader: Read, pass, Num, Bytes, Text, End. -/
namespace Go.Proofs.YtoohanojfoichaaGreatDoor
set_option linter.unusedVariables false
open Go.RowKit Go.Maps
open Lz (g)
open Cur

theorem BsB.nil (w : World) (L : Nat) (ao : Option Addr) : BsB w L ao 0 [] := ⟨rfl, fun i => by simp [g], .inl rfl⟩
theorem rd_failed {w w' : World} {p L n c : Nat} {ao : Option Addr} {k : Int} {s : St} (h : RdP w p L s) (hd : Hd 161 w p ao n c s.2) (hk : k ≠ 0) (hf : Failed 161 w p ao n c s.2 k w') : RdP w' p L (fl k s) := by
  obtain ⟨_, _, _, _, _, _, _, _, _, hL, _⟩ := id h
  obtain ⟨hfr, ⟨he, hx⟩ | ⟨he, rfl⟩⟩ := hf
  · unfold fl; rw [if_pos he]
    exact ⟨none, 0, 0, hx, BsB.nil _ _ _, by omega, by omega, by omega, fun _ => rfl, Nat.le_trans hL hfr.size, .inr rfl⟩
  · unfold fl; rw [if_neg he]; exact h
/-- Bytes that are told: where they lie, and how the reader stands. -/
def Passed (w w' : World) (p L : Nat) (s' : St) (zs : List Int) (r : Ending) : Prop :=
  ∃ ao c, r = .returned (.slice ao zs.length c) ∧ BsB w' L ao zs.length zs ∧ zs.length ≤ c ∧ c ≤ 9223372036854775807 ∧ (ao = none → c = 0) ∧ RdP w' p L s' ∧ Fr (One p) w w'
theorem passed_of {w : World} {p L k n c : Nat} {ao : Option Addr} {s : St} (h : RdP w p L s) (hd : Hd 161 w p ao n c s.2) (hb : BsB w L ao n s.1) (hnc : n ≤ c) (hc : c ≤ 9223372036854775807) (hn : n ≤ 1000000) (hnil : ao = none → c = 0) (hL : L ≤ w.heap.size) (hcan : s.2 = 0 ∨ s.1 = []) (hk : k ≤ n) :
    Passed w (w.setCell ⟨p, 0, none⟩ (.slice (if c = k then ao else Option.map (fun x => x.add k) ao) (n - k) (c - k))) p L (ps k s) (pa k s) (.returned (.slice ao k c)) := by
  have hfr : Fr (One p) w (w.setCell ⟨p, 0, none⟩ (.slice (if c = k then ao else Option.map (fun x => x.add k) ao) (n - k) (c - k))) := (Fr.refl (One p) w).set (p := ⟨p, 0, none⟩) _ (fun _ => rfl)
  have hlen := hb.1
  have e1 : ps k s = (s.1.drop k, s.2) := by unfold ps; rw [if_neg (by omega)]
  have e2 : pa k s = s.1.take k := by unfold pa; rw [if_neg (by omega)]
  have e3 : (s.1.take k).length = k := by simp; omega
  have hb1 := hb.one hL hfr hd (by decide)
  rw [e1, e2]
  refine ⟨ao, c, by rw [e3], ?_, by omega, hc, hnil, ⟨_, n - k, c - k, hd.set0 _ _ _, hb1.rest k hk hnc, by omega, by omega, by omega, ?_, Nat.le_trans hL hfr.size, ?_⟩, hfr⟩
  · rw [e3]
    refine ⟨e3, bytes_take hb1.2.1 k, ?_⟩
    by_cases e : k = 0
    · exact .inl e
    · rcases hb1.2.2 with h0 | ⟨b, off, h1, h2, h3⟩
      · omega
      · refine .inr ⟨b, off, h1, h2, ?_⟩
        have := h3.cut 0 k
        simpa using this
  · intro e
    by_cases e4 : c = k
    · omega
    · rw [if_neg e4] at e
      cases ao with
      | none => have := hnil rfl; omega
      | some a => simp at e
  · rcases hcan with hc0 | hc0
    · exact .inl hc0
    · exact .inr (by simp [hc0])

set_option maxRecDepth 100000 in
theorem pass_any (p L k : Nat) (s : St) (w : World) (h : RdP w p L s) (hk : k ≤ 9223372036854775807) :
    Calls Tryz.prog 101 #[.pointer (some ⟨p, 0, none⟩), .int .i64 k] w fun r w' => Passed w w' p L (ps k s) (pa k s) r := by
  have hR := id h
  obtain ⟨ao, n, c, hd, hb, hnc, hc, hn, hnil, hL, hcan⟩ := h
  have h0 := hd.c0
  have f0 := hd.f 0
  have HD : Hid (Hd 161 w p ao n c s.2) := hd
  have HR : Hid (RdP w p L s) := hR
  by_cases hlt : n < k
  · have hl : s.1.length < k := by rw [hb.1]; exact hlt
    have e1 : ps k s = fl 2 s := by unfold ps; rw [if_pos hl]
    have e2 : pa k s = [] := by unfold pa; rw [if_pos hl]
    rw [e1, e2]
    clear e1 e2 hl hb hcan hnil hd hR
    go_enter Tryz.func101, Tryz.ntmps101
    go_wp2_with fail
    refine (fail_any 161 p n c ao s.2 2 w HD.out).mono ?_
    rintro r wx ⟨rfl, hF⟩
    have HX : Hid (RdP wx p L (fl 2 s)) := rd_failed HR.out HD.out (by decide) hF
    have HF : Hid (Fr (One p) w wx) := hF.1
    clear hF
    go_wp2
    go_ret
    exact ⟨none, 0, rfl, BsB.nil _ _ _, by simp, by omega, fun _ => rfl, HX.out, HF.out⟩
  · have H1 : Hid (c = k → Passed w (w.setCell ⟨p, 0, none⟩ (.slice ao (n - k) 0)) p L (ps k s) (pa k s) (.returned (.slice ao k k))) := fun e => by
      have := passed_of hR hd hb hnc hc hn hnil hL hcan (by omega : k ≤ n)
      rw [if_pos e] at this
      subst e
      rw [Nat.sub_self] at this
      exact this
    have H2 : Hid (¬ c = k → Passed w (w.setCell ⟨p, 0, none⟩ (.slice (Option.map (fun x => x.add k) ao) (n - k) (c - k))) p L (ps k s) (pa k s) (.returned (.slice ao k c))) := fun e => by
      have := passed_of hR hd hb hnc hc hn hnil hL hcan (by omega : k ≤ n)
      rw [if_neg e] at this
      exact this
    clear hb hcan hnil hd hR
    go_enter Tryz.func101, Tryz.ntmps101
    go_wp2
    · go_ret
      exact H1.out (by assumption)
    · go_ret
      exact H2.out (by assumption)

/-- Bits that do not meet. -/
theorem ofInt_i64 (a : Nat) (ha : a < 18446744073709551616) : (BitVec.ofInt 64 (a : Int)).toNat = a := by
  rw [BitVec.toNat_ofInt]; omega
theorem or_add {x c m : Nat} (hx : x < 2 ^ m) (hc : c ≤ 255) (hm : m ≤ 24) : bits .or .i64 (x : Int) ((c * 2 ^ m : Nat) : Int) = ((x + c * 2 ^ m : Nat) : Int) := by
  have h2 : 2 ^ m ≤ 16777216 := by
    have := Nat.pow_le_pow_right (n := 2) (by omega) hm
    omega
  have h3 : c * 2 ^ m ≤ 255 * 16777216 := Nat.mul_le_mul hc h2
  have e : x ||| c * 2 ^ m = x + c * 2 ^ m := by
    have := Nat.shiftLeft_add_eq_or_of_lt hx c
    rw [Nat.shiftLeft_eq, Nat.or_comm] at this
    omega
  show IntKind.i64.wrap ((BitVec.ofInt 64 (x : Int) ||| BitVec.ofInt 64 ((c * 2 ^ m : Nat) : Int)).toNat : Int) = _
  rw [BitVec.toNat_or, ofInt_i64 x (by omega), ofInt_i64 _ (by omega), e]
  rw [IntKind.wrap_i64]; omega
theorem pow256 {m n : Nat} (h : m ≤ n) : (256 : Int) ^ m ≤ 256 ^ n := by
  have h1 := Nat.pow_le_pow_right (n := 256) (by omega) h
  have e : ∀ k : Nat, ((256 ^ k : Nat) : Int) = (256 : Int) ^ k := fun k => by rw [Int.natCast_pow]; rfl
  rw [← e, ← e]
  exact Int.ofNat_le.2 h1
theorem le_append (xs ys : List Int) : le (xs ++ ys) = le xs + 256 ^ xs.length * le ys := by
  induction xs with
  | nil => simp [le]
  | cons x xs ih =>
    simp only [List.cons_append, le, ih, List.length_cons, Int.pow_succ, Int.mul_add]
    rw [Int.mul_comm (256 ^ xs.length) 256, Int.mul_assoc, Int.add_assoc]
theorem le_bound {zs : List Int} (h : Bytes zs) : 0 ≤ le zs ∧ le zs < 256 ^ zs.length := by
  induction zs with
  | nil => simp [le]
  | cons x xs ih =>
    have hx := h x (by simp)
    have := ih (fun y hy => h y (by simp [hy]))
    simp only [le, List.length_cons, Int.pow_succ]
    omega
theorem le_take_lt {zs : List Int} (h : Bytes zs) (i : Nat) : le (zs.take i) < 256 ^ i := by
  have h1 := (le_bound (h.take i)).2
  refine Int.lt_of_lt_of_le h1 ?_
  exact pow256 (by simp; omega)
theorem le_next (zs : List Int) (i x y : Nat) (hi : i < zs.length) (hx : (x : Int) = le (zs.take i)) (hy : g zs i = (y : Int)) (m : Nat) (hm : m = 256 ^ i) : ((x + y * m : Nat) : Int) = le (zs.take (i + 1)) := by
  rw [List.take_succ_eq_append_getElem hi, le_append, ← hx, ← Lz.g_lt _ _ hi, hy]
  simp only [le, Int.mul_zero, Int.add_zero]
  rw [List.length_take, Nat.min_eq_left (by omega), hm]
  have : ((y * 256 ^ i : Nat) : Int) = 256 ^ i * (y : Int) := by rw [Int.natCast_mul, Int.natCast_pow, Int.mul_comm]; rfl
  rw [Int.natCast_add, this]

set_option maxRecDepth 100000 in
theorem Num_any (p L : Nat) (n : Int) (s : St) (w : World) (h : RdP w p L s) (hn : -9223372036854775808 ≤ n ∧ n ≤ 9223372036854775807) :
    Calls Tryz.prog 58 #[.pointer (some ⟨p, 0, none⟩), .int .i64 n] w fun r w' => r = .returned (.int .i64 (numA n s)) ∧ RdP w' p L (numS n s) ∧ Fr (One p) w w' := by
  have HR : Hid (RdP w p L s) := h
  by_cases hw : 1 ≤ n ∧ n ≤ 4
  · obtain ⟨k, rfl⟩ : ∃ k : Nat, n = (k : Int) := ⟨n.toNat, by omega⟩
    have e1 : numS k s = ps k s := by unfold numS; rw [if_pos hw]; simp
    have e2 : numA k s = le (pa k s) := by unfold numA; rw [if_pos hw]; simp
    rw [e1, e2]
    have hd : decide (1 ≤ (k : Int) ∧ (k : Int) ≤ 4) = true := decide_eq_true hw
    clear e1 e2 h hn
    go_enter Tryz.func58, Tryz.ntmps58
    go_wp2_with fail
    refine (isWidth_any k w).mono ?_
    rintro r wx ⟨rfl, rfl⟩
    rw [hd]
    go_wp2_with fail
    refine (pass_any p L k s wx HR.out (by omega)).mono ?_
    rintro r w1 ⟨ao, c, rfl, hb, hc, hc2, hnil, hR1, hF1⟩
    generalize hzs : pa k s = zs at *
    have hz4 : zs.length ≤ 4 := by rw [← hzs]; unfold pa; split <;> simp; omega
    have HX : Hid (le zs = le zs) := rfl
    generalize hL : le zs = R
    have HL : Hid (le zs = R) := hL
    have HZ : Hid (pa k s = zs) := hzs
    clear hL hzs hd hw HX
    have HR1 : Hid (RdP w1 p L (ps k s)) := hR1
    have HF1 : Hid (Fr (One p) wx w1) := hF1
    clear hR1 hF1 hnil HR
    obtain ⟨hlen, hby, hseg⟩ := hb
    clear hlen
    have HB4 : Hid (Bytes zs) := Bytes.of_g hby
    go_wp2
    go_loopw [5, 19] (fun s5 s19 wr => ∃ i x : Nat, s5 = .int .i64 x ∧ s19 = .int .i64 i ∧ i ≤ zs.length ∧ (x : Int) = le (zs.take i) ∧ wr = w1) (fun _ s19 _ => zs.length - (intOf s19).toNat)
    case atStart => exact ⟨0, 0, rfl, rfl, by omega, by simp [le], rfl⟩
    case round =>
      obtain ⟨i, x, rfl, rfl, hi, hx, rfl⟩ := hrel
      have HX : Hid ((x : Int) = le (zs.take i)) := hx
      by_cases hlt : i < zs.length
      · rcases hseg with h0 | ⟨b, off, rfl, hbl, hsg⟩
        · omega
        have hc1 := hsg i (by omega)
        have hcb := hby i
        generalize hq : g zs i = q at hc1 hcb
        obtain ⟨y, rfl⟩ : ∃ y : Nat, q = (y : Int) := ⟨q.toNat, by omega⟩
        clear hx hsg hby
        have hB4 := HB4.out
        obtain rfl | rfl | rfl | rfl : i = 0 ∨ i = 1 ∨ i = 2 ∨ i = 3 := by omega
        · have e3 : bits .or .i64 (x : Int) (y : Int) = ((x + y * 1 : Nat) : Int) := by
            have := or_add (x := x) (c := y) (m := 0) (by have := le_take_lt hB4 0; have := HX.out; omega) (by omega) (by omega)
            simpa using this
          have H9 : Hid (((x + y * 1 : Nat) : Int) = le (zs.take (0 + 1))) := le_next zs 0 x y hlt HX.out hq 1 rfl
          rw [Nat.add_zero] at hc1
          rw [show ((0 : Nat) : Int) = 0 from rfl]
          generalize x + y * 1 = z at *
          go_wp2
          go_roundw
          case rel => exact ⟨0 + 1, z, rfl, by go_num, by omega, H9.out, trivial⟩
          case measure => simp [intOf]; omega
        · have e3 : bits .or .i64 (x : Int) ((y : Int) * 256) = ((x + y * 256 : Nat) : Int) := by
            have := or_add (x := x) (c := y) (m := 8) (by have := le_take_lt hB4 1; have := HX.out; omega) (by omega) (by omega)
            simpa using this
          have H9 : Hid (((x + y * 256 : Nat) : Int) = le (zs.take (1 + 1))) := le_next zs 1 x y hlt HX.out hq 256 rfl
          generalize x + y * 256 = z at *
          go_wp2
          go_roundw
          case rel => exact ⟨1 + 1, z, rfl, by go_num, by omega, H9.out, trivial⟩
          case measure => simp [intOf]; omega
        · have e3 : bits .or .i64 (x : Int) ((y : Int) * 65536) = ((x + y * 65536 : Nat) : Int) := by
            have := or_add (x := x) (c := y) (m := 16) (by have := le_take_lt hB4 2; have := HX.out; omega) (by omega) (by omega)
            simpa using this
          have H9 : Hid (((x + y * 65536 : Nat) : Int) = le (zs.take (2 + 1))) := le_next zs 2 x y hlt HX.out hq 65536 rfl
          generalize x + y * 65536 = z at *
          go_wp2
          go_roundw
          case rel => exact ⟨2 + 1, z, rfl, by go_num, by omega, H9.out, trivial⟩
          case measure => simp [intOf]; omega
        · have e3 : bits .or .i64 (x : Int) ((y : Int) * 16777216) = ((x + y * 16777216 : Nat) : Int) := by
            have := or_add (x := x) (c := y) (m := 24) (by have := le_take_lt hB4 3; have := HX.out; omega) (by omega) (by omega)
            simpa using this
          have H9 : Hid (((x + y * 16777216 : Nat) : Int) = le (zs.take (3 + 1))) := le_next zs 3 x y hlt HX.out hq 16777216 rfl
          generalize x + y * 16777216 = z at *
          go_wp2
          go_roundw
          case rel => exact ⟨3 + 1, z, rfl, by go_num, by omega, H9.out, trivial⟩
          case measure => simp [intOf]; omega
      · obtain rfl : i = zs.length := by omega
        have hxR : (x : Int) = R := by
          have := HX.out
          rw [List.take_length] at this
          rw [this]; exact HL.out
        clear hx
        go_wp2
        go_ret
        exact ⟨by rw [HZ.out, HL.out, ← hxR]; rfl, HR1.out, HF1.out⟩
  · have e1 : numS n s = fl 1 s := by unfold numS; rw [if_neg hw]
    have e2 : numA n s = 0 := by unfold numA; rw [if_neg hw]
    rw [e1, e2]
    have hd : decide (1 ≤ n ∧ n ≤ 4) = false := decide_eq_false hw
    obtain ⟨ao, m, c, hx, _⟩ := id h
    have HD : Hid (Hd 161 w p ao m c s.2) := hx
    clear e1 e2 h hn hx
    go_enter Tryz.func58, Tryz.ntmps58
    go_wp2_with fail
    refine (isWidth_any n w).mono ?_
    rintro r wx ⟨rfl, rfl⟩
    rw [hd]
    go_wp2_with fail
    refine (fail_any 161 p m c ao s.2 1 wx HD.out).mono ?_
    rintro r w1 ⟨rfl, hF⟩
    have HX : Hid (RdP w1 p L (fl 1 s)) := rd_failed HR.out HD.out (by decide) hF
    have HF : Hid (Fr (One p) wx w1) := hF.1
    clear hF
    go_wp2
    go_ret
    exact ⟨rfl, HX.out, HF.out⟩

set_option maxRecDepth 100000 in
theorem Read_any (n c : Nat) (ao : Option Addr) (zs : List Int) (w : World) (hb : Bs w ao n zs) (hc : n ≤ c) (hnil : ao = none → c = 0) (hn : n ≤ 1000000) :
    Calls Tryz.prog 57 #[.slice ao n c] w fun r w' => ∃ p, r = .returned (.pointer (some ⟨p, 0, none⟩)) ∧ w.heap.size ≤ p ∧ RdP w' p w'.heap.size (zs, 0) ∧ Below w.heap.size w w' := by
  have HB : Hid (Bs w ao n zs) := hb
  have hlen := hb.1
  clear hb
  go_enter Tryz.func57, Tryz.ntmps57
  go_wp2_with fail
  refine (Clone_any n c ao zs w HB.out hc hnil (by omega)).mono ?_
  rintro r w1 ⟨ao', c', rfl, hb', hc', hc2, hnil', hbel⟩
  have HB' : Hid (Bs w1 ao' zs.length zs) := hb'
  have HN' : Hid (ao' = none → c' = 0) := hnil'
  have HW : Hid (Below w.heap.size w w1) := hbel
  clear hb' hbel hnil' hnil
  go_wp2
  go_ret
  subst hlen
  have hb2 := HB'.out.alloc (.cells #[.slice ao' zs.length c', .int .i64 0] 161)
  exact ⟨w1.heap.size, rfl, HW.out.size, ⟨ao', zs.length, c', Hd.new _ _ _ _ _ _, hb2.toB, hc', hc2, hn, HN'.out, Nat.le_refl _, .inl rfl⟩, HW.out.alloc HW.out.size _⟩
end Go.Proofs.YtoohanojfoichaaGreatDoor

/- The walks of the program's writer: Bytes, Num, Text, Done. -/
namespace Go.Proofs.YtoohanojfoichaaGreatDoor
set_option linter.unusedVariables false
open Go.RowKit Go.Maps
open Lz (g)
open Cur

/-- What a call leaves of a writer. -/
def WrDone (w w' : World) (p B : Nat) (v : Value) (s' : St) : Prop := ∃ v', WrP w' p B v' s' ∧ Fr (Two p v) w w' ∧ Lie w v v'
theorem WrP.shape {w : World} {p B : Nat} {v : Value} {s : St} (h : WrP w p B v s) : ∃ ao n c, v = .slice ao n c ∧ Hd 120 w p ao n c s.2 ∧ s.1.length = n := by
  obtain ⟨ao, n, c, h1, h2, h3, _⟩ := h
  exact ⟨ao, n, c, h1, h2, by have := h3.1; rw [bv_length] at this; omega⟩
theorem WrP.refl {w : World} {p B : Nat} {v : Value} {s : St} (h : WrP w p B v s) : WrDone w w p B v s := ⟨v, h, Fr.refl _ _, Lie.refl _ _⟩
theorem wr_failed {w w' : World} {p B n c : Nat} {ao : Option Addr} {k : Int} {s : St} (h : WrP w p B (.slice ao n c) s) (hf : Failed 120 w p ao n c s.2 k w') : WrDone w w' p B (.slice ao n c) (fl k s) := by
  obtain ⟨hfr, ⟨he, hx⟩ | ⟨he, rfl⟩⟩ := hf
  · unfold fl; rw [if_pos he]
    exact ⟨.slice none 0 0, ⟨none, 0, 0, rfl, hx, World.ownsRow_nil _ _ _ _, Bytes.nil, .inr rfl⟩, hfr.mono (fun i _ h => .inl h), fun k hk => by simp [Value.ownBlock] at hk⟩
  · unfold fl; rw [if_neg he]; exact h.refl
/-- One call behind the other. -/
theorem WrDone.trans {w w1 w2 : World} {p B : Nat} {v v1 : Value} {s2 : St} (hf : Fr (Two p v) w w1) (hl : Lie w v v1) (h2 : WrDone w1 w2 p B v1 s2) : WrDone w w2 p B v s2 := by
  obtain ⟨v2, h3, h4, h5⟩ := h2
  refine ⟨v2, h3, hf.trans h4 (fun i hi hx => ?_), hl.trans hf.size h5⟩
  rcases hx with hx | hx
  · exact .inl hx
  · rcases hl i hx with h6 | h6
    · exact .inr h6
    · omega
/-- The writer, where new blocks alone have come. -/
theorem WrP.below {w w' : World} {p B : Nat} {v : Value} {s : St} (h : WrP w p B v s) (hb : Below w.heap.size w w') : WrP w' p B v s := by
  obtain ⟨ao, n, c, rfl, h2, h3, h4⟩ := h
  have hf : Fr (fun _ => False) w w' := Fr.of_below hb
  exact ⟨ao, n, c, rfl, h2.fr hf id, owns_fr h3 hf (fun _ _ => id), h4⟩
theorem wr_byt {w w1 : World} {p B n c m : Nat} {ao ao' : Option Addr} {c' : Nat} {zs : List Int} {s : St} (h : WrP w p B (.slice ao n c) s) (h0 : s.2 = 0) (ho : w1.ownsRow B 5 1 (.slice ao' m c') m (bv (s.1 ++ zs))) (hg : w.grownBy w1 (Value.slice ao n c).ownBlock) (hl : Lie w (.slice ao n c) (.slice ao' m c')) (hz : Bytes zs) :
    WrDone w (w1.setCell ⟨p, 0, none⟩ (.slice ao' m c')) p B (.slice ao n c) (wByt zs s) := by
  obtain ⟨_, _, _, hv, h2, h3, h4, h5⟩ := h
  obtain ⟨rfl, rfl, rfl⟩ : ao = _ ∧ n = _ ∧ c = _ := by simpa using hv
  have hne := owns_ne_hd h3 h2 (by decide)
  have hf : Fr (Two p (.slice ao n c)) w w1 := Fr.of_grown hg (fun k hk => .inr hk)
  have hd1 : Hd 120 w1 p ao n c s.2 := h2.fr (Fr.of_grown (S := fun k => (Value.slice ao n c).ownBlock = some k) hg (fun k hk => hk)) hne
  have hd2 := hd1.set0 ao' m c'
  have e : wByt zs s = (s.1 ++ zs, 0) := by unfold wByt; rw [if_pos h0]
  rw [e]
  refine ⟨.slice ao' m c', ⟨ao', m, c', rfl, by rw [h0] at hd2; exact hd2, ?_, h4.append hz, .inl rfl⟩, hf.set (p := ⟨p, 0, none⟩) _ (fun _ => .inl rfl), hl⟩
  refine owns_fr (S := One p) ho ((Fr.refl _ _).set (p := ⟨p, 0, none⟩) _ (fun _ => rfl)) (fun k hk hx => ?_)
  have := owns_ne_hd ho hd1 (by decide)
  rw [hk, hx] at this
  exact this rfl

set_option maxRecDepth 100000 in
theorem wBytes_any (p B n c : Nat) (ao : Option Addr) (v : Value) (zs : List Int) (s : St) (w : World) (h : WrP w p B v s) (hB : B ≤ w.heap.size) (hb : Bs w ao n zs) (hnil : ao = none → c = 0) (hbd : s.1.length + n ≤ 100000000) :
    Calls Tryz.prog 62 #[.pointer (some ⟨p, 0, none⟩), .slice ao n c] w fun r w' => r = .returned (.tuple #[]) ∧ WrDone w w' p B v (wByt zs s) := by
  have HW : Hid (WrP w p B v s) := h
  obtain ⟨vo, vn, vc, rfl, hd, ho, hby, hcan⟩ := h
  have hlen : s.1.length = vn := by have := ho.1; rw [bv_length] at this; omega
  have h0 := hd.c0
  have h1 := hd.c1
  by_cases he : s.2 = 0
  · have hne := owns_ne_hd ho hd (by decide)
    have HD : Hid (Hd 120 w p vo vn vc s.2) := hd
    have HZ : Hid (Bytes zs) := hb.bytes
    have HE : Hid (s.2 = 0) := he
    rw [he] at h1
    clear hd he
    go_enter Tryz.func62, Tryz.ntmps62
    go_wp2_with (first
      | (at_builtin
         refine wpList_append_at _ rfl (.tmp 15) (.tmp 16) rfl B vo vn vc s.1 rfl ho ao n c zs rfl hb hnil (by omega) hB ?_
         intro ao' c' w1 ho1 hg1 hl1
         have hd1 : Hd 120 w1 p vo vn vc s.2 := HD.out.fr (Fr.of_grown (S := fun k => (Value.slice vo vn vc).ownBlock = some k) hg1 (fun k hk => hk)) hne
         have h01 := hd1.c0
         have f01 := hd1.f 0
         have HG : Hid (w.grownBy w1 (Value.slice vo vn vc).ownBlock) := hg1
         have HL : Hid (Lie w (.slice vo vn vc) (.slice ao' (vn + n) c')) := hl1
         have HO : Hid (w1.ownsRow B 5 1 (.slice ao' (vn + n) c') (vn + n) (bv (s.1 ++ zs))) := ho1
         clear hg1 hl1 ho1 hd1))
    go_end0
    exact ⟨rfl, wr_byt HW.out HE.out HO.out HG.out HL.out HZ.out⟩
  · have HX : Hid (WrDone w w p B (.slice vo vn vc) (wByt zs s)) := by
      have : wByt zs s = s := by unfold wByt; rw [if_neg he]
      rw [this]; exact HW.out.refl
    clear hd ho hby hcan hb
    go_enter Tryz.func62, Tryz.ntmps62
    go_wp2
    go_end0
    exact ⟨rfl, HX.out⟩

set_option maxRecDepth 100000 in
theorem Done_any (p B : Nat) (v : Value) (s : St) (w : World) (h : WrP w p B v s) (hbd : s.1.length ≤ 100000000) :
    Calls Tryz.prog 66 #[.pointer (some ⟨p, 0, none⟩)] w fun r w' => Copied w w' s.1 r := by
  obtain ⟨vo, vn, vc, rfl, hd, ho, hby, hcan⟩ := h
  have hlen : s.1.length = vn := by have := ho.1; rw [bv_length] at this; omega
  have h0 := hd.c0
  have HB : Hid (Bs w vo vn s.1) := bs_of_owns ho hby
  have HN : Hid (vo = none → vc = 0) := nil_cap ho
  have hc := cap_of_owns ho
  clear hd ho
  go_enter Tryz.func66, Tryz.ntmps66
  go_wp2_with fail
  refine (Clone_any vn vc vo s.1 w HB.out hc HN.out (by omega)).mono ?_
  rintro r w2 ⟨ao', c', rfl, hb', hc', hc2, hnil', hbel⟩
  have HX : Hid (Copied w w2 s.1 (.returned (.slice ao' vn c'))) := ⟨ao', c', by rw [hlen], hb', hc', hc2, hnil', hbel⟩
  clear hb' hbel hnil'
  go_wp2
  go_ret
  exact HX.out

/-- The number's cells, the first i of them laid. -/
def nc (x : Int) (i : Nat) : Array Value := #[.int .u8 (if 0 < i then x % 256 else 0), .int .u8 (if 1 < i then x / 256 % 256 else 0), .int .u8 (if 2 < i then x / 65536 % 256 else 0), .int .u8 (if 3 < i then x / 16777216 % 256 else 0)]
theorem by_length : ∀ (n : Nat) (x : Int), (by' n x).length = n
  | 0, _ => rfl
  | n + 1, x => by simp [by', by_length n]
theorem by_bytes : ∀ (n : Nat) (x : Int), Bytes (by' n x)
  | 0, _ => Bytes.nil
  | n + 1, x => fun y hy => by
    rcases List.mem_cons.1 hy with rfl | hy
    · omega
    · exact by_bytes n _ y hy
theorem nc_bs {w : World} {q n : Nat} {x : Int} (hq : w.heap[q]? = some (.cells (nc x n) 165 (0, 0))) (hn : 1 ≤ n ∧ n ≤ 4) (hlt : q < w.heap.size) : Bs w (some ⟨q, 0, none⟩) n (by' n x) := by
  refine ⟨by_length _ _, (by_bytes _ _).g, .inr ⟨q, 0, rfl, hlt, fun i hi => ?_⟩⟩
  rw [by_length] at hi
  simp only [World.cell?, hq, Nat.zero_add]
  have e2 : x / 256 / 256 = x / 65536 := by omega
  have e3 : x / 65536 / 256 = x / 16777216 := by omega
  obtain rfl | rfl | rfl | rfl : n = 1 ∨ n = 2 ∨ n = 3 ∨ n = 4 := by omega
  · obtain rfl : i = 0 := by omega
    simp [nc, by', g]
  · obtain rfl | rfl : i = 0 ∨ i = 1 := by omega
    all_goals simp [nc, by', g]
  · obtain rfl | rfl | rfl : i = 0 ∨ i = 1 ∨ i = 2 := by omega
    all_goals simp [nc, by', g, e2]
  · obtain rfl | rfl | rfl | rfl : i = 0 ∨ i = 1 ∨ i = 2 ∨ i = 3 := by omega
    all_goals simp [nc, by', g, e2, e3]

set_option maxRecDepth 100000 in
theorem wNum_fits (p B : Nat) (v : Value) (x n : Int) (s : St) (w : World) (h : WrP w p B v s) (hB : B ≤ w.heap.size) (hbd : s.1.length ≤ 10000000) (hx : -9223372036854775808 ≤ x ∧ x ≤ 9223372036854775807) (hw : 1 ≤ n ∧ n ≤ 4 ∧ 0 ≤ x ∧ x < 256 ^ n.toNat) :
    Calls Tryz.prog 64 #[.pointer (some ⟨p, 0, none⟩), .int .i64 x, .int .i64 n] w fun r w' => r = .returned (.tuple #[]) ∧ WrDone w w' p B v (wByt (by' n.toNat x) s) := by
    have HW : Hid (WrP w p B v s) := h
    obtain ⟨hw1, hw2, hw3, hw4⟩ := hw
    have hd : decide (1 ≤ n ∧ n ≤ 4) = true := decide_eq_true ⟨hw1, hw2⟩
    obtain rfl | rfl | rfl | rfl : n = 1 ∨ n = 2 ∨ n = 3 ∨ n = 4 := by omega
    · have d1 : decide (x < 0) = false := decide_eq_false (by omega)
      have d2 : decide ((256 : Int) ≤ x) = false := decide_eq_false (by have h9 : x < 256 := hw4; omega)
      have HX0 : Hid (0 ≤ x ∧ x < 256) := ⟨hw3, hw4⟩
      clear hw1 hw2 hw4 h
      go_enter Tryz.func64, Tryz.ntmps64
      go_wp2_with fail
      refine (isWidth_any 1 w).mono ?_
      rintro r wx ⟨rfl, rfl⟩
      rw [hd]
      go_wp2
      go_loopw [27] (fun s27 wr => ∃ i : Nat, s27 = .int .i64 i ∧ i ≤ 1 ∧ wr.heap[wx.heap.size]? = some (.cells (nc x i) 165 (0, 0)) ∧ Below wx.heap.size wx wr) (fun s27 _ => 1 - (intOf s27).toNat)
      case atStart => exact ⟨0, rfl, by omega, heap_alloc_new wx _, (Below.refl _ _).alloc (Nat.le_refl _) _⟩
      case round =>
        obtain ⟨i, rfl, hi, hq, hbl⟩ := hrel
        have HB1 : Hid (Below wx.heap.size wx wr) := hbl
        clear hbl
        obtain rfl | rfl : i = 0 ∨ i = 1 := by omega
        · have hcell : wr.cell? ⟨wx.heap.size, 0, none⟩ = some (.int .u8 0) := by simp [World.cell?, hq, nc]
          have hfz : wr.frozen? ⟨wx.heap.size, 0, none⟩ = false := by simp [World.frozen?, hq]
          have HN : Hid ((wr.setCell ⟨wx.heap.size, 0, none⟩ (.int .u8 (x % 256))).heap[wx.heap.size]? = some (.cells (nc x (0 + 1)) 165 (0, 0))) := by
            show _ = _
            rw [heap_setCell_self hq]; rfl
          have HB2 : Hid (Below wx.heap.size wx (wr.setCell ⟨wx.heap.size, 0, none⟩ (.int .u8 (x % 256)))) := HB1.out.setCell (by simp) _
          clear hq
          rw [show ((0 : Nat) : Int) = 0 from rfl]
          go_wp2
          go_roundw
          case rel => exact ⟨0 + 1, by go_num, by omega, HN.out, HB2.out⟩
          case measure => simp [intOf]
        · have HS : Hid (Bs wr (some ⟨wx.heap.size, 0, none⟩) 1 (by' 1 x)) := nc_bs hq (by omega) (heap_lt hq)
          have HW2 : Hid (WrP wr p B v s) := HW.out.below HB1.out
          have hB2 : B ≤ wr.heap.size := Nat.le_trans hB HB1.out.size
          clear hq
          go_wp2_with fail
          refine (wBytes_any p B 1 4 _ v (by' 1 x) s wr HW2.out hB2 HS.out (fun h => by simp at h) (by omega)).mono ?_
          rintro r w2 ⟨rfl, hD⟩
          have HDn : Hid (WrDone wx w2 p B v (wByt (by' 1 x) s)) := WrDone.trans (Fr.of_below HB1.out) (Lie.refl _ _) hD
          clear hD
          go_wp2
          go_end0
          exact ⟨rfl, HDn.out⟩
    · have d1 : decide (x < 0) = false := decide_eq_false (by omega)
      have d2 : decide ((65536 : Int) ≤ x) = false := decide_eq_false (by have h9 : x < 65536 := hw4; omega)
      have HX0 : Hid (0 ≤ x ∧ x < 65536) := ⟨hw3, hw4⟩
      clear hw1 hw2 hw4 h
      go_enter Tryz.func64, Tryz.ntmps64
      go_wp2_with fail
      refine (isWidth_any 2 w).mono ?_
      rintro r wx ⟨rfl, rfl⟩
      rw [hd]
      go_wp2
      go_loopw [27] (fun s27 wr => ∃ i : Nat, s27 = .int .i64 i ∧ i ≤ 2 ∧ wr.heap[wx.heap.size]? = some (.cells (nc x i) 165 (0, 0)) ∧ Below wx.heap.size wx wr) (fun s27 _ => 2 - (intOf s27).toNat)
      case atStart => exact ⟨0, rfl, by omega, heap_alloc_new wx _, (Below.refl _ _).alloc (Nat.le_refl _) _⟩
      case round =>
        obtain ⟨i, rfl, hi, hq, hbl⟩ := hrel
        have HB1 : Hid (Below wx.heap.size wx wr) := hbl
        clear hbl
        obtain rfl | rfl | rfl : i = 0 ∨ i = 1 ∨ i = 2 := by omega
        · have hcell : wr.cell? ⟨wx.heap.size, 0, none⟩ = some (.int .u8 0) := by simp [World.cell?, hq, nc]
          have hfz : wr.frozen? ⟨wx.heap.size, 0, none⟩ = false := by simp [World.frozen?, hq]
          have HN : Hid ((wr.setCell ⟨wx.heap.size, 0, none⟩ (.int .u8 (x % 256))).heap[wx.heap.size]? = some (.cells (nc x (0 + 1)) 165 (0, 0))) := by
            show _ = _
            rw [heap_setCell_self hq]; rfl
          have HB2 : Hid (Below wx.heap.size wx (wr.setCell ⟨wx.heap.size, 0, none⟩ (.int .u8 (x % 256)))) := HB1.out.setCell (by simp) _
          clear hq
          rw [show ((0 : Nat) : Int) = 0 from rfl]
          go_wp2
          go_roundw
          case rel => exact ⟨0 + 1, by go_num, by omega, HN.out, HB2.out⟩
          case measure => simp [intOf]
        · have hcell : wr.cell? ⟨wx.heap.size, 1, none⟩ = some (.int .u8 0) := by simp [World.cell?, hq, nc]
          have hfz : wr.frozen? ⟨wx.heap.size, 1, none⟩ = false := by simp [World.frozen?, hq]
          have HN : Hid ((wr.setCell ⟨wx.heap.size, 1, none⟩ (.int .u8 (x / 256 % 256))).heap[wx.heap.size]? = some (.cells (nc x (1 + 1)) 165 (0, 0))) := by
            show _ = _
            rw [heap_setCell_self hq]; rfl
          have HB2 : Hid (Below wx.heap.size wx (wr.setCell ⟨wx.heap.size, 1, none⟩ (.int .u8 (x / 256 % 256)))) := HB1.out.setCell (by simp) _
          clear hq
          go_wp2
          go_roundw
          case rel => exact ⟨1 + 1, by go_num, by omega, HN.out, HB2.out⟩
          case measure => simp [intOf]
        · have HS : Hid (Bs wr (some ⟨wx.heap.size, 0, none⟩) 2 (by' 2 x)) := nc_bs hq (by omega) (heap_lt hq)
          have HW2 : Hid (WrP wr p B v s) := HW.out.below HB1.out
          have hB2 : B ≤ wr.heap.size := Nat.le_trans hB HB1.out.size
          clear hq
          go_wp2_with fail
          refine (wBytes_any p B 2 4 _ v (by' 2 x) s wr HW2.out hB2 HS.out (fun h => by simp at h) (by omega)).mono ?_
          rintro r w2 ⟨rfl, hD⟩
          have HDn : Hid (WrDone wx w2 p B v (wByt (by' 2 x) s)) := WrDone.trans (Fr.of_below HB1.out) (Lie.refl _ _) hD
          clear hD
          go_wp2
          go_end0
          exact ⟨rfl, HDn.out⟩
    · have d1 : decide (x < 0) = false := decide_eq_false (by omega)
      have d2 : decide ((16777216 : Int) ≤ x) = false := decide_eq_false (by have h9 : x < 16777216 := hw4; omega)
      have HX0 : Hid (0 ≤ x ∧ x < 16777216) := ⟨hw3, hw4⟩
      clear hw1 hw2 hw4 h
      go_enter Tryz.func64, Tryz.ntmps64
      go_wp2_with fail
      refine (isWidth_any 3 w).mono ?_
      rintro r wx ⟨rfl, rfl⟩
      rw [hd]
      go_wp2
      go_loopw [27] (fun s27 wr => ∃ i : Nat, s27 = .int .i64 i ∧ i ≤ 3 ∧ wr.heap[wx.heap.size]? = some (.cells (nc x i) 165 (0, 0)) ∧ Below wx.heap.size wx wr) (fun s27 _ => 3 - (intOf s27).toNat)
      case atStart => exact ⟨0, rfl, by omega, heap_alloc_new wx _, (Below.refl _ _).alloc (Nat.le_refl _) _⟩
      case round =>
        obtain ⟨i, rfl, hi, hq, hbl⟩ := hrel
        have HB1 : Hid (Below wx.heap.size wx wr) := hbl
        clear hbl
        obtain rfl | rfl | rfl | rfl : i = 0 ∨ i = 1 ∨ i = 2 ∨ i = 3 := by omega
        · have hcell : wr.cell? ⟨wx.heap.size, 0, none⟩ = some (.int .u8 0) := by simp [World.cell?, hq, nc]
          have hfz : wr.frozen? ⟨wx.heap.size, 0, none⟩ = false := by simp [World.frozen?, hq]
          have HN : Hid ((wr.setCell ⟨wx.heap.size, 0, none⟩ (.int .u8 (x % 256))).heap[wx.heap.size]? = some (.cells (nc x (0 + 1)) 165 (0, 0))) := by
            show _ = _
            rw [heap_setCell_self hq]; rfl
          have HB2 : Hid (Below wx.heap.size wx (wr.setCell ⟨wx.heap.size, 0, none⟩ (.int .u8 (x % 256)))) := HB1.out.setCell (by simp) _
          clear hq
          rw [show ((0 : Nat) : Int) = 0 from rfl]
          go_wp2
          go_roundw
          case rel => exact ⟨0 + 1, by go_num, by omega, HN.out, HB2.out⟩
          case measure => simp [intOf]
        · have hcell : wr.cell? ⟨wx.heap.size, 1, none⟩ = some (.int .u8 0) := by simp [World.cell?, hq, nc]
          have hfz : wr.frozen? ⟨wx.heap.size, 1, none⟩ = false := by simp [World.frozen?, hq]
          have HN : Hid ((wr.setCell ⟨wx.heap.size, 1, none⟩ (.int .u8 (x / 256 % 256))).heap[wx.heap.size]? = some (.cells (nc x (1 + 1)) 165 (0, 0))) := by
            show _ = _
            rw [heap_setCell_self hq]; rfl
          have HB2 : Hid (Below wx.heap.size wx (wr.setCell ⟨wx.heap.size, 1, none⟩ (.int .u8 (x / 256 % 256)))) := HB1.out.setCell (by simp) _
          clear hq
          go_wp2
          go_roundw
          case rel => exact ⟨1 + 1, by go_num, by omega, HN.out, HB2.out⟩
          case measure => simp [intOf]
        · have hcell : wr.cell? ⟨wx.heap.size, 2, none⟩ = some (.int .u8 0) := by simp [World.cell?, hq, nc]
          have hfz : wr.frozen? ⟨wx.heap.size, 2, none⟩ = false := by simp [World.frozen?, hq]
          have HN : Hid ((wr.setCell ⟨wx.heap.size, 2, none⟩ (.int .u8 (x / 65536 % 256))).heap[wx.heap.size]? = some (.cells (nc x (2 + 1)) 165 (0, 0))) := by
            show _ = _
            rw [heap_setCell_self hq]; rfl
          have HB2 : Hid (Below wx.heap.size wx (wr.setCell ⟨wx.heap.size, 2, none⟩ (.int .u8 (x / 65536 % 256)))) := HB1.out.setCell (by simp) _
          clear hq
          go_wp2
          go_roundw
          case rel => exact ⟨2 + 1, by go_num, by omega, HN.out, HB2.out⟩
          case measure => simp [intOf]
        · have HS : Hid (Bs wr (some ⟨wx.heap.size, 0, none⟩) 3 (by' 3 x)) := nc_bs hq (by omega) (heap_lt hq)
          have HW2 : Hid (WrP wr p B v s) := HW.out.below HB1.out
          have hB2 : B ≤ wr.heap.size := Nat.le_trans hB HB1.out.size
          clear hq
          go_wp2_with fail
          refine (wBytes_any p B 3 4 _ v (by' 3 x) s wr HW2.out hB2 HS.out (fun h => by simp at h) (by omega)).mono ?_
          rintro r w2 ⟨rfl, hD⟩
          have HDn : Hid (WrDone wx w2 p B v (wByt (by' 3 x) s)) := WrDone.trans (Fr.of_below HB1.out) (Lie.refl _ _) hD
          clear hD
          go_wp2
          go_end0
          exact ⟨rfl, HDn.out⟩
    · have d1 : decide (x < 0) = false := decide_eq_false (by omega)
      have d2 : decide ((4294967296 : Int) ≤ x) = false := decide_eq_false (by have h9 : x < 4294967296 := hw4; omega)
      have HX0 : Hid (0 ≤ x ∧ x < 4294967296) := ⟨hw3, hw4⟩
      clear hw1 hw2 hw4 h
      go_enter Tryz.func64, Tryz.ntmps64
      go_wp2_with fail
      refine (isWidth_any 4 w).mono ?_
      rintro r wx ⟨rfl, rfl⟩
      rw [hd]
      go_wp2
      go_loopw [27] (fun s27 wr => ∃ i : Nat, s27 = .int .i64 i ∧ i ≤ 4 ∧ wr.heap[wx.heap.size]? = some (.cells (nc x i) 165 (0, 0)) ∧ Below wx.heap.size wx wr) (fun s27 _ => 4 - (intOf s27).toNat)
      case atStart => exact ⟨0, rfl, by omega, heap_alloc_new wx _, (Below.refl _ _).alloc (Nat.le_refl _) _⟩
      case round =>
        obtain ⟨i, rfl, hi, hq, hbl⟩ := hrel
        have HB1 : Hid (Below wx.heap.size wx wr) := hbl
        clear hbl
        obtain rfl | rfl | rfl | rfl | rfl : i = 0 ∨ i = 1 ∨ i = 2 ∨ i = 3 ∨ i = 4 := by omega
        · have hcell : wr.cell? ⟨wx.heap.size, 0, none⟩ = some (.int .u8 0) := by simp [World.cell?, hq, nc]
          have hfz : wr.frozen? ⟨wx.heap.size, 0, none⟩ = false := by simp [World.frozen?, hq]
          have HN : Hid ((wr.setCell ⟨wx.heap.size, 0, none⟩ (.int .u8 (x % 256))).heap[wx.heap.size]? = some (.cells (nc x (0 + 1)) 165 (0, 0))) := by
            show _ = _
            rw [heap_setCell_self hq]; rfl
          have HB2 : Hid (Below wx.heap.size wx (wr.setCell ⟨wx.heap.size, 0, none⟩ (.int .u8 (x % 256)))) := HB1.out.setCell (by simp) _
          clear hq
          rw [show ((0 : Nat) : Int) = 0 from rfl]
          go_wp2
          go_roundw
          case rel => exact ⟨0 + 1, by go_num, by omega, HN.out, HB2.out⟩
          case measure => simp [intOf]
        · have hcell : wr.cell? ⟨wx.heap.size, 1, none⟩ = some (.int .u8 0) := by simp [World.cell?, hq, nc]
          have hfz : wr.frozen? ⟨wx.heap.size, 1, none⟩ = false := by simp [World.frozen?, hq]
          have HN : Hid ((wr.setCell ⟨wx.heap.size, 1, none⟩ (.int .u8 (x / 256 % 256))).heap[wx.heap.size]? = some (.cells (nc x (1 + 1)) 165 (0, 0))) := by
            show _ = _
            rw [heap_setCell_self hq]; rfl
          have HB2 : Hid (Below wx.heap.size wx (wr.setCell ⟨wx.heap.size, 1, none⟩ (.int .u8 (x / 256 % 256)))) := HB1.out.setCell (by simp) _
          clear hq
          go_wp2
          go_roundw
          case rel => exact ⟨1 + 1, by go_num, by omega, HN.out, HB2.out⟩
          case measure => simp [intOf]
        · have hcell : wr.cell? ⟨wx.heap.size, 2, none⟩ = some (.int .u8 0) := by simp [World.cell?, hq, nc]
          have hfz : wr.frozen? ⟨wx.heap.size, 2, none⟩ = false := by simp [World.frozen?, hq]
          have HN : Hid ((wr.setCell ⟨wx.heap.size, 2, none⟩ (.int .u8 (x / 65536 % 256))).heap[wx.heap.size]? = some (.cells (nc x (2 + 1)) 165 (0, 0))) := by
            show _ = _
            rw [heap_setCell_self hq]; rfl
          have HB2 : Hid (Below wx.heap.size wx (wr.setCell ⟨wx.heap.size, 2, none⟩ (.int .u8 (x / 65536 % 256)))) := HB1.out.setCell (by simp) _
          clear hq
          go_wp2
          go_roundw
          case rel => exact ⟨2 + 1, by go_num, by omega, HN.out, HB2.out⟩
          case measure => simp [intOf]
        · have hcell : wr.cell? ⟨wx.heap.size, 3, none⟩ = some (.int .u8 0) := by simp [World.cell?, hq, nc]
          have hfz : wr.frozen? ⟨wx.heap.size, 3, none⟩ = false := by simp [World.frozen?, hq]
          have HN : Hid ((wr.setCell ⟨wx.heap.size, 3, none⟩ (.int .u8 (x / 16777216 % 256))).heap[wx.heap.size]? = some (.cells (nc x (3 + 1)) 165 (0, 0))) := by
            show _ = _
            rw [heap_setCell_self hq]; rfl
          have HB2 : Hid (Below wx.heap.size wx (wr.setCell ⟨wx.heap.size, 3, none⟩ (.int .u8 (x / 16777216 % 256)))) := HB1.out.setCell (by simp) _
          clear hq
          go_wp2
          go_roundw
          case rel => exact ⟨3 + 1, by go_num, by omega, HN.out, HB2.out⟩
          case measure => simp [intOf]
        · have HS : Hid (Bs wr (some ⟨wx.heap.size, 0, none⟩) 4 (by' 4 x)) := nc_bs hq (by omega) (heap_lt hq)
          have HW2 : Hid (WrP wr p B v s) := HW.out.below HB1.out
          have hB2 : B ≤ wr.heap.size := Nat.le_trans hB HB1.out.size
          clear hq
          go_wp2_with fail
          refine (wBytes_any p B 4 4 _ v (by' 4 x) s wr HW2.out hB2 HS.out (fun h => by simp at h) (by omega)).mono ?_
          rintro r w2 ⟨rfl, hD⟩
          have HDn : Hid (WrDone wx w2 p B v (wByt (by' 4 x) s)) := WrDone.trans (Fr.of_below HB1.out) (Lie.refl _ _) hD
          clear hD
          go_wp2
          go_end0
          exact ⟨rfl, HDn.out⟩

theorem not_fits (x n : Int) (h1 : 1 ≤ n) (h4 : n ≤ 4) (hw : ¬ (1 ≤ n ∧ n ≤ 4 ∧ 0 ≤ x ∧ x < 256 ^ n.toNat)) : x < 0 ∨ (0 ≤ x ∧ 256 ^ n.toNat ≤ x) := by
  by_cases h : x < 0
  · exact .inl h
  · by_cases h2 : x < 256 ^ n.toNat
    · exact absurd ⟨h1, h4, by omega, h2⟩ hw
    · exact .inr ⟨by omega, by omega⟩
set_option maxRecDepth 100000 in
theorem wNum_not (p B : Nat) (v : Value) (x n : Int) (s : St) (w : World) (h : WrP w p B v s) (hx : -9223372036854775808 ≤ x ∧ x ≤ 9223372036854775807) (hn : -9223372036854775808 ≤ n ∧ n ≤ 9223372036854775807) (hw : ¬ (1 ≤ n ∧ n ≤ 4 ∧ 0 ≤ x ∧ x < 256 ^ n.toNat)) :
    Calls Tryz.prog 64 #[.pointer (some ⟨p, 0, none⟩), .int .i64 x, .int .i64 n] w fun r w' => r = .returned (.tuple #[]) ∧ WrDone w w' p B v (fl 1 s) := by
  have HW : Hid (WrP w p B v s) := h
  obtain ⟨vo, vn, vc, rfl, hd, _⟩ := h
  have HD : Hid (Hd 120 w p vo vn vc s.2) := hd
  clear hd
  by_cases hn1 : 1 ≤ n ∧ n ≤ 4
  · have hd : decide (1 ≤ n ∧ n ≤ 4) = true := decide_eq_true hn1
    rcases not_fits x n hn1.1 hn1.2 hw with hneg | hbig
    · have d1 : decide (x < 0) = true := decide_eq_true hneg
      clear hw
      go_enter Tryz.func64, Tryz.ntmps64
      go_wp2_with fail
      refine (isWidth_any n w).mono ?_
      rintro r wx ⟨rfl, rfl⟩
      rw [hd]
      go_wp2_with fail
      refine (fail_any 120 p vn vc vo s.2 1 wx HD.out).mono ?_
      rintro r w1 ⟨rfl, hF⟩
      have HX : Hid (WrDone wx w1 p B (.slice vo vn vc) (fl 1 s)) := wr_failed HW.out hF
      clear hF
      go_wp2
      ((try simp only [Exit.inBlock, Exit.then]); refine bodyPost_ret (results_none rfl _ _ _) rfl ?_)
      exact ⟨rfl, HX.out⟩
    · have d1 : decide (x < 0) = false := decide_eq_false (by omega)
      clear hw
      obtain rfl | rfl | rfl | rfl : n = 1 ∨ n = 2 ∨ n = 3 ∨ n = 4 := by omega
      · have d2 : decide ((256 : Int) ≤ x) = true := decide_eq_true hbig.2
        go_enter Tryz.func64, Tryz.ntmps64
        go_wp2_with fail
        refine (isWidth_any 1 w).mono ?_
        rintro r wx ⟨rfl, rfl⟩
        rw [hd]
        go_wp2_with fail
        refine (fail_any 120 p vn vc vo s.2 1 wx HD.out).mono ?_
        rintro r w1 ⟨rfl, hF⟩
        have HX : Hid (WrDone wx w1 p B (.slice vo vn vc) (fl 1 s)) := wr_failed HW.out hF
        clear hF
        go_wp2
        ((try simp only [Exit.inBlock, Exit.then]); refine bodyPost_ret (results_none rfl _ _ _) rfl ?_)
        exact ⟨rfl, HX.out⟩
      · have d2 : decide ((65536 : Int) ≤ x) = true := decide_eq_true hbig.2
        go_enter Tryz.func64, Tryz.ntmps64
        go_wp2_with fail
        refine (isWidth_any 2 w).mono ?_
        rintro r wx ⟨rfl, rfl⟩
        rw [hd]
        go_wp2_with fail
        refine (fail_any 120 p vn vc vo s.2 1 wx HD.out).mono ?_
        rintro r w1 ⟨rfl, hF⟩
        have HX : Hid (WrDone wx w1 p B (.slice vo vn vc) (fl 1 s)) := wr_failed HW.out hF
        clear hF
        go_wp2
        ((try simp only [Exit.inBlock, Exit.then]); refine bodyPost_ret (results_none rfl _ _ _) rfl ?_)
        exact ⟨rfl, HX.out⟩
      · have d2 : decide ((16777216 : Int) ≤ x) = true := decide_eq_true hbig.2
        go_enter Tryz.func64, Tryz.ntmps64
        go_wp2_with fail
        refine (isWidth_any 3 w).mono ?_
        rintro r wx ⟨rfl, rfl⟩
        rw [hd]
        go_wp2_with fail
        refine (fail_any 120 p vn vc vo s.2 1 wx HD.out).mono ?_
        rintro r w1 ⟨rfl, hF⟩
        have HX : Hid (WrDone wx w1 p B (.slice vo vn vc) (fl 1 s)) := wr_failed HW.out hF
        clear hF
        go_wp2
        ((try simp only [Exit.inBlock, Exit.then]); refine bodyPost_ret (results_none rfl _ _ _) rfl ?_)
        exact ⟨rfl, HX.out⟩
      · have d2 : decide ((4294967296 : Int) ≤ x) = true := decide_eq_true hbig.2
        go_enter Tryz.func64, Tryz.ntmps64
        go_wp2_with fail
        refine (isWidth_any 4 w).mono ?_
        rintro r wx ⟨rfl, rfl⟩
        rw [hd]
        go_wp2_with fail
        refine (fail_any 120 p vn vc vo s.2 1 wx HD.out).mono ?_
        rintro r w1 ⟨rfl, hF⟩
        have HX : Hid (WrDone wx w1 p B (.slice vo vn vc) (fl 1 s)) := wr_failed HW.out hF
        clear hF
        go_wp2
        ((try simp only [Exit.inBlock, Exit.then]); refine bodyPost_ret (results_none rfl _ _ _) rfl ?_)
        exact ⟨rfl, HX.out⟩
  · have hd : decide (1 ≤ n ∧ n ≤ 4) = false := decide_eq_false hn1
    clear hw
    go_enter Tryz.func64, Tryz.ntmps64
    go_wp2_with fail
    refine (isWidth_any n w).mono ?_
    rintro r wx ⟨rfl, rfl⟩
    rw [hd]
    go_wp2_with fail
    refine (fail_any 120 p vn vc vo s.2 1 wx HD.out).mono ?_
    rintro r w1 ⟨rfl, hF⟩
    have HX : Hid (WrDone wx w1 p B (.slice vo vn vc) (fl 1 s)) := wr_failed HW.out hF
    clear hF
    go_wp2
    ((try simp only [Exit.inBlock, Exit.then]); refine bodyPost_ret (results_none rfl _ _ _) rfl ?_)
    exact ⟨rfl, HX.out⟩
theorem wNum_any (p B : Nat) (v : Value) (x n : Int) (s : St) (w : World) (h : WrP w p B v s) (hB : B ≤ w.heap.size) (hbd : s.1.length ≤ 10000000) (hx : -9223372036854775808 ≤ x ∧ x ≤ 9223372036854775807) (hn : -9223372036854775808 ≤ n ∧ n ≤ 9223372036854775807) :
    Calls Tryz.prog 64 #[.pointer (some ⟨p, 0, none⟩), .int .i64 x, .int .i64 n] w fun r w' => r = .returned (.tuple #[]) ∧ WrDone w w' p B v (wNum x n s) := by
  unfold wNum
  split
  · next hw => exact wNum_fits p B v x n s w h hB hbd hx hw
  · next hw => exact wNum_not p B v x n s w h hx hn hw

theorem sb_length (s : ByteArray) : (sb s).length = s.size := by unfold sb; simp
theorem sb_bytes (s : ByteArray) : Bytes (sb s) := fun x hx => by
  unfold sb at hx
  obtain ⟨b, _, rfl⟩ := List.mem_map.1 hx
  have := b.toNat_lt
  omega
/-- The bytes of a string, laid down: where they lie, and what else has turned. -/
theorem conv_any (w : World) (s : ByteArray) : ∃ c o, (convert 9 25 (.string s)).run Tryz.prog w = .ok (.slice (some ⟨w.heap.size, 0, none⟩) s.size c) (w.drew.alloc o) ∧ Bs (w.drew.alloc o) (some ⟨w.heap.size, 0, none⟩) s.size (sb s) := by
  refine ⟨_, _, run_bytes_of_string w 9 25 5 s Tryz.underlying9 Tryz.underlying25 Tryz.underlying5, sb_length s, (sb_bytes s).g, .inr ⟨w.heap.size, 0, rfl, by simp, fun i hi => ?_⟩⟩
  rw [sb_length] at hi
  have h1 : (w.drew.alloc (.cells (bytesRow s (grownCap w s.size 0 5)) 5 ((bytesRow s (grownCap w s.size 0 5)).size, (bytesRow s (grownCap w s.size 0 5)).size + 1))).heap[w.heap.size]? = some (.cells (bytesRow s (grownCap w s.size 0 5)) 5 ((bytesRow s (grownCap w s.size 0 5)).size, (bytesRow s (grownCap w s.size 0 5)).size + 1)) := heap_alloc_new w.drew _
  rw [Nat.zero_add, cell_of_row _ _ _ _ _ _ h1, Lz.g_lt _ _ (by rw [sb_length]; exact hi)]
  have h2 : i < s.data.size := hi
  simp [bytesRow, Array.getElem?_append, sb]
  rw [if_pos hi, Array.getElem?_eq_getElem h2]
  rfl

theorem fl_length (k : Int) (s : St) : (fl k s).1.length ≤ s.1.length := by unfold fl; split <;> simp
theorem wByt_length (b : List Int) (s : St) : (wByt b s).1.length ≤ s.1.length + b.length := by unfold wByt; split <;> simp
theorem wNum_length (x n : Int) (s : St) : (wNum x n s).1.length ≤ s.1.length + 4 := by
  unfold wNum
  split
  · next h => have := wByt_length (by' n.toNat x) s; rw [by_length] at this; omega
  · have := fl_length 1 s; omega

set_option maxRecDepth 100000 in
theorem wText_any (p B : Nat) (v : Value) (b : ByteArray) (s : St) (w : World) (h : WrP w p B v s) (hB : B ≤ w.heap.size) (hbd : s.1.length ≤ 1000000) (hb : b.size ≤ 1000000) :
    Calls Tryz.prog 139 #[.pointer (some ⟨p, 0, none⟩), .string b] w fun r w' => r = .returned (.tuple #[]) ∧ WrDone w w' p B v (wTxt (sb b) s) := by
  have HW : Hid (WrP w p B v s) := h
  have hl := sb_length b
  by_cases hlong : 255 < b.size
  · have e1 : wTxt (sb b) s = fl 3 s := by unfold wTxt; rw [if_pos (by omega)]
    rw [e1]
    obtain ⟨vo, vn, vc, rfl, hd, _⟩ := h
    have HD : Hid (Hd 120 w p vo vn vc s.2) := hd
    clear hd e1
    go_enter Tryz.func139, Tryz.ntmps139
    go_wp2_with fail
    refine (fail_any 120 p vn vc vo s.2 3 w HD.out).mono ?_
    rintro r w1 ⟨rfl, hF⟩
    have HX : Hid (WrDone w w1 p B (.slice vo vn vc) (fl 3 s)) := wr_failed HW.out hF
    clear hF
    go_wp2
    ((try simp only [Exit.inBlock, Exit.then]); refine bodyPost_ret (results_none rfl _ _ _) rfl ?_)
    exact ⟨rfl, HX.out⟩
  · have e1 : wTxt (sb b) s = wByt (sb b) (wNum b.size 1 s) := by unfold wTxt; rw [if_neg (by omega), hl]
    rw [e1]
    clear e1 h
    go_enter Tryz.func139, Tryz.ntmps139
    go_wp2_with fail
    refine (wNum_any p B v b.size 1 s w HW.out hB (by omega) (by omega) (by omega)).mono ?_
    rintro r w1 ⟨rfl, v1, hW1, hF1, hL1⟩
    obtain ⟨c, o, hcv, hbs⟩ := conv_any w1 b
    have HB1 : Hid (Bs (w1.drew.alloc o) (some ⟨w1.heap.size, 0, none⟩) b.size (sb b)) := hbs
    have HW1 : Hid (WrP w1 p B v1 (wNum b.size 1 s)) := hW1
    have HF1 : Hid (Fr (Two p v) w w1) := hF1
    have HL1 : Hid (Lie w v v1) := hL1
    clear hbs hW1 hF1 hL1
    go_wp2_with fail
    refine (wBytes_any p B b.size c _ v1 (sb b) (wNum b.size 1 s) (w1.alloc o).drew (HW1.out.below ?_) ?_ HB1.out (fun h => by simp at h) ?_).mono ?_
    · exact ((Below.refl _ _).alloc (Nat.le_refl _) o).drew
    · have := HF1.out.size; simp; omega
    · have := wNum_length b.size 1 s; omega
    rintro r w2 ⟨rfl, hD⟩
    have HDn : Hid (WrDone w w2 p B v (wByt (sb b) (wNum b.size 1 s))) :=
      WrDone.trans HF1.out HL1.out (WrDone.trans (Fr.of_below ((Below.refl _ _).alloc (Nat.le_refl _) o).drew) (Lie.refl _ _) hD)
    clear hD
    go_wp2
    go_end0
    exact ⟨rfl, HDn.out⟩
end Go.Proofs.YtoohanojfoichaaGreatDoor

/- Readers behind an error: nothing turns any more; numbers that fit; what is left of a reader. -/
namespace Go.Proofs.YtoohanojfoichaaGreatDoor
set_option linter.unusedVariables false
open Go.RowKit Go.Maps
open Lz (g)
open Cur

end Go.Proofs.YtoohanojfoichaaGreatDoor

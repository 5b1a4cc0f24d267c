/- What the proof stands on, part 1 of 7: the texts Sort, Base, NamPure, NamTxt, NamRow, TrePure, NamVal, NamLeaf, TreRow, TreOwn, MapK, TreMap, TreCopy, TreAlike, TreCopied, NamCmp, TreSort, TreLinks, TreNum, TreInos, each with what the proof reaches of it. -/
import Derived.Test.YtchcejjoncihkaaGreatDoorRows
import Derived.Shelf.SlSortCmp.WholeK
import Derived.Shelf.SlGeneric
import Derived.Ground.SlsfProg
import Derived.WalkKit
import Derived.WalkSpells
import Derived.WalkLawsBesides
import Derived.BigQuiet
import Derived.Deep.QuietTactic
import Derived.Deep.AppendLies
import Derived.Maps.AppendAt
import Derived.Laws.BytesArg
import Derived.Lib.SlBytesConst
import Derived.OpenShut
import Derived.Laws.AppendOwnNone
import Derived.Deep.RegionHeld3
import Derived.Laws.RangeAny
import Derived.Lib.Strings
import Derived.Deep.Strs
import Derived.ProofKit
import Derived.Lib.OthersKept
import Derived.Maps.OwnSet
import Derived.Maps.Views
import Derived.Carry
import Derived.Deep.RegionLaw
import Derived.Laws.StructEq
import Derived.Stop.BytesEq

/- slices.SortFunc at slices of nodes: the library's own text is the one that the shelf's contract speaks of, function by function. -/
namespace Go.Proofs
open Go.Shelf
def YtchcejjoncihkaaGreatDoor.sortNd_ren : Go.Shelf.Ren := ⟨fun | 6 => 45 | 15 => 107 | 14 => 106 | 28 => 161 | 29 => 162 | 20 => 153 | 21 => 154 | 22 => 155 | 23 => 156 | 24 => 157 | 25 => 158 | 26 => 159 | 27 => 160 | 46 => 202 | 47 => 203 | 48 => 204 | 49 => 205 | 50 => 206 | 57 => 226 | n => n, fun | 22 => 22 | 24 => 37 | 25 => 103 | 3 => 3 | 39 => 145 | 0 => 0 | 53 => 40 | 55 => 219 | 4 => 4 | 46 => 212 | 45 => 211 | 50 => 115 | 5 => 5 | 9 => 9 | 66 => 248 | 70 => 252 | 76 => 267 | 77 => 87 | n => n, fun | n => n⟩
theorem YtchcejjoncihkaaGreatDoor.sortNd : Go.Proofs.SlLaysF0.n6 Tryz.prog YtchcejjoncihkaaGreatDoor.sortNd_ren := {
  mixed := by kernel_rfl
  f6 := ⟨Tryz.f45.name, by decide, Tryz.func45.trans (congrArg some (by kernel_rfl))⟩
  f14 := ⟨Tryz.f106.name, by decide, Tryz.func106.trans (congrArg some (by kernel_rfl))⟩
  f15 := Tryz.func107.trans (congrArg some (by kernel_rfl))
  f20 := ⟨Tryz.f153.name, by decide, Tryz.func153.trans (congrArg some (by kernel_rfl))⟩
  f21 := ⟨Tryz.f154.name, by decide, Tryz.func154.trans (congrArg some (by kernel_rfl))⟩
  f22 := ⟨Tryz.f155.name, by decide, Tryz.func155.trans (congrArg some (by kernel_rfl))⟩
  f23 := ⟨Tryz.f156.name, by decide, Tryz.func156.trans (congrArg some (by kernel_rfl))⟩
  f24 := ⟨Tryz.f157.name, by decide, Tryz.func157.trans (congrArg some (by kernel_rfl))⟩
  f25 := ⟨Tryz.f158.name, by decide, Tryz.func158.trans (congrArg some (by kernel_rfl))⟩
  f26 := ⟨Tryz.f159.name, by decide, Tryz.func159.trans (congrArg some (by kernel_rfl))⟩
  f27 := ⟨Tryz.f160.name, by decide, Tryz.func160.trans (congrArg some (by kernel_rfl))⟩
  f28 := Tryz.func161.trans (congrArg some (by kernel_rfl))
  f29 := Tryz.func162.trans (congrArg some (by kernel_rfl))
  f46 := ⟨Tryz.f202.name, by decide, Tryz.func202.trans (congrArg some (by kernel_rfl))⟩
  f47 := Tryz.func203.trans (congrArg some (by kernel_rfl))
  f48 := Tryz.func204.trans (congrArg some (by kernel_rfl))
  f49 := ⟨Tryz.f205.name, by decide, Tryz.func205.trans (congrArg some (by kernel_rfl))⟩
  f50 := ⟨Tryz.f206.name, by decide, Tryz.func206.trans (congrArg some (by kernel_rfl))⟩
  f57 := ⟨Tryz.f226.name, by decide, Tryz.func226.trans (congrArg some (by kernel_rfl))⟩
  t0 := Tryz.underlying0
  a0 := Tryz.isAgg0
  z0 := Tryz.sizeOf0
  v0 := Tryz.zeroValue0
  t3 := Tryz.underlying3
  a3 := Tryz.isAgg3
  z3 := Tryz.sizeOf3
  v3 := Tryz.zeroValue3
  t4 := Tryz.underlying4
  a4 := Tryz.isAgg4
  z4 := Tryz.sizeOf4
  v4 := Tryz.zeroValue4
  t5 := Tryz.underlying5
  a5 := Tryz.isAgg5
  z5 := Tryz.sizeOf5
  v5 := Tryz.zeroValue5
  t9 := Tryz.underlying9
  a9 := Tryz.isAgg9
  z9 := Tryz.sizeOf9
  v9 := Tryz.zeroValue9
  t22 := Tryz.underlying22
  a22 := Tryz.isAgg22
  z22 := Tryz.sizeOf22
  v22 := Tryz.zeroValue22
  t25 := Tryz.underlying103
  a25 := Tryz.isAgg103
  z25 := Tryz.sizeOf103
  v25 := Tryz.zeroValue103
  t39 := Tryz.underlying145
  a39 := Tryz.isAgg145
  z39 := Tryz.sizeOf145
  v39 := Tryz.zeroValue145
  t45 := Tryz.underlying211
  a45 := Tryz.isAgg211
  z45 := Tryz.sizeOf211
  v45 := Tryz.zeroValue211
  t46 := Tryz.underlying212
  a46 := Tryz.isAgg212
  z46 := Tryz.sizeOf212
  v46 := Tryz.zeroValue212
  t50 := Tryz.underlying115
  a50 := Tryz.isAgg115
  z50 := Tryz.sizeOf115
  v50 := Tryz.zeroValue115
  t53 := Tryz.underlying40
  a53 := Tryz.isAgg40
  z53 := Tryz.sizeOf40
  v53 := Tryz.zeroValue40
  t55 := Tryz.underlying219
  a55 := Tryz.isAgg219
  z55 := Tryz.sizeOf219
  v55 := Tryz.zeroValue219
  t66 := Tryz.underlying248
  a66 := Tryz.isAgg248
  z66 := Tryz.sizeOf248
  v66 := Tryz.zeroValue248
  t70 := Tryz.underlying252
  a70 := Tryz.isAgg252
  z70 := Tryz.sizeOf252
  v70 := Tryz.zeroValue252
  t76 := Tryz.underlying267
  a76 := Tryz.isAgg267
  z76 := Tryz.sizeOf267
  v76 := Tryz.zeroValue267
  t77 := Tryz.underlying87
  a77 := Tryz.isAgg87
  z77 := Tryz.sizeOf87
  v77 := Tryz.zeroValue87 }
end Go.Proofs

/- What all layers' walks stand on: bytes in memory, rows of bytes of the call's own, frames by the element's type, bytes as a string. Nothing here speaks of one function of the program. -/
namespace Go.Proofs.YtchcejjoncihkaaGreatDoor.Lz
/-- The number at a place; 0 where there is none. -/
def g (zs : List Int) (i : Nat) : Int := zs.getD i 0
theorem g_lt (zs : List Int) (i : Nat) (h : i < zs.length) : g zs i = zs[i] := by simp [g, h]
theorem g_drop (zs : List Int) (k i : Nat) : g (zs.drop k) i = g zs (k + i) := by simp [g]
theorem g_take (zs : List Int) (k i : Nat) (h : i < k) : g (zs.take k) i = g zs i := by simp [g, h]
theorem g_append_left (xs ys : List Int) (i : Nat) (h : i < xs.length) : g (xs ++ ys) i = g xs i := by simp [g, List.getElem?_append, h]
end Go.Proofs.YtchcejjoncihkaaGreatDoor.Lz
namespace Go.Proofs.YtchcejjoncihkaaGreatDoor
set_option linter.unusedVariables false
open Go.RowKit Go.Maps
open Lz (g)

/-- The cells from ⟨b, off⟩ on hold the bytes zs. -/
def Seg (w : World) (b off : Nat) (zs : List Int) : Prop := ∀ i, i < zs.length → w.cell? ⟨b, off + i, none⟩ = some (.int .u8 (g zs i))
theorem Seg.drewN {w : World} {b off : Nat} {zs : List Int} (h : Seg w b off zs) (n : Nat) : Seg (w.drewN n) b off zs := fun i hi => by rw [← h i hi]; simp
theorem dr2 (w : World) (n m : Nat) : ∃ k, (w.drewN n).drewN m = w.drewN k := ⟨n + m, by simp⟩
theorem ret_int {a b : Int} (h : a = b) : Ending.returned (.int .i64 a) = .returned (.int .i64 b) := by rw [h]
theorem ret_nat {a b : Nat} (h : a = b) : Ending.returned (.int .i64 (a : Int)) = .returned (.int .i64 (b : Int)) := by rw [h]
theorem infoByte : (Tryz.prog.info? 5).map (fun i => (i.zero, i.size, i.bytes)) = some (some (.int .u8 0), 1, 1) := by kernel_rfl
/-- Blocks of cells of the type e are as they were. -/
def KeepT (e : TypeId) (w w' : World) : Prop := ∀ (i : Nat) (cur : Array Value) (fz : Nat × Nat), w.heap[i]? = some (Obj.cells cur e fz) → w'.heap[i]? = some (Obj.cells cur e fz)
/-- All blocks but those of cells of the type e are as they were. -/
def KeepN (e : TypeId) (w w' : World) : Prop := ∀ (i : Nat) (o : Obj), w.heap[i]? = some o → (∀ cur fz, o ≠ Obj.cells cur e fz) → w'.heap[i]? = some o
theorem heap_lt {w : World} {i : Nat} {o : Obj} (h : w.heap[i]? = some o) : i < w.heap.size := (Array.getElem?_eq_some_iff.1 h).1
theorem KeepT.refl (e : TypeId) (w : World) : KeepT e w w := fun _ _ _ h => h
theorem KeepT.trans {e : TypeId} {a b c : World} (h : KeepT e a b) (k : KeepT e b c) : KeepT e a c := fun i cur fz hi => k i cur fz (h i cur fz hi)
theorem KeepT.drewN {e : TypeId} {a w : World} (h : KeepT e a w) (n : Nat) : KeepT e a (w.drewN n) := h
theorem KeepT.alloc {e : TypeId} {a w : World} (h : KeepT e a w) (o : Obj) : KeepT e a (w.alloc o) := fun i cur fz hi => by
  have := h i cur fz hi
  rw [Below.heap_alloc w o i (heap_lt this)]; exact this
theorem KeepT.setCell {e : TypeId} {a w : World} (h : KeepT e a w) {p : Addr} (u : Value) (hp : ∀ cur fz, w.heap[p.block]? ≠ some (Obj.cells cur e fz)) : KeepT e a (w.setCell p u) := fun i cur fz hi => by
  have := h i cur fz hi
  rw [Below.heap_setCell _ _ _ _ (fun ei => by subst ei; exact hp _ _ this)]; exact this
theorem KeepT.grown {e : TypeId} {a w w' : World} (h : KeepT e a w) {row : Option Nat} (hg : w.grownBy w' row) (hr : ∀ k, row = some k → ∀ cur fz, w.heap[k]? ≠ some (Obj.cells cur e fz)) : KeepT e a w' := fun i cur fz hi => by
  have := h i cur fz hi
  rw [hg.block i (heap_lt this) (fun ei => hr i ei.symm _ _ this)]; exact this
theorem KeepT.owns {e : TypeId} {w w' : World} (h : KeepT e w w') {base size n : Nat} {v : Value} {xs : List Value} (ho : w.ownsRow base e size v n xs) : w'.ownsRow base e size v n xs := by
  refine ⟨ho.1, ?_⟩
  rcases ho.2 with hn | ⟨g, cap, cur, rfl, hb, hgg, rest⟩
  · exact .inl hn
  · exact .inr ⟨g, cap, cur, rfl, hb, h _ _ _ hgg, rest⟩
theorem KeepN.refl (e : TypeId) (w : World) : KeepN e w w := fun _ _ h _ => h
theorem KeepN.alloc {e : TypeId} {a w : World} (h : KeepN e a w) (x : Obj) : KeepN e a (w.alloc x) := fun i o hi ho => by
  have := h i o hi ho
  rw [Below.heap_alloc w x i (heap_lt this)]; exact this
theorem KeepN.grown {e : TypeId} {a w w' : World} (h : KeepN e a w) {base n : Nat} {size : Nat} {v : Value} {xs : List Value} (ho : w.ownsRow base e size v n xs) (hg : w.grownBy w' v.ownBlock) : KeepN e a w' := fun i o hi hne => by
  have := h i o hi hne
  rw [hg.block i (heap_lt this) (fun ei => ?_)]
  · exact this
  · rcases ho.2 with ⟨rfl, _⟩ | ⟨g, cap, cur, rfl, _, hgg, _⟩
    · simp [Value.ownBlock] at ei
    · simp [Value.ownBlock] at ei
      subst ei
      rw [this] at hgg
      exact hne _ _ (Option.some.inj hgg)
theorem owns_shape {w : World} {base e size n : Nat} {v : Value} {xs : List Value} (h : w.ownsRow base e size v n xs) : ∃ ao c, v = .slice ao n c := by
  rcases h.2 with ⟨rfl, rfl⟩ | ⟨g, cap, cur, rfl, _⟩
  · exact ⟨_, _, rfl⟩
  · exact ⟨_, _, rfl⟩
theorem owns_ne {w : World} {base e size n p : Nat} {v : Value} {xs : List Value} {o : Obj} (h : w.ownsRow base e size v n xs) (hp : w.heap[p]? = some o) (ho : ∀ cur fz, o ≠ Obj.cells cur e fz) : some p ≠ v.ownBlock := by
  rcases h.2 with ⟨rfl, _⟩ | ⟨g, cap, cur, rfl, _, hgg, _⟩
  · simp [Value.ownBlock]
  · intro e'
    simp [Value.ownBlock] at e'
    subst e'
    rw [hp] at hgg
    exact ho _ _ (Option.some.inj hgg)
/-- The slice at ao, n long, holds the bytes zs. -/
def Bs (w : World) (ao : Option Addr) (n : Nat) (zs : List Int) : Prop :=
  zs.length = n ∧ (∀ i, 0 ≤ g zs i ∧ g zs i ≤ 255) ∧ (n = 0 ∨ ∃ b off, ao = some ⟨b, off, none⟩ ∧ b < w.heap.size ∧ Seg w b off zs)
theorem Seg.below {w w' : World} {B b off : Nat} {zs : List Int} (h : Seg w b off zs) (hb : Below B w w') (hlt : b < B) : Seg w' b off zs := fun i hi => (hb.cell (by exact hlt)).trans (h i hi)
theorem Bs.below {w w' : World} {ao : Option Addr} {n : Nat} {zs : List Int} (h : Bs w ao n zs) (hb : Below w.heap.size w w') : Bs w' ao n zs := by
  refine ⟨h.1, h.2.1, ?_⟩
  rcases h.2.2 with h0 | ⟨b, off, h1, h2, h3⟩
  · exact .inl h0
  · exact .inr ⟨b, off, h1, Nat.lt_of_lt_of_le h2 hb.size, h3.below hb h2⟩
theorem Seg.cut {w : World} {b off : Nat} {zs : List Int} (h : Seg w b off zs) (lo hi : Nat) : Seg w b (off + lo) ((zs.take hi).drop lo) := fun i hj => by
  simp only [List.length_drop, List.length_take] at hj
  rw [Lz.g_drop, Lz.g_take _ _ _ (by omega), Nat.add_assoc]
  exact h (lo + i) (by omega)
theorem bytes_drop {zs : List Int} (h : ∀ i, 0 ≤ g zs i ∧ g zs i ≤ 255) (lo : Nat) : ∀ i, 0 ≤ g (zs.drop lo) i ∧ g (zs.drop lo) i ≤ 255 := fun i => by
  rw [Lz.g_drop]; exact h _
theorem bytes_take {zs : List Int} (h : ∀ i, 0 ≤ g zs i ∧ g zs i ≤ 255) (hi : Nat) : ∀ i, 0 ≤ g (zs.take hi) i ∧ g (zs.take hi) i ≤ 255 := fun i => by
  by_cases e : i < hi
  · rw [Lz.g_take _ _ _ e]; exact h _
  · have : g (zs.take hi) i = 0 := by simp [g, List.getElem?_take, e]
    rw [this]; omega
theorem bytes_cut {zs : List Int} (h : ∀ i, 0 ≤ g zs i ∧ g zs i ≤ 255) (lo hi : Nat) : ∀ i, 0 ≤ g ((zs.take hi).drop lo) i ∧ g ((zs.take hi).drop lo) i ≤ 255 := bytes_drop (bytes_take h hi) lo
/-- Numbers as bytes' values. -/
def bv (xs : List Int) : List Value := xs.map (Value.int .u8)
theorem bv_append (xs ys : List Int) : bv (xs ++ ys) = bv xs ++ bv ys := by simp [bv]
theorem bv_length (xs : List Int) : (bv xs).length = xs.length := by simp [bv]
/-- The slice holds the bytes, in a block below B. -/
def BsB (w : World) (B : Nat) (ao : Option Addr) (n : Nat) (zs : List Int) : Prop :=
  zs.length = n ∧ (∀ i, 0 ≤ g zs i ∧ g zs i ≤ 255) ∧ (n = 0 ∨ ∃ b off, ao = some ⟨b, off, none⟩ ∧ b < B ∧ Seg w b off zs)
theorem BsB.below {w w' : World} {B : Nat} {ao : Option Addr} {n : Nat} {zs : List Int} (h : BsB w B ao n zs) (hb : Below B w w') : BsB w' B ao n zs := by
  refine ⟨h.1, h.2.1, ?_⟩
  rcases h.2.2 with h0 | ⟨b, off, h1, h2, h3⟩
  · exact .inl h0
  · exact .inr ⟨b, off, h1, h2, h3.below hb h2⟩
theorem news_seg {w : World} {b off : Nat} {l : List Int} (h : Seg w b off l) (k : Nat) : ∀ j u, (bv (l.take k))[j]? = some u → w.cell? ((⟨b, off, none⟩ : Addr).add j) = some u := by
  intro j u hu
  have hj : j < (l.take k).length := by
    have := (List.getElem?_eq_some_iff.1 hu).1
    simpa [bv] using this
  rw [Addr.add_lit, h j (by simp at hj; omega)]
  have e : (bv (l.take k))[j]? = some (.int .u8 (g (l.take k) j)) := by
    unfold bv
    rw [List.getElem?_map, List.getElem?_eq_getElem hj, Lz.g_lt _ _ hj]; rfl
  rw [e] at hu
  rw [← Lz.g_take l k j (by simp at hj; omega)]
  exact hu
theorem bv_one (xs : List Int) : ∀ u ∈ bv xs, u.oneCell' = true := ints_oneCell .u8 xs
/-- Behind an append to a row of bytes of the call's own. -/
theorem grow_step {a w w1 : World} {B n : Nat} {v : Value} {xs : List Value} {o : Obj} (hbel : Below B a w) (hkeep : KeepN 5 a w) (hB : B ≤ w.heap.size) (ho : w.ownsRow B 5 1 v n xs) (hg : (w.alloc o).grownBy w1 v.ownBlock) :
    Below B a w1 ∧ KeepN 5 a w1 ∧ Below B w w1 := by
  have h1 : Below B w w1 := ((Below.refl B w).alloc hB o).grown hg (by simp; omega) (fun k e => (ho.lt k e).1)
  exact ⟨hbel.trans h1, (hkeep.alloc o).grown (ho.alloc o) hg, h1⟩
theorem grow_step0 {a w w1 : World} {B n : Nat} {v : Value} {xs : List Value} (hbel : Below B a w) (hkeep : KeepN 5 a w) (hB : B ≤ w.heap.size) (ho : w.ownsRow B 5 1 v n xs) (hg : w.grownBy w1 v.ownBlock) :
    Below B a w1 ∧ KeepN 5 a w1 ∧ Below B w w1 := by
  have h1 : Below B w w1 := (Below.refl B w).grown hg hB (fun k e => (ho.lt k e).1)
  exact ⟨hbel.trans h1, hkeep.grown ho hg, h1⟩
theorem grown_alloc {w w1 : World} {row : Option Nat} {o : Obj} (h : (w.alloc o).grownBy w1 row) : w.grownBy w1 row :=
  ⟨h.os, h.tape, h.output, Nat.le_trans (by simp) h.size, fun k hk hne => (h.block k (by simp; omega) hne).trans (Below.heap_alloc w o k hk)⟩
theorem Bs.toB {w : World} {ao : Option Addr} {n : Nat} {zs : List Int} (h : Bs w ao n zs) : BsB w w.heap.size ao n zs := h
theorem BsB.cut {w : World} {B b off : Nat} {zs : List Int} (hs : Seg w b off zs) (hb : b < B) (hby : ∀ i, 0 ≤ g zs i ∧ g zs i ≤ 255) (lo hi n : Nat) (hn : n = hi - lo) (hh : hi ≤ zs.length) : BsB w B (some ⟨b, off + lo, none⟩) n ((zs.take hi).drop lo) := by
  refine ⟨by simp; omega, bytes_cut hby lo hi, ?_⟩
  exact .inr ⟨b, off + lo, rfl, hb, hs.cut lo hi⟩
/-- The rest of a slice, wherever it is cut. -/
theorem BsB.rest {w : World} {B n cap : Nat} {ao : Option Addr} {zs : List Int} (h : BsB w B ao n zs) (lo : Nat) (hlo : lo ≤ n) (hc : n ≤ cap) : BsB w B (if cap = lo then ao else Option.map (fun x => x.add lo) ao) (n - lo) (zs.drop lo) := by
  obtain ⟨hz, hby, h0⟩ := h
  refine ⟨by simp [hz], bytes_drop hby lo, ?_⟩
  by_cases e : n = lo
  · exact .inl (by omega)
  · rcases h0 with h0 | ⟨b, off, rfl, hb, hs⟩
    · omega
    · refine .inr ⟨b, off + lo, ?_, hb, ?_⟩
      · rw [if_neg (by omega)]; simp [Addr.add_lit]
      · have := hs.cut lo n
        rw [List.take_of_length_le (by omega)] at this
        exact this
theorem emptyB {w : World} {B : Nat} (hB : B ≤ w.heap.size) : (w.alloc (.cells #[] 5)).ownsRow B 5 1 (.slice (some ⟨w.heap.size, 0, none⟩) 0 0) 0 (bv []) :=
  ⟨rfl, .inr ⟨w.heap.size, 0, #[], rfl, hB, heap_alloc_new w _, Nat.le_refl _, by unfold maxLen; omega, rfl, rfl⟩⟩
theorem grown_drewN {w w1 : World} {nq : Nat} {row : Option Nat} (h : (w.drewN nq).grownBy w1 row) : w.grownBy w1 row := ⟨h.os, h.tape, h.output, h.size, h.block⟩
theorem owns_below {w w' : World} {B e size n : Nat} {v : Value} {xs : List Value} (h : w.ownsRow B e size v n xs) (hb : Below w.heap.size w w') : w'.ownsRow B e size v n xs := by
  refine ⟨h.1, ?_⟩
  rcases h.2 with hn | ⟨g, cap, cur, rfl, hg, hgg, rest⟩
  · exact .inl hn
  · exact .inr ⟨g, cap, cur, rfl, hg, by rw [hb.block g (heap_lt hgg)]; exact hgg, rest⟩
def Bytes (zs : List Int) : Prop := ∀ x ∈ zs, 0 ≤ x ∧ x ≤ 255
theorem Bytes.g {zs : List Int} (h : Bytes zs) : ∀ i, 0 ≤ Lz.g zs i ∧ Lz.g zs i ≤ 255 := fun i => by
  unfold Lz.g
  by_cases hi : i < zs.length
  · simp only [List.getD, List.getElem?_eq_getElem hi, Option.getD_some]
    exact h _ (List.getElem_mem hi)
  · simp only [List.getD, List.getElem?_eq_none (by omega : zs.length ≤ i), Option.getD_none]; omega
theorem Bytes.of_g {zs : List Int} (h : ∀ i, 0 ≤ Lz.g zs i ∧ Lz.g zs i ≤ 255) : Bytes zs := fun x hx => by
  obtain ⟨i, hi, rfl⟩ := List.getElem_of_mem hx
  have := h i
  rw [Lz.g_lt zs i hi] at this
  exact this
theorem Bytes.append {a b : List Int} (h : Bytes a) (k : Bytes b) : Bytes (a ++ b) := fun x hx => by
  rcases List.mem_append.1 hx with h1 | h1
  · exact h x h1
  · exact k x h1
theorem Bytes.take {a : List Int} (h : Bytes a) (n : Nat) : Bytes (a.take n) := fun x hx => h x (List.mem_of_mem_take hx)
theorem Bytes.drop {a : List Int} (h : Bytes a) (n : Nat) : Bytes (a.drop n) := fun x hx => h x (List.mem_of_mem_drop hx)
theorem bs_of_owns {w : World} {B n c : Nat} {ao : Option Addr} {zs : List Int} (h : w.ownsRow B 5 1 (.slice ao n c) n (bv zs)) (hb : Bytes zs) : Bs w ao n zs := by
  have hlen : zs.length = n := by have := h.1; rw [bv_length] at this; omega
  refine ⟨hlen, hb.g, ?_⟩
  by_cases e : n = 0
  · exact .inl e
  · obtain ⟨gb, c', hv, _, hlt⟩ := h.form (by omega)
    obtain ⟨rfl, _, rfl⟩ : ao = some ⟨gb, 0, none⟩ ∧ n = n ∧ c = c' := by simpa using hv
    refine .inr ⟨gb, 0, rfl, hlt, fun i hi => ?_⟩
    rw [Nat.zero_add, h.cellAt i (by omega)]
    unfold bv
    rw [List.getElem?_map, List.getElem?_eq_getElem hi, Lz.g_lt _ _ hi]; rfl
theorem cap_of_owns {w : World} {B n c e : Nat} {ao : Option Addr} {xs : List Value} (h : w.ownsRow B e 1 (.slice ao n c) n xs) : n ≤ c := by
  rcases h.2 with ⟨e, _⟩ | ⟨_, _, _, e, _, _, h, _⟩
  · simp at e; omega
  · simp at e; omega
theorem str_any {w : World} {ao : Option Addr} {n : Nat} {zs : List Int} (h : Bs w ao n zs) (c : Nat) : (convert 25 9 (.slice ao n c)).run Tryz.prog w = .ok (.string (strOfNums zs)) w := by
  obtain ⟨hz, _, h0⟩ := h
  rcases h0 with h0 | ⟨b, off, rfl, _, hs⟩
  · subst h0
    have : zs = [] := List.eq_nil_of_length_eq_zero hz
    subst this
    cases ao with
    | none => exact run_convert_bytes_nil w _ _ Tryz.underlying25 Tryz.underlying5 0 c _ Tryz.underlying9
    | some a =>
      rw [run_convert_bytes_string w _ _ _ _ 0 c Tryz.underlying25 Tryz.underlying5 Tryz.underlying9, run_bytesToString w a 0 c [] (by simp [loadCells, loadCellsFrom])]
      rfl
  · exact run_convert_bytes_arg w _ _ Tryz.underlying25 Tryz.underlying5 b off n c zs hz (fun i hi => hs i (by omega)) _ Tryz.underlying9
/-- Bytes that were just laid down. -/
theorem bs_new (w : World) (fz : Nat × Nat) (zs : List Int) (hb : Bytes zs) : Bs (w.alloc (.cells (bv zs).toArray 5 fz)) (some ⟨w.heap.size, 0, none⟩) zs.length zs := by
  refine ⟨rfl, hb.g, .inr ⟨w.heap.size, 0, rfl, by simp, fun i hi => ?_⟩⟩
  rw [Nat.zero_add, cell_of_row _ w.heap.size i _ _ _ (heap_alloc_new w _)]
  simp [bv, Lz.g_lt _ _ hi, hi]
/-- A slice of bytes that came in. -/
def RowB (w : World) (a : Option Addr) (len cap : Nat) (zs : List Int) : Prop :=
  (a = none ∧ len = 0 ∧ cap = 0 ∧ zs = []) ∨
  ∃ x, a = some x ∧ len ≤ cap ∧ cap ≤ maxLen ∧ zs.length = cap ∧ (∀ i, i < zs.length → w.cell? (x.add i) = some (.int .u8 (zs.getD i 0))) ∧ ∀ n ∈ zs, (Lit.int .u8 n).wf = true
theorem wf_u8 {n : Int} (h : (Lit.int .u8 n).wf = true) : 0 ≤ n ∧ n ≤ 255 := by
  have := bounds_u8 h
  omega
theorem wf_i64_bd {n : Int} (h : (Lit.int .i64 n).wf = true) : -9223372036854775808 ≤ n ∧ n ≤ 9223372036854775807 := by
  have := bounds_i64 h
  omega
theorem Bs.alloc {w : World} {ao : Option Addr} {n : Nat} {zs : List Int} (h : Bs w ao n zs) (o : Obj) : Bs (w.alloc o) ao n zs := h.below ((Below.refl _ _).alloc (Nat.le_refl _) o)
/-- Its first m bytes. -/
theorem RowB.bs {w : World} {a : Option Addr} {len cap : Nat} {zs : List Int} (h : RowB w a len cap zs) (m : Nat) (hm : m ≤ len) : Bs w a m (zs.take m) ∧ len ≤ cap ∧ cap ≤ 9223372036854775807 ∧ Bytes (zs.take m) ∧ (a = none → cap = 0) := by
  rcases h with ⟨rfl, rfl, rfl, rfl⟩ | ⟨x, rfl, hl, hc, hz, hcell, hwf⟩
  · obtain rfl : m = 0 := by omega
    exact ⟨⟨rfl, fun i => by simp [g], .inl rfl⟩, by omega, by omega, fun x hx => by simp at hx, fun _ => rfl⟩
  · have hb : Bytes zs := fun n hn => wf_u8 (hwf n hn)
    refine ⟨⟨by simp; omega, (hb.take m).g, ?_⟩, hl, by unfold maxLen at hc; omega, hb.take m, fun e => by simp at e⟩
    by_cases e : m = 0
    · exact .inl e
    · obtain ⟨b, off, spot⟩ := x
      have hc0 := hcell 0 (by omega)
      have hspot : spot = none := by simpa [Addr.add] using World.cell?_spot hc0
      subst hspot
      have hlt : b < w.heap.size := by
        have := World.block_lt_of_cell? w _ hc0
        simpa [Addr.add] using this
      refine .inr ⟨b, off, rfl, hlt, fun i hi => ?_⟩
      simp at hi
      rw [Lz.g_take _ _ _ (by omega)]
      have := hcell i (by omega)
      rw [Addr.add_lit] at this
      exact this
theorem Bytes.nil : Bytes [] := fun x hx => by simp at hx
/-- 'append' to a row of bytes of the call's own, of bytes wherever they lie, none too. -/
theorem wpList_append_bs (w : World) {ops : Array Oper} {rest : List Oper} {o : Oper} {a : Act} {Q : Exit → Act → World → Prop} (hgd : o.guard = none) (s x : Operand)
    (ho : o.op = .call { callee := .builtin .append, args := #[s, x], argTypes := #[25, 25] })
    (base : Nat) (vo : Option Addr) (n vc : Nat) (xs : List Int) (hs : a.eval s = .slice vo n vc) (hown : w.ownsRow base 5 1 (.slice vo n vc) n (bv xs))
    (ao : Option Addr) (m c : Nat) (zs : List Int) (hx : a.eval x = .slice ao m c) (hb : Bs w ao m zs) (hnil : ao = none → c = 0)
    (hbd : n + m ≤ 100000000) (hbase : base ≤ w.heap.size)
    (h : ∀ ao' c' w', w'.ownsRow base 5 1 (.slice ao' (n + m) c') (n + m) (bv (xs ++ zs)) → w.grownBy w' (Value.slice vo n vc).ownBlock → wpList Tryz.prog ops Q rest (a.put o.dst (.slice ao' (n + m) c')) w') :
    wpList Tryz.prog ops Q (o :: rest) a w := by
  obtain ⟨i0, hi, hz0, hz1, hz2⟩ := info_parts infoByte
  obtain ⟨hz, hby, h0⟩ := hb
  cases ao with
  | none =>
    obtain rfl : c = 0 := hnil rfl
    obtain rfl : m = 0 := by
      rcases h0 with h0 | ⟨b, off, h1, _⟩
      · exact h0
      · simp at h1
    obtain rfl : zs = [] := List.eq_nil_of_length_eq_zero hz
    refine wpList_append_own_none hgd s x _ ho base 5 i0 1 Tryz.underlying25 hi _ n (bv xs) hs hown hx ?_
    have := h vo vc w (by simpa using hown) (World.grownBy.refl _ _)
    simpa using this
  | some ad =>
    refine wpList_append_own w hgd s x _ ho base 5 i0 (.int .u8 0) 1 1 Tryz.underlying25 hi hz0 hz1 hz2 rfl (by decide) _ n (bv xs) hs hown ad m c (bv zs) hx (by rw [bv_length]; omega) ?_ (bv_one _) (by unfold maxLen; omega) (by omega) hbase ?_
    · rcases h0 with h0 | ⟨b, off, h1, _, hseg⟩
      · have : zs = [] := List.eq_nil_of_length_eq_zero (by omega)
        subst this
        intro j u hu; simp [bv] at hu
      · obtain rfl := Option.some.inj h1
        have := news_seg hseg m
        rw [List.take_of_length_le (by omega)] at this
        exact this
    · intro v' w' h2 h3 _
      obtain ⟨ao', c', rfl⟩ := owns_shape h2
      exact h ao' c' w' (by rw [bv_append]; exact h2) h3
theorem nil_cap {w : World} {B n c e : Nat} {ao : Option Addr} {vs : List Value} (h : w.ownsRow B e 1 (.slice ao n c) n vs) : ao = none → c = 0 := fun hn => by
  subst hn
  rcases h.2 with ⟨e, _⟩ | ⟨_, _, _, e, _⟩
  · simp at e; omega
  · simp at e
theorem Bs.take {w : World} {ao : Option Addr} {n : Nat} {zs : List Int} (h : Bs w ao n zs) (k : Nat) (hk : k ≤ n) : Bs w ao k (zs.take k) := by
  obtain ⟨hz, hby, h0⟩ := h
  refine ⟨by simp; omega, bytes_take hby k, ?_⟩
  by_cases e : k = 0
  · exact .inl e
  · rcases h0 with h0 | ⟨b, off, h1, h2, h3⟩
    · omega
    · refine .inr ⟨b, off, h1, h2, ?_⟩
      have := h3.cut 0 k
      simpa using this
def half (K i : Nat) (c : Int) : List Int := List.replicate i c ++ List.replicate (K - i) 0
theorem half_zero (K : Nat) (c : Int) : (madeCells (Value.int .u8 0).cells (K * 1)).toList = bv (half K 0 c) := by
  rw [Nat.mul_one]
  show (madeCells #[Value.int .u8 0] K).toList = _
  rw [toList_madeCells_one]
  simp [half, bv]
theorem hide {p : Prop} (h : p) : Hid p := h
theorem ret_bool {a b : Bool} (h : a = b) : Ending.returned (.bool a) = .returned (.bool b) := by rw [h]
theorem enters (fn : Nat) {f : Func} {c : Code} (hf : Tryz.prog.funcs[fn]? = some f) (hname : (f.name == "runtime.NumGoroutine") = false) (hb : f.body = some c) : ∀ (args : Array Value) (w : World), (callFunc fn args).run Tryz.prog w = .ok (.enter fn args) w := fun args w => by
  have hn : ¬ f.name = "runtime.NumGoroutine" := by simpa using hname
  simp [callFunc, hf, hn, hb]
theorem heap_new {w : World} {o : Obj} {k : Nat} (h : k = w.heap.size) : (w.alloc o).heap[k]? = some o := by subst h; exact heap_alloc_new w o
theorem below_drewN {B : Nat} {a b : World} (h : Below B a b) (n : Nat) : Below B a (b.drewN n) := ⟨h.os, h.tape, h.output, h.size, h.block⟩
theorem below_one (w : World) (o : Obj) : Below w.heap.size w (w.alloc o) := (Below.refl _ _).alloc (Nat.le_refl _) o
theorem Bs.bytes {w : World} {ao : Option Addr} {n : Nat} {zs : List Int} (h : Bs w ao n zs) : Bytes zs := Bytes.of_g h.2.1
def In64 (x : Int) : Prop := -9223372036854775808 ≤ x ∧ x ≤ 9223372036854775807
theorem str_inj : ∀ {xs ys : List Int}, Bytes xs → Bytes ys → strOfNums xs = strOfNums ys → xs = ys := by
  intro xs ys hx hy h
  have h2 : xs.map (fun n => UInt8.ofNat n.toNat) = ys.map (fun n => UInt8.ofNat n.toNat) := by
    have := congrArg (fun b : ByteArray => b.data.toList) h
    simpa [strOfNums] using this
  clear h
  induction xs generalizing ys with
  | nil => cases ys with
    | nil => rfl
    | cons y ys => simp at h2
  | cons x xs ih => cases ys with
    | nil => simp at h2
    | cons y ys =>
      simp only [List.map_cons, List.cons.injEq] at h2
      have hx0 := hx x (by simp)
      have hy0 := hy y (by simp)
      have e := congrArg UInt8.toNat h2.1
      rw [UInt8.toNat_ofNat_of_lt' (by show x.toNat < 256; omega), UInt8.toNat_ofNat_of_lt' (by show y.toNat < 256; omega)] at e
      rw [ih (fun z hz => hx z (by simp [hz])) (fun z hz => hy z (by simp [hz])) h2.2]
      congr 1; omega
theorem str_eq {x y : List Int} (hx : Bytes x) (hy : Bytes y) : ((strOfNums x).toList == (strOfNums y).toList) = decide (x = y) := by
  rw [Bool.eq_iff_iff, beq_iff_eq, decide_eq_true_eq]
  refine ⟨fun h => str_inj hx hy ?_, fun h => by rw [h]⟩
  rw [ByteArray.toList_eq, ByteArray.toList_eq] at h
  exact ByteArray.ext (Array.toList_inj.1 h)
theorem results_cr2 {fn : Func} {p u : Tmp} {ty : TypeId} (h : fn.results = #[.cell p ty, .tmp u]) (tmps : Array Value) (w : World) (g : Nat) (cs : Array Value)
    (hp : tmps.getD p undef = .pointer (some ⟨g, 0, none⟩)) (hr : (loadVar ty ⟨g, 0, none⟩).run Tryz.prog w = .ok (.agg cs) w) :
    (results fn tmps).run Tryz.prog w = .ok (.tuple #[.agg cs, tmps.getD u undef]) w := by
  have hp' : tmps[p]?.getD undef = .pointer (some ⟨g, 0, none⟩) := by simpa using hp
  simp [results, h, hp', asAddr, hr]
theorem yieldsIf_load_row {ops : Array Oper} {S : World → Prop} {op : Oper} {a : Act} (hw : Region.wanted op (yielded ops a.tmps) = true) (ty : TypeId) (x : Operand) (ho : op.op = .load ty x)
    (b : Nat) (hx : a.eval x = .pointer (some ⟨b, 0, none⟩)) (cs : Array Value) (hS : ∀ w, S w → (loadVar ty ⟨b, 0, none⟩).run Tryz.prog w = .ok (.agg cs) w) : YieldsIf Tryz.prog ops S op (.agg cs) a :=
  .inl ⟨hw, fun w hw' => by
    unfold execOp
    simp only [ho, hx, Instr.loadAt, Instr.sureAddr, Sem.run_bind, Sem.run_pure, Result.andThen_ok, hS w hw']⟩
theorem owns_obj {w : World} {B e size n k : Nat} {v : Value} {xs : List Value} (h : w.ownsRow B e size v n xs) (hk : v.ownBlock = some k) : ∃ cur, w.heap[k]? = some (.cells cur e (0, 0)) := by
  rcases h.2 with ⟨rfl, _⟩ | ⟨g, cap, cur, rfl, _, hgg, _⟩
  · simp [Value.ownBlock] at hk
  · simp [Value.ownBlock] at hk
    subst hk
    exact ⟨cur, hgg⟩
/-- Blocks of two types are two. -/
theorem ne_obj {w : World} {a b : Nat} {cs cs' : Array Value} {t t' : TypeId} {f f' : Nat × Nat} (h : w.heap[a]? = some (.cells cs t f)) (k : w.heap[b]? = some (.cells cs' t' f')) (ht : t ≠ t') : a ≠ b := fun e => by
  subst e
  rw [h] at k
  injection k with k
  injection k with _ k2 _
  exact ht k2
end Go.Proofs.YtchcejjoncihkaaGreatDoor

/- Layer 6, on lists of bytes alone: names that may be, rows of names compared, paths cut and put together. Nothing here speaks of the program. -/
namespace Go.Proofs.YtchcejjoncihkaaGreatDoor.Nam
set_option linter.unusedVariables false

/-- A byte that no name has. -/
def bad (b : UInt8) : Bool := b == 0 || b == 47
/-- What is wrong with a name. -/
def valid (l : List UInt8) : Int := if 255 < l.length then 23 else if l = [] ∨ l = [46] ∨ l = [46, 46] ∨ l.any bad = true then 22 else 0
theorem valid_long {l : List UInt8} (h : 255 < l.length) : valid l = 23 := by simp [valid, h]
theorem valid_name {l : List UInt8} (h : ¬ 255 < l.length) (k : l = [] ∨ l = [46] ∨ l = [46, 46]) : valid l = 22 := by
  rw [valid, if_neg h, if_pos]
  rcases k with k | k | k
  · exact .inl k
  · exact .inr (.inl k)
  · exact .inr (.inr (.inl k))
theorem valid_bad {l : List UInt8} (h : ¬ 255 < l.length) (k : l.any bad = true) : valid l = 22 := by
  rw [valid, if_neg h, if_pos (.inr (.inr (.inr k)))]
theorem valid_ok {l : List UInt8} (h : ¬ 255 < l.length) (h0 : l ≠ []) (h1 : l ≠ [46]) (h2 : l ≠ [46, 46]) (k : l.any bad = false) : valid l = 0 := by
  rw [valid, if_neg h, if_neg]
  simp [h0, h1, h2, k]
theorem valid_zero {l : List UInt8} (h : valid l = 0) : l.length ≤ 255 ∧ l ≠ [] ∧ l ≠ [46] ∧ l ≠ [46, 46] ∧ (∀ b ∈ l, b ≠ 47) := by
  by_cases h1 : 255 < l.length
  · rw [valid_long h1] at h; cases h
  · by_cases h2 : l = [] ∨ l = [46] ∨ l = [46, 46] ∨ l.any bad = true
    · rw [valid, if_neg h1, if_pos h2] at h; cases h
    · simp only [not_or] at h2
      obtain ⟨a, b, c, d⟩ := h2
      refine ⟨by omega, a, b, c, fun x hx e => d ?_⟩
      rw [List.any_eq_true]
      exact ⟨x, hx, by rw [e]; rfl⟩

/-! ### Rows of names -/

theorem bless_irrefl : ∀ a, Op.bytesLess a a = false
  | [] => by simp [Op.bytesLess]
  | a :: x => by simp [Op.bytesLess, bless_irrefl x, UInt8.lt_irrefl]
theorem bless_trans : ∀ a b c, Op.bytesLess a b = true → Op.bytesLess b c = true → Op.bytesLess a c = true
  | _, [], _, h, _ => by simp [Op.bytesLess] at h
  | _, _ :: _, [], _, h => by simp [Op.bytesLess] at h
  | [], _ :: _, _ :: _, _, _ => by simp [Op.bytesLess]
  | a :: x, b :: y, c :: z, h, k => by
    simp only [Op.bytesLess, Bool.or_eq_true, Bool.and_eq_true, decide_eq_true_eq, beq_iff_eq] at h k ⊢
    rcases h with h | ⟨rfl, h⟩
    · rcases k with k | ⟨rfl, k⟩
      · exact .inl (UInt8.lt_trans h k)
      · exact .inl h
    · rcases k with k | ⟨rfl, k⟩
      · exact .inl k
      · exact .inr ⟨rfl, bless_trans x y z h k⟩
theorem bless_total : ∀ a b, a ≠ b → Op.bytesLess a b = true ∨ Op.bytesLess b a = true
  | [], [], h => absurd rfl h
  | [], _ :: _, _ => .inl (by simp [Op.bytesLess])
  | _ :: _, [], _ => .inr (by simp [Op.bytesLess])
  | a :: x, b :: y, h => by
    simp only [Op.bytesLess, Bool.or_eq_true, Bool.and_eq_true, decide_eq_true_eq, beq_iff_eq]
    by_cases e : a = b
    · subst e
      rcases bless_total x y (fun e => h (by rw [e])) with k | k
      · exact .inl (.inr ⟨rfl, k⟩)
      · exact .inr (.inr ⟨rfl, k⟩)
    · rcases UInt8.lt_or_lt_of_ne e with k | k
      · exact .inl (.inl k)
      · exact .inr (.inl k)
theorem bless_asymm (a b) (h : Op.bytesLess a b = true) : Op.bytesLess b a = false := by
  cases k : Op.bytesLess b a with
  | false => rfl
  | true => have := bless_trans a b a h k; rw [bless_irrefl] at this; cases this

/-- Whether a row stands ahead of another one. -/
def less : List (List UInt8) → List (List UInt8) → Bool
  | _, [] => false
  | [], _ :: _ => true
  | a :: x, b :: y => if a = b then less x y else Op.bytesLess a b
/-- Compare's answer for two names. -/
def cmp1 (a b : List UInt8) : Int := if Op.bytesLess a b = true then -1 else if a = b then 0 else 1
/-- Compare's answer for two rows. -/
def cmp : List (List UInt8) → List (List UInt8) → Int
  | [], [] => 0
  | [], _ :: _ => -1
  | _ :: _, [] => 1
  | a :: x, b :: y => if cmp1 a b = 0 then cmp x y else cmp1 a b
theorem cmp1_zero (a b) : cmp1 a b = 0 ↔ a = b := by
  unfold cmp1
  constructor
  · intro h
    split at h
    · cases h
    · split at h
      · assumption
      · cases h
  · rintro rfl
    rw [if_neg (by rw [bless_irrefl]; simp), if_pos rfl]
theorem cmp1_neg (a b) : cmp1 a b < 0 ↔ Op.bytesLess a b = true := by
  unfold cmp1
  constructor
  · intro h
    split at h
    · assumption
    · split at h <;> omega
  · intro h
    rw [if_pos h]; omega
theorem cmp_less : ∀ a b, decide (cmp a b < 0) = less a b
  | [], [] => by simp [cmp, less]
  | [], _ :: _ => by simp [cmp, less]
  | _ :: _, [] => by simp [cmp, less]
  | a :: x, b :: y => by
    unfold cmp less
    by_cases e : a = b
    · rw [if_pos ((cmp1_zero a b).2 e), if_pos e]; exact cmp_less x y
    · rw [if_neg (fun h => e ((cmp1_zero a b).1 h)), if_neg e]
      by_cases k : Op.bytesLess a b = true
      · rw [k, decide_eq_true ((cmp1_neg a b).2 k)]
      · rw [decide_eq_false (fun h => k ((cmp1_neg a b).1 h))]
        simpa using k
theorem less_irrefl : ∀ a, less a a = false
  | [] => rfl
  | a :: x => by rw [less, if_pos rfl]; exact less_irrefl x
theorem less_trans : ∀ a b c, less a b = true → less b c = true → less a c = true
  | _, [], _, h, _ => by simp [less] at h
  | _, _ :: _, [], _, h => by simp [less] at h
  | [], _ :: _, _ :: _, _, _ => rfl
  | a :: x, b :: y, c :: z, h, k => by
    unfold less at h k ⊢
    by_cases e1 : a = b
    · subst e1
      rw [if_pos rfl] at h
      by_cases e2 : a = c
      · rw [if_pos e2] at k ⊢
        exact less_trans x y z h k
      · rw [if_neg e2] at k ⊢
        exact k
    · rw [if_neg e1] at h
      by_cases e2 : b = c
      · subst e2
        rw [if_neg e1]; exact h
      · rw [if_neg e2] at k
        have := bless_trans a b c h k
        by_cases e3 : a = c
        · subst e3; rw [bless_irrefl] at this; cases this
        · rw [if_neg e3]; exact this
theorem less_total : ∀ a b, a ≠ b → less a b = true ∨ less b a = true
  | [], [], h => absurd rfl h
  | [], _ :: _, _ => .inl rfl
  | _ :: _, [], _ => .inr rfl
  | a :: x, b :: y, h => by
    unfold less
    by_cases e : a = b
    · subst e
      rw [if_pos rfl, if_pos rfl]
      exact less_total x y (fun e => h (by rw [e]))
    · rw [if_neg e, if_neg (Ne.symm e)]
      exact bless_total a b e
theorem less_asymm (a b) (h : less a b = true) : less b a = false := by
  cases k : less b a with
  | false => rfl
  | true => have := less_trans a b a h k; rw [less_irrefl] at this; cases this
/-- Whether a row begins with another one, and goes on. -/
def below (l r : List (List UInt8)) : Bool := decide (r.length < l.length) && decide (l.take r.length = r)
theorem less_append : ∀ (r : List (List UInt8)) x y, less r (r ++ x :: y) = true
  | [], _, _ => rfl
  | a :: r, x, y => by rw [List.cons_append, less, if_pos rfl]; exact less_append r x y
theorem less_pre : ∀ (r a b : List (List UInt8)), less (r ++ a) (r ++ b) = less a b
  | [], _, _ => rfl
  | x :: r, a, b => by rw [List.cons_append, List.cons_append, less, if_pos rfl]; exact less_pre r a b
/-! ### Paths -/

/-- What stands between slashes, with the empty parts. -/
def parts : List UInt8 → List (List UInt8)
  | [] => [[]]
  | b :: r => if b = 47 then [] :: parts r else match parts r with | [] => [[b]] | h :: t => (b :: h) :: t
/-- The parts of what goes on behind pre. -/
def pc (pre r : List UInt8) : List (List UInt8) := match parts r with | [] => [pre] | h :: t => (pre ++ h) :: t
theorem parts_ne : ∀ l, parts l ≠ []
  | [] => by simp [parts]
  | b :: r => by unfold parts; split <;> (try split) <;> simp
theorem pc_nil (r) : pc [] r = parts r := by
  unfold pc
  split
  · rename_i h; exact absurd h (parts_ne r)
  · rename_i h; rw [h]; rfl
theorem pc_byte (pre b r) (h : b ≠ 47) : pc pre (b :: r) = pc (pre ++ [b]) r := by
  unfold pc
  rw [parts, if_neg h]
  cases hp : parts r with
  | nil => exact absurd hp (parts_ne r)
  | cons x t => simp
theorem pc_chunk : ∀ (c pre r : List UInt8), (∀ b ∈ c, b ≠ 47) → pc pre (c ++ r) = pc (pre ++ c) r
  | [], pre, r, _ => by simp
  | b :: c, pre, r, h => by
    rw [List.cons_append, pc_byte _ _ _ (h b (by simp)), pc_chunk c _ r (fun x hx => h x (by simp [hx]))]
    simp
theorem parts_slash (r) : parts (47 :: r) = [] :: parts r := by simp [parts]
theorem parts_flat : ∀ (l : List (List UInt8)) (t : List UInt8), (∀ n ∈ l, ∀ b ∈ n, b ≠ 47) → l ≠ [] → ∀ ts, parts t = [] :: ts → parts (l.flatMap (fun n => 47 :: n) ++ t) = [] :: (l.dropLast ++ (l.getLast?.getD []) :: ts)
  | [], _, _, h, _, _ => absurd rfl h
  | [n], t, h, _, ts, ht => by
    rw [List.flatMap_cons, List.flatMap_nil, List.append_nil, List.cons_append, parts_slash, ← pc_nil, pc_chunk n [] t (h n (by simp)), List.nil_append, pc, ht]
    simp
  | n :: m :: l, t, h, _, ts, ht => by
    have ih := parts_flat (m :: l) t (fun x hx => h x (by simp [hx])) (by simp) ts ht
    rw [List.flatMap_cons, List.cons_append, List.cons_append, parts_slash, List.append_assoc, ← pc_nil, pc_chunk n [] _ (h n (by simp)), List.nil_append, pc, ih]
    simp
theorem last_join {α : Type} (l : List α) (d : α) (h : l ≠ []) : l.dropLast ++ [l.getLast?.getD d] = l := by
  rw [List.getLast?_eq_some_getLast h, Option.getD_some, List.dropLast_concat_getLast]
/-- A path put together. -/
def join (l : List (List UInt8)) : List UInt8 := if l = [] then [47] else l.flatMap (fun n => 47 :: n)
theorem parts_join {l : List (List UInt8)} (h : ∀ n ∈ l, valid n = 0) (h0 : l ≠ []) : parts (join l) = [] :: l ∧ parts (join l ++ [47]) = [] :: (l ++ [[]]) := by
  have hb : ∀ n ∈ l, ∀ b ∈ n, b ≠ 47 := fun n hn => (valid_zero (h n hn)).2.2.2.2
  rw [join, if_neg h0]
  constructor
  · have := parts_flat l [] hb h0 [] rfl
    rw [List.append_nil, last_join l [] h0] at this
    exact this
  · have := parts_flat l [47] hb h0 [[]] rfl
    rw [show l.dropLast ++ l.getLast?.getD [] :: [[]] = (l.dropLast ++ [l.getLast?.getD []]) ++ [[]] by simp, last_join l [] h0] at this
    exact this
/-- Rows of valid names come to the same path just if they are the same. -/
theorem join_inj {l m : List (List UInt8)} (h : ∀ n ∈ l, valid n = 0) (k : ∀ n ∈ m, valid n = 0) (e : join l = join m) : l = m := by
  by_cases h0 : l = []
  · by_cases k0 : m = []
    · rw [h0, k0]
    · exfalso
      have := (parts_join k k0).1
      rw [← e, h0] at this
      have e2 : [([] : List UInt8), []] = [] :: m := by rw [← this]; decide
      injection e2 with _ e3
      exact (valid_zero (k [] (by rw [← e3]; simp))).2.1 rfl
  · by_cases k0 : m = []
    · exfalso
      have := (parts_join h h0).1
      rw [e, k0] at this
      have e2 : [([] : List UInt8), []] = [] :: l := by rw [← this]; decide
      injection e2 with _ e3
      exact (valid_zero (h [] (by rw [← e3]; simp))).2.1 rfl
    · have a := (parts_join h h0).1
      have b := (parts_join k k0).1
      rw [e, b] at a
      injection a with _ a
      exact a.symm
/-! ### Letters -/

/-- What one step over a text passes: one byte below 128, or bytes that are all 128 and above. -/
theorem decode_pass (s : ByteArray) (pos : Nat) (h : pos < s.size) :
    pos + (Utf8.decode s pos).2 ≤ s.size ∧ 1 ≤ (Utf8.decode s pos).2 ∧
    (((s[pos]'h).toNat < 128 ∧ (Utf8.decode s pos).1 = (s[pos]'h).toNat ∧ (Utf8.decode s pos).2 = 1) ∨
     (128 ≤ (Utf8.decode s pos).1 ∧ ∀ j, j < (Utf8.decode s pos).2 → ∃ hj : pos + j < s.size, 128 ≤ (s[pos + j]'hj).toNat)) := by
  by_cases ha : (s[pos]'h).toNat < 128
  · rw [decode_ascii s pos h ha]
    exact ⟨by simp only; omega, Nat.le_refl _, .inl ⟨ha, rfl, rfl⟩⟩
  · have hh := decode_high s pos h (by omega)
    have hg : ∀ k, (hk : pos + k < s.size) → s.get! (pos + k) = s[pos + k]'hk := fun k hk => by
      simp [ByteArray.get!, getElem!_pos, hk]
      rfl
    have key : (Utf8.decode s pos).2 = 1 ∨ ((Utf8.decode s pos).2 = 2 ∧ pos + 1 < s.size ∧ (s.get! (pos + 1)).toNat / 64 = 2) ∨
        ((Utf8.decode s pos).2 = 3 ∧ (pos + 1 < s.size ∧ (s.get! (pos + 1)).toNat / 64 = 2) ∧ pos + 2 < s.size ∧ (s.get! (pos + 2)).toNat / 64 = 2) ∨
        ((Utf8.decode s pos).2 = 4 ∧ ((pos + 1 < s.size ∧ (s.get! (pos + 1)).toNat / 64 = 2) ∧ pos + 2 < s.size ∧ (s.get! (pos + 2)).toNat / 64 = 2) ∧ pos + 3 < s.size ∧ (s.get! (pos + 3)).toNat / 64 = 2) := by
      clear hg hh
      simp only [Utf8.decode]
      repeat' split
      all_goals simp_all
    have one : ∀ k, (hk : pos + k < s.size) → (s.get! (pos + k)).toNat / 64 = 2 → 128 ≤ (s[pos + k]'hk).toNat := fun k hk e => by
      rw [hg k hk] at e; omega
    rcases key with k | ⟨k, a, a'⟩ | ⟨k, ⟨a, a'⟩, b, b'⟩ | ⟨k, ⟨⟨a, a'⟩, b, b'⟩, c, c'⟩
    · refine ⟨by omega, hh.2, .inr ⟨hh.1, fun j hj => ?_⟩⟩
      obtain rfl : j = 0 := by omega
      exact ⟨h, by simpa using Nat.le_of_not_lt ha⟩
    · refine ⟨by omega, hh.2, .inr ⟨hh.1, fun j hj => ?_⟩⟩
      match j, (by omega : j < 2) with
      | 0, _ => exact ⟨h, by simpa using Nat.le_of_not_lt ha⟩
      | 1, _ => exact ⟨a, one 1 a a'⟩
    · refine ⟨by omega, hh.2, .inr ⟨hh.1, fun j hj => ?_⟩⟩
      match j, (by omega : j < 3) with
      | 0, _ => exact ⟨h, by simpa using Nat.le_of_not_lt ha⟩
      | 1, _ => exact ⟨a, one 1 a a'⟩
      | 2, _ => exact ⟨b, one 2 b b'⟩
    · refine ⟨by omega, hh.2, .inr ⟨hh.1, fun j hj => ?_⟩⟩
      match j, (by omega : j < 4) with
      | 0, _ => exact ⟨h, by simpa using Nat.le_of_not_lt ha⟩
      | 1, _ => exact ⟨a, one 1 a a'⟩
      | 2, _ => exact ⟨b, one 2 b b'⟩
      | 3, _ => exact ⟨c, one 3 c c'⟩
/-- The same on the list of bytes: what is passed is a chunk; its letter is bad just if one of its bytes is; a slash stands alone. -/
theorem letter (s : ByteArray) (pos : Nat) (h : pos < s.size) : ∃ c : List UInt8, s.toList.drop pos = c ++ s.toList.drop (pos + (Utf8.decode s pos).2) ∧ c.length = (Utf8.decode s pos).2 ∧ 1 ≤ (Utf8.decode s pos).2 ∧ pos + (Utf8.decode s pos).2 ≤ s.size ∧
    ((∃ b, c = [b] ∧ ((Utf8.decode s pos).1 : Int) = b.toNat) ∨ (128 ≤ (Utf8.decode s pos).1 ∧ ∀ b ∈ c, 128 ≤ b.toNat)) := by
  obtain ⟨h1, h2, h3⟩ := decode_pass s pos h
  have hl : s.toList.length = s.size := by rw [ByteArray.toList_eq]; rfl
  have hge : ∀ k, (hk : k < s.size) → s.toList[k]'(by omega) = s[k]'hk := fun k hk => by
    have e := ByteArray.toList_eq (bs := s)
    simp only [e]; rfl
  generalize hd : Utf8.decode s pos = d at *
  refine ⟨(s.toList.drop pos).take d.2, ?_, by rw [List.length_take, List.length_drop, hl]; omega, h2, h1, ?_⟩
  · rw [← List.drop_drop, List.take_append_drop]
  · rcases h3 with ⟨a, b, c⟩ | ⟨a, b⟩
    · refine .inl ⟨s[pos]'h, ?_, by rw [b]⟩
      rw [c, List.drop_eq_getElem_cons (by omega : pos < s.toList.length)]
      simp [hge pos h]
    · refine .inr ⟨a, fun x hx => ?_⟩
      obtain ⟨j, hj, rfl⟩ := List.getElem_of_mem hx
      simp only [List.length_take, List.length_drop, hl] at hj
      obtain ⟨hj', hb⟩ := b j (by omega)
      simp only [List.getElem_take, List.getElem_drop]
      rw [hge (pos + j) hj']
      exact hb
end Go.Proofs.YtchcejjoncihkaaGreatDoor.Nam

/- Layer 6: texts as lists of bytes. Nothing here speaks of one function of the program. -/
namespace Go.Proofs.YtchcejjoncihkaaGreatDoor
set_option linter.unusedVariables false

theorem toList_inj {a b : ByteArray} (h : a.toList = b.toList) : a = b := by
  rw [ByteArray.toList_eq, ByteArray.toList_eq] at h
  cases a; cases b
  simp only [ByteArray.mk.injEq]
  exact Array.toList_inj.1 h
theorem toList_mk (l : List UInt8) : (⟨l.toArray⟩ : ByteArray).toList = l := by rw [ByteArray.toList_eq]
theorem toList_length (s : ByteArray) : s.toList.length = s.size := by rw [ByteArray.toList_eq]; rfl
end Go.Proofs.YtchcejjoncihkaaGreatDoor

/- Layer 6: rows of names in memory: one that came in, one of the call's own. Nothing here speaks of one function of the program. -/
namespace Go.Proofs.YtchcejjoncihkaaGreatDoor
set_option linter.unusedVariables false
open Go.RowKit Go.Maps Go.ChangeShapes Go.WideShapes Go.ChangeAt

/-- The name at a place; the empty one where there is none. -/
def gs (l : List ByteArray) (i : Nat) : ByteArray := l.getD i ⟨#[]⟩
theorem gs_lt (l : List ByteArray) (i : Nat) (h : i < l.length) : gs l i = l[i] := by simp [gs, h]
theorem gs_take (l : List ByteArray) (k i : Nat) (h : i < k) : gs (l.take k) i = gs l i := by simp [gs, h]
/-- Names as lists of bytes. -/
def nm (l : List ByteArray) : List (List UInt8) := l.map ByteArray.toList
theorem nm_length (l : List ByteArray) : (nm l).length = l.length := by simp [nm]
theorem nm_append (l m : List ByteArray) : nm (l ++ m) = nm l ++ nm m := by simp [nm]
theorem nm_take (l : List ByteArray) (k : Nat) : nm (l.take k) = (nm l).take k := by simp [nm]
theorem nm_drop (l : List ByteArray) (i : Nat) (h : i < l.length) : (nm l).drop i = (gs l i).toList :: (nm l).drop (i + 1) := by
  rw [List.drop_eq_getElem_cons (by rw [nm_length]; exact h), gs_lt l i h]
  simp [nm]
theorem nm_inj {l m : List ByteArray} (h : nm l = nm m) : l = m := List.map_inj_right (fun _ _ e => toList_inj e) |>.1 h
/-- The slice at ao, n long, holds the names l. -/
def Rs (w : World) (ao : Option Addr) (n : Nat) (l : List ByteArray) : Prop :=
  l.length = n ∧ (n = 0 ∨ ∃ b off, ao = some ⟨b, off, none⟩ ∧ b < w.heap.size ∧ ∀ i, i < l.length → w.cell? ⟨b, off + i, none⟩ = some (.string (gs l i)))
theorem Rs.below {w w' : World} {ao : Option Addr} {n : Nat} {l : List ByteArray} (h : Rs w ao n l) (hb : Below w.heap.size w w') : Rs w' ao n l := by
  refine ⟨h.1, ?_⟩
  rcases h.2 with h0 | ⟨b, off, h1, h2, h3⟩
  · exact .inl h0
  · exact .inr ⟨b, off, h1, Nat.lt_of_lt_of_le h2 hb.size, fun i hi => (hb.cell (by exact h2)).trans (h3 i hi)⟩
theorem Rs.drewN {w : World} {ao : Option Addr} {n : Nat} {l : List ByteArray} (h : Rs w ao n l) (k : Nat) : Rs (w.drewN k) ao n l := by
  refine ⟨h.1, ?_⟩
  rcases h.2 with h0 | ⟨b, off, h1, h2, h3⟩
  · exact .inl h0
  · exact .inr ⟨b, off, h1, h2, fun i hi => by rw [← h3 i hi]; simp⟩
theorem Rs.take {w : World} {ao : Option Addr} {n : Nat} {l : List ByteArray} (h : Rs w ao n l) (k : Nat) (hk : k ≤ n) : Rs w ao k (l.take k) := by
  obtain ⟨hz, h0⟩ := h
  refine ⟨by simp; omega, ?_⟩
  rcases h0 with h0 | ⟨b, off, h1, h2, h3⟩
  · exact .inl (by omega)
  · refine .inr ⟨b, off, h1, h2, fun i hi => ?_⟩
    simp at hi
    rw [gs_take _ _ _ (by omega)]
    exact h3 i (by omega)
theorem Rs.nil (w : World) (ao : Option Addr) : Rs w ao 0 [] := ⟨rfl, .inl rfl⟩
/-- The cells, where there is one. -/
theorem Rs.at {w : World} {ao : Option Addr} {n : Nat} {l : List ByteArray} (h : Rs w ao n l) (hn : 0 < n) : ∃ b off, ao = some ⟨b, off, none⟩ ∧ b < w.heap.size ∧ ∀ i, i < n → w.cell? ⟨b, off + i, none⟩ = some (.string (gs l i)) := by
  rcases h.2 with h0 | ⟨b, off, h1, h2, h3⟩
  · omega
  · exact ⟨b, off, h1, h2, fun i hi => h3 i (by rw [h.1]; exact hi)⟩
/-- Names as strings' values. -/
def sv (l : List ByteArray) : List Value := l.map Value.string
theorem sv_length (l : List ByteArray) : (sv l).length = l.length := by simp [sv]
theorem rs_of_owns {w : World} {B n c : Nat} {ao : Option Addr} {l : List ByteArray} (h : w.ownsRow B 9 1 (.slice ao n c) n (sv l)) : Rs w ao n l := by
  have hlen : l.length = n := by have := h.1; rw [sv_length] at this; omega
  refine ⟨hlen, ?_⟩
  by_cases e : n = 0
  · exact .inl e
  · obtain ⟨gb, c', hv, _, hlt⟩ := h.form (by omega)
    obtain ⟨rfl, _, rfl⟩ : ao = some ⟨gb, 0, none⟩ ∧ n = n ∧ c = c' := by simpa using hv
    refine .inr ⟨gb, 0, rfl, hlt, fun i hi => ?_⟩
    rw [Nat.zero_add, h.cellAt i (by omega)]
    unfold sv
    rw [List.getElem?_map, List.getElem?_eq_getElem hi, gs_lt _ _ hi]; rfl
theorem infoStr : (Tryz.prog.info? 9).map (fun i => (i.zero, i.size, i.bytes)) = some (some (.string ⟨#[]⟩), 1, 16) := by kernel_rfl
theorem sv_one (l : List ByteArray) : ∀ u ∈ sv l, u.oneCell' = true := by
  intro u hu
  simp only [sv, List.mem_map] at hu
  obtain ⟨s, _, rfl⟩ := hu
  rfl
end Go.Proofs.YtchcejjoncihkaaGreatDoor

/- Layer 7, on lists alone: nodes, what is wrong with a tree, nodes in order, numbers of Inos. Nothing here speaks of the program. -/
namespace Go.Proofs.YtchcejjoncihkaaGreatDoor
set_option linter.unusedVariables false
open Nam

/-- A node. -/
structure Nod where
  names : List ByteArray
  ino : Int
  kind : Int
  mode : Int
  uid : Int
  gid : Int
  data : List Int
  target : ByteArray
  xs : List (ByteArray × List Int)
  opq : Bool
namespace Tre
/-- Whether two nodes have the same. -/
def alike (a b : Nod) : Bool := decide (a.kind = b.kind ∧ (a.mode = b.mode ∧ a.uid = b.uid ∧ a.gid = b.gid) ∧ a.target = b.target ∧ a.opq = b.opq ∧ a.data = b.data ∧ a.xs = b.xs)
theorem alike_iff (a b : Nod) : alike a b = true ↔ (a.kind = b.kind ∧ (a.mode = b.mode ∧ a.uid = b.uid ∧ a.gid = b.gid) ∧ a.target = b.target ∧ a.opq = b.opq ∧ a.data = b.data ∧ a.xs = b.xs) := by
  unfold alike; exact decide_eq_true_iff
theorem alike_symm {a b : Nod} (h : alike a b = true) : alike b a = true := by
  obtain ⟨h1, ⟨h2, h3, h4⟩, h5, h6, h7, h8⟩ := (alike_iff a b).1 h
  exact (alike_iff b a).2 ⟨h1.symm, ⟨h2.symm, h3.symm, h4.symm⟩, h5.symm, h6.symm, h7.symm, h8.symm⟩
theorem alike_trans {a b c : Nod} (h : alike a b = true) (k : alike b c = true) : alike a c = true := by
  obtain ⟨h1, ⟨h2, h3, h4⟩, h5, h6, h7, h8⟩ := (alike_iff a b).1 h
  obtain ⟨k1, ⟨k2, k3, k4⟩, k5, k6, k7, k8⟩ := (alike_iff b c).1 k
  exact (alike_iff a c).2 ⟨h1.trans k1, ⟨h2.trans k2, h3.trans k3, h4.trans k4⟩, h5.trans k5, h6.trans k6, h7.trans k7, h8.trans k8⟩
/-- A text of 1 to m bytes, none of them 0. -/
def txt (s : List UInt8) (m : Nat) : Bool := decide (s ≠ []) && decide (s.length ≤ m) && !s.any (· == 0)
/-- Attributes, behind a name. -/
def xs1 : List UInt8 → List (ByteArray × List Int) → Bool
  | _, [] => true
  | a, x :: r => Op.bytesLess a x.1.toList && txt x.1.toList 40 && decide (x.2.length ≤ 200) && xs1 x.1.toList r
def xsOk (xs : List (ByteArray × List Int)) : Bool := decide (xs.length ≤ 8) && xs1 [] xs
def kdOk (n : Nod) : Bool :=
  if n.kind = 1 then decide (n.data.length = 0) && n.target.toList.isEmpty
  else if n.kind = 2 then decide (n.data.length ≤ 4096) && n.target.toList.isEmpty
  else if n.kind = 3 then decide (n.data.length = 0) && txt n.target.toList 200
  else false
def attrOk (n : Nod) : Bool := decide ((0 ≤ n.mode ∧ n.mode ≤ 511) ∧ (0 ≤ n.uid ∧ n.uid ≤ 65535) ∧ 0 ≤ n.gid ∧ n.gid ≤ 65535)
/-- Whether a node may be. -/
def may (n : Nod) : Bool := kdOk n && attrOk n && xsOk n.xs && !n.opq

/-- The error of the first name that has one. -/
def fv : List ByteArray → Int
  | [] => 0
  | s :: r => if valid s.toList = 0 then fv r else valid s.toList
/-- The same, node by node. -/
def wrong : List Nod → Int
  | [] => 0
  | n :: r => if fv n.names = 0 then wrong r else fv n.names
theorem fv_zero : ∀ (l : List ByteArray), fv l = 0 → ∀ s ∈ l, valid s.toList = 0
  | [], _, s, hs => by simp at hs
  | a :: r, h, s, hs => by
    unfold fv at h
    by_cases e : valid a.toList = 0
    · rw [if_pos e] at h
      rcases List.mem_cons.1 hs with rfl | hs
      · exact e
      · exact fv_zero r h s hs
    · rw [if_neg e] at h; exact absurd h e
theorem wrong_zero : ∀ (l : List Nod), wrong l = 0 → ∀ n ∈ l, fv n.names = 0
  | [], _, n, hn => by simp at hn
  | a :: r, h, n, hn => by
    unfold wrong at h
    by_cases e : fv a.names = 0
    · rw [if_pos e] at h
      rcases List.mem_cons.1 hn with rfl | hn
      · exact e
      · exact wrong_zero r h n hn
    · rw [if_neg e] at h; exact absurd h e
def deep (n : Nod) : Bool := decide (16 < n.names.length)
/-- Whether names name a directory. -/
def isDir (l : List Nod) (m : List ByteArray) : Bool :=
  match l.find? (fun n => decide (n.names = m)) with
  | some n => decide (n.kind = 1)
  | none => false
/-- Whether a node stands in a directory. -/
def inDir (l : List Nod) (n : Nod) : Bool := decide (n.names.length = 0) || isDir l n.names.dropLast
/-- Two nodes of one Ino. -/
abbrev one (a b : Nod) : Prop := a.ino = b.ino → b.kind ≠ 1 ∧ alike a b = true
/-- What is wrong with a tree. -/
def check (l : List Nod) : Int :=
  if 1024 < l.length then 3
  else if wrong l ≠ 0 then wrong l
  else if l.any deep = true then 9
  else if ¬ (l.map Nod.names).Nodup then 6
  else if isDir l [] = false then 4
  else if l.all (inDir l) = false then 5
  else if l.all may = false then 7
  else if ¬ l.Pairwise Tre.one then 8
  else 0
theorem check_big {l : List Nod} (h : 1024 < l.length) : check l = 3 := by rw [check, if_pos h]
theorem check_name {l : List Nod} (h : ¬ 1024 < l.length) (k : wrong l ≠ 0) : check l = wrong l := by rw [check, if_neg h, if_pos k]
theorem check_deep {l : List Nod} (h : ¬ 1024 < l.length) (k : wrong l = 0) (d : l.any deep = true) : check l = 9 := by
  rw [check, if_neg h, if_neg (by rw [k]; simp), if_pos d]
theorem check_twice {l : List Nod} (h : ¬ 1024 < l.length) (k : wrong l = 0) (d : l.any deep = false) (t : ¬ (l.map Nod.names).Nodup) : check l = 6 := by
  rw [check, if_neg h, if_neg (by rw [k]; simp), if_neg (by rw [d]; simp), if_pos t]
theorem check_root {l : List Nod} (h : ¬ 1024 < l.length) (k : wrong l = 0) (d : l.any deep = false) (t : (l.map Nod.names).Nodup) (r : isDir l [] = false) : check l = 4 := by
  rw [check, if_neg h, if_neg (by rw [k]; simp), if_neg (by rw [d]; simp), if_neg (by simpa using t), if_pos r]
theorem check_parent {l : List Nod} (h : ¬ 1024 < l.length) (k : wrong l = 0) (d : l.any deep = false) (t : (l.map Nod.names).Nodup) (r : isDir l [] = true) (p : l.all (inDir l) = false) : check l = 5 := by
  rw [check, if_neg h, if_neg (by rw [k]; simp), if_neg (by rw [d]; simp), if_neg (by simpa using t), if_neg (by rw [r]; simp), if_pos p]
theorem check_kind {l : List Nod} (h : ¬ 1024 < l.length) (k : wrong l = 0) (d : l.any deep = false) (t : (l.map Nod.names).Nodup) (r : isDir l [] = true) (p : l.all (inDir l) = true) (m : l.all may = false) : check l = 7 := by
  rw [check, if_neg h, if_neg (by rw [k]; simp), if_neg (by rw [d]; simp), if_neg (by simpa using t), if_neg (by rw [r]; simp), if_neg (by rw [p]; simp), if_pos m]
theorem check_links {l : List Nod} (h : ¬ 1024 < l.length) (k : wrong l = 0) (d : l.any deep = false) (t : (l.map Nod.names).Nodup) (r : isDir l [] = true) (p : l.all (inDir l) = true) (m : l.all may = true) (o : ¬ l.Pairwise Tre.one) : check l = 8 := by
  rw [check, if_neg h, if_neg (by rw [k]; simp), if_neg (by rw [d]; simp), if_neg (by simpa using t), if_neg (by rw [r]; simp), if_neg (by rw [p]; simp), if_neg (by rw [m]; simp), if_pos o]
theorem check_ok {l : List Nod} (h : ¬ 1024 < l.length) (k : wrong l = 0) (d : l.any deep = false) (t : (l.map Nod.names).Nodup) (r : isDir l [] = true) (p : l.all (inDir l) = true) (m : l.all may = true) (o : l.Pairwise Tre.one) : check l = 0 := by
  rw [check, if_neg h, if_neg (by rw [k]; simp), if_neg (by rw [d]; simp), if_neg (by simpa using t), if_neg (by rw [r]; simp), if_neg (by rw [p]; simp), if_neg (by rw [m]; simp), if_neg (by simpa using o)]
theorem check_zero {l : List Nod} (h : check l = 0) : l.length ≤ 1024 ∧ wrong l = 0 ∧ l.any deep = false ∧ (l.map Nod.names).Nodup ∧ isDir l [] = true ∧ l.all (inDir l) = true ∧ l.all may = true ∧ l.Pairwise Tre.one := by
  by_cases h1 : 1024 < l.length
  · rw [check_big h1] at h; cases h
  by_cases h2 : wrong l = 0
  · cases h3 : l.any deep with
    | true => rw [check_deep h1 h2 h3] at h; cases h
    | false =>
      by_cases h4 : (l.map Nod.names).Nodup
      · cases h5 : isDir l [] with
        | false => rw [check_root h1 h2 h3 h4 h5] at h; cases h
        | true =>
          cases h6 : l.all (inDir l) with
          | false => rw [check_parent h1 h2 h3 h4 h5 h6] at h; cases h
          | true =>
            cases h7 : l.all may with
            | false => rw [check_kind h1 h2 h3 h4 h5 h6 h7] at h; cases h
            | true =>
              by_cases h8 : l.Pairwise Tre.one
              · exact ⟨by omega, h2, rfl, h4, rfl, rfl, rfl, h8⟩
              · rw [check_links h1 h2 h3 h4 h5 h6 h7 h8] at h; cases h
      · rw [check_twice h1 h2 h3 h4] at h; cases h
  · rw [check_name h1 h2] at h; exact absurd h h2
end Tre
end Go.Proofs.YtchcejjoncihkaaGreatDoor

/- Layer 6: Valid, by the program and by the reference. -/
namespace Go.Proofs.YtchcejjoncihkaaGreatDoor
set_option linter.unusedVariables false
open Go.RowKit Go.Maps
open Nam

namespace Nam
end Nam
theorem drop_end {s : ByteArray} {pos : Nat} (h : ¬ pos < s.size) : s.toList.drop pos = [] := List.drop_eq_nil_of_le (by rw [toList_length]; omega)
/-- A letter that is a nought or a slash. -/
theorem letter_bad {s : ByteArray} {pos : Nat} (h : pos < s.size) (hb : (((Utf8.decode s pos).1 : Int) == 0 || ((Utf8.decode s pos).1 : Int) == 47) = true) : (s.toList.drop pos).any bad = true := by
  obtain ⟨c, hc, hl, h1, h2, h3⟩ := letter s pos h
  rw [hc, List.any_append]
  rcases h3 with ⟨b, rfl, e⟩ | ⟨e, _⟩
  · rw [e] at hb
    have : bad b = true := by
      simp only [Bool.or_eq_true, beq_iff_eq] at hb
      simp only [bad, Bool.or_eq_true, beq_iff_eq]
      rcases hb with hb | hb
      · exact .inl (UInt8.toNat_inj.1 (by simpa using hb))
      · exact .inr (UInt8.toNat_inj.1 (by simpa using (by omega : b.toNat = 47)))
    simp [this]
  · simp only [Bool.or_eq_true, beq_iff_eq] at hb
    omega
theorem letter_good {s : ByteArray} {pos : Nat} (h : pos < s.size) (hb : (((Utf8.decode s pos).1 : Int) == 0 || ((Utf8.decode s pos).1 : Int) == 47) = false) : (s.toList.drop pos).any bad = (s.toList.drop (pos + (Utf8.decode s pos).2)).any bad := by
  obtain ⟨c, hc, hl, h1, h2, h3⟩ := letter s pos h
  rw [hc, List.any_append]
  have : c.any bad = false := by
    rw [List.any_eq_false]
    intro b hbc
    simp only [bad, Bool.or_eq_true, beq_iff_eq, not_or]
    rcases h3 with ⟨b', rfl, e⟩ | ⟨e, hh⟩
    · rw [e] at hb
      simp only [List.mem_singleton] at hbc
      subst hbc
      simp only [Bool.or_eq_false_iff, beq_eq_false_iff_ne] at hb
      exact ⟨fun k => hb.1 (by rw [k]; rfl), fun k => hb.2 (by rw [k]; rfl)⟩
    · have := hh b hbc
      exact ⟨fun k => by rw [k] at this; simp at this, fun k => by rw [k] at this; simp at this⟩
  rw [this, Bool.false_or]
theorem width_pos (s : ByteArray) (pos : Nat) (h : pos < s.size) : 1 ≤ (Utf8.decode s pos).2 := (decode_pass s pos h).2.1
set_option maxRecDepth 100000 in
theorem Valid_good (s : ByteArray) (w : World) (hl : ¬ (255 : Int) < s.size) (h0 : s.toList ≠ []) (h1 : s.toList ≠ [46]) (h2 : s.toList ≠ [46, 46]) :
    Calls Tryz.prog 145 #[.string s] w fun e w' => e = .returned (.int .i64 (valid s.toList)) ∧ Below w.heap.size w w' := by
  have hv : Hid (valid s.toList = if (s.toList.drop 0).any bad = true then 22 else 0) := by
    show _ = _
    cases hb : (s.toList.drop 0).any bad with
    | true => exact valid_bad (by rw [toList_length]; omega) hb
    | false => exact valid_ok (by rw [toList_length]; omega) h0 h1 h2 hb
  have k0 : s.toList.isEmpty = false := by simpa using h0
  have k1 : (s.toList == [46]) = false := by simpa using h1
  have k2 : (s.toList == [46, 46]) = false := by simpa using h2
  have kl : decide ((255 : Int) < s.size) = false := by simpa using hl
  clear h1 h2
  go_enter Tryz.func145, Tryz.ntmps145
  go_wp2
  go_loopw [2, 4] (fun r _ wr => ∃ pos, wr = w.iter s pos ∧ r = .int .i64 0 ∧ pos ≤ s.size ∧ valid s.toList = if (s.toList.drop pos).any bad = true then 22 else 0) (fun _ _ wr => s.size - wr.iterPos w.heap.size)
  case atStart => exact ⟨0, rfl, rfl, Nat.zero_le _, hv.out⟩
  case round =>
    obtain ⟨pos, rfl, rfl, hp0, hinv⟩ := hrel
    have HI := hide hinv
    clear hinv
    by_cases hp : pos < s.size
    · have hnx : ∀ ty, (Instr.next (.pointer (some ⟨w.heap.size, 0, none⟩)) true ty).run Tryz.prog (w.iter s pos) = _ := fun ty => run_next_any w s pos ty hp
      have hwd := width_pos s pos hp
      have hle := (decode_pass s pos hp).1
      obtain ⟨dc, hdc⟩ : ∃ dc, Utf8.decode s pos = dc := ⟨_, rfl⟩
      have HB : Hid (((dc.1 : Int) == 0 || (dc.1 : Int) == 47) = true → (s.toList.drop pos).any bad = true) := by rw [← hdc]; exact letter_bad hp
      have HG : Hid (((dc.1 : Int) == 0 || (dc.1 : Int) == 47) = false → (s.toList.drop pos).any bad = (s.toList.drop (pos + dc.2)).any bad) := by rw [← hdc]; exact letter_good hp
      simp only [hdc] at hnx hwd hle
      clear hdc
      go_wp2
      · have e : dc.1 = 0 := by assumption
        go_ret
        refine ⟨ret_int ?_, (Below.refl _ _).alloc (Nat.le_refl _) _⟩
        rw [HI.out, if_pos (HB.out (by rw [e]; rfl))]
      · have e : ((dc.1 : Int) == 0) = true ∨ ((dc.1 : Int) == 47) = true := by assumption
        go_ret
        refine ⟨ret_int ?_, (Below.refl _ _).alloc (Nat.le_refl _) _⟩
        rw [HI.out, if_pos (HB.out (by simpa using e))]
      · have e : ((dc.1 : Int) == 0) = false ∧ ((dc.1 : Int) == 47) = false := by assumption
        go_roundw
        case rel =>
          refine ⟨pos + dc.2, rfl, rfl, hle, ?_⟩
          rw [HI.out, HG.out (by rw [e.1, e.2]; rfl)]
        case measure =>
          simp
          omega
    · have hnx : ∀ ty, (Instr.next (.pointer (some ⟨w.heap.size, 0, none⟩)) true ty).run Tryz.prog (w.iter s pos) = _ := fun ty => run_next_end w s pos ty hp
      go_wp2
      go_ret
      refine ⟨ret_int ?_, (Below.refl _ _).alloc (Nat.le_refl _) _⟩
      rw [HI.out, drop_end hp]; rfl
set_option maxRecDepth 100000 in
theorem Valid_any (s : ByteArray) (w : World) : Calls Tryz.prog 145 #[.string s] w fun e w' => e = .returned (.int .i64 (valid s.toList)) ∧ Below w.heap.size w w' := by
  have HS := hide (toList_length s)
  by_cases hl : (255 : Int) < s.size
  · have kl : decide ((255 : Int) < s.size) = true := by simpa using hl
    go_enter Tryz.func145, Tryz.ntmps145
    go_wp2
    go_ret
    exact ⟨ret_int (valid_long (by rw [HS.out]; omega)).symm, Below.refl _ _⟩
  · have kl : decide ((255 : Int) < s.size) = false := by simpa using hl
    by_cases h0 : s.toList = [] ∨ s.toList = [46] ∨ s.toList = [46, 46]
    · have H := hide (valid_name (l := s.toList) (by rw [HS.out]; omega) h0)
      have e : s = ⟨#[]⟩ ∨ s = ⟨#[46]⟩ ∨ s = ⟨#[46, 46]⟩ := by
        rcases h0 with h | h | h
        · exact .inl (toList_inj (by rw [h]; exact (toList_mk []).symm))
        · exact .inr (.inl (toList_inj (by rw [h]; exact (toList_mk [46]).symm)))
        · exact .inr (.inr (toList_inj (by rw [h]; exact (toList_mk [46, 46]).symm)))
      clear h0 H
      rcases e with rfl | rfl | rfl
      all_goals
        go_enter Tryz.func145, Tryz.ntmps145
        go_wp2
        go_ret
        exact ⟨ret_int (by decide), Below.refl _ _⟩
    · simp only [not_or] at h0
      exact Valid_good s w hl h0.1 h0.2.1 h0.2.2
end Go.Proofs.YtchcejjoncihkaaGreatDoor

/- Layer 6: the walks of the smallest functions: isHere, HasPrefix, few, a name held against another one. -/
namespace Go.Proofs.YtchcejjoncihkaaGreatDoor
set_option linter.unusedVariables false
open Go.RowKit Go.Maps
open Nam

theorem isNaN_any (s : ByteArray) (w : World) : Calls Tryz.prog 227 #[.string s] w fun e w' => e = .returned (.bool false) ∧ w' = w := by
  go_enter Tryz.func227, Tryz.ntmps227
  go_wp2
  go_ret
  exact ⟨rfl, rfl⟩
theorem cmp_any (s t : ByteArray) (w : World) : Calls Tryz.prog 207 #[.string s, .string t] w fun e w' => e = .returned (.int .i64 (cmp1 s.toList t.toList)) ∧ w' = w := by
  go_enter Tryz.func207, Tryz.ntmps207
  go_wp2_with (go_at_call 227; refine (isNaN_any _ _).mono ?_; rintro e w' ⟨rfl, rfl⟩)
  · have h : Op.bytesLess s.toList t.toList = true := by assumption
    go_ret
    exact ⟨ret_int (by rw [cmp1, if_pos h]), rfl⟩
  · have h : Op.bytesLess s.toList t.toList = false := by assumption
    have k : (!s.toList == t.toList) = true := by assumption
    go_ret
    refine ⟨ret_int ?_, rfl⟩
    rw [cmp1, if_neg (by rw [h]; simp), if_neg]
    simpa using k
  · have h : Op.bytesLess s.toList t.toList = false := by assumption
    have k : (!s.toList == t.toList) = false := by assumption
    go_ret
    refine ⟨ret_int ?_, rfl⟩
    rw [cmp1, if_neg (by rw [h]; simp), if_pos]
    simpa using k
end Go.Proofs.YtchcejjoncihkaaGreatDoor

/- Layer 7: nodes in memory. Nothing here speaks of one function of the program. -/
namespace Go.Proofs.YtchcejjoncihkaaGreatDoor
set_option linter.unusedVariables false
open Go.RowKit Go.Maps Go.ChangeShapes Go.WideShapes Go.ChangeAt
open Nam Tre
open Lz (g)

/-- A node's cells: its lists by their places. -/
structure Nv where
  na : Option Addr
  nn : Nat
  nc : Nat
  ino : Int
  kind : Int
  mode : Int
  uid : Int
  gid : Int
  da : Option Addr
  dn : Nat
  dc : Nat
  tg : ByteArray
  xa : Option Addr
  xn : Nat
  xc : Nat
  op : Bool
def nv0 : Nv := ⟨none, 0, 0, 0, 0, 0, 0, 0, none, 0, 0, ⟨#[]⟩, none, 0, 0, false⟩
def nod0 : Nod := ⟨[], 0, 0, 0, 0, 0, [], ⟨#[]⟩, [], false⟩
def Nv.cells (v : Nv) : Array Value := #[.slice v.na v.nn v.nc, .int .i64 v.ino, .int .i64 v.kind, .int .i64 v.mode, .int .i64 v.uid, .int .i64 v.gid, .slice v.da v.dn v.dc, .string v.tg, .slice v.xa v.xn v.xc, .bool v.op]
/-- An attribute's cells, at a place. -/
def XatAt (w : World) (b o : Nat) (x : ByteArray × List Int) : Prop :=
  w.cell? ⟨b, o, none⟩ = some (.string x.1) ∧ ∃ va vn vc, w.cell? ⟨b, o + 1, none⟩ = some (.slice va vn vc) ∧ Bs w va vn x.2 ∧ vn ≤ vc ∧ vc ≤ 9223372036854775807 ∧ (va = none → vc = 0) ∧ x.1.size ≤ 9223372036854775807
/-- The slice at ao, n long, holds the attributes xs. -/
def gx (xs : List (ByteArray × List Int)) (i : Nat) : ByteArray × List Int := xs.getD i (⟨#[]⟩, [])
theorem gx_lt (xs : List (ByteArray × List Int)) (i : Nat) (h : i < xs.length) : gx xs i = xs[i] := by simp [gx, h]
def XsR (w : World) (ao : Option Addr) (n : Nat) (xs : List (ByteArray × List Int)) : Prop :=
  xs.length = n ∧ (n = 0 ∨ ∃ b off, ao = some ⟨b, off, none⟩ ∧ b < w.heap.size ∧ ∀ i, i < n → XatAt w b (off + i * 2) (gx xs i))
/-- A node's cells stand for a node. -/
structure Rep (w : World) (v : Nv) (n : Nod) : Prop where
  names : Rs w v.na v.nn n.names
  nc : v.nn ≤ v.nc
  ncm : v.nc ≤ 9223372036854775807
  nnil : v.na = none → v.nc = 0
  ino : n.ino = v.ino
  in64 : (Lit.int .i64 v.ino).wf = true
  kind : n.kind = v.kind
  mode : n.mode = v.mode
  uid : n.uid = v.uid
  gid : n.gid = v.gid
  data : Bs w v.da v.dn n.data
  dc : v.dn ≤ v.dc
  dcm : v.dc ≤ 9223372036854775807
  dnil : v.da = none → v.dc = 0
  tg : n.target = v.tg
  tgm : v.tg.size ≤ 9223372036854775807
  xs : XsR w v.xa v.xn n.xs
  xc : v.xn ≤ v.xc
  xcm : v.xc ≤ 9223372036854775807
  xnil : v.xa = none → v.xc = 0
  op : n.opq = v.op
theorem XatAt.below {w w' : World} {b o : Nat} {x : ByteArray × List Int} (h : XatAt w b o x) (hb : Below w.heap.size w w') (hlt : b < w.heap.size) : XatAt w' b o x := by
  obtain ⟨h1, va, vn, vc, h2, h3, h4⟩ := h
  exact ⟨(hb.cell (by exact hlt)).trans h1, va, vn, vc, (hb.cell (by exact hlt)).trans h2, h3.below hb, h4⟩
theorem XsR.below {w w' : World} {ao : Option Addr} {n : Nat} {xs : List (ByteArray × List Int)} (h : XsR w ao n xs) (hb : Below w.heap.size w w') : XsR w' ao n xs := by
  refine ⟨h.1, ?_⟩
  rcases h.2 with h0 | ⟨b, off, h1, h2, h3⟩
  · exact .inl h0
  · exact .inr ⟨b, off, h1, Nat.lt_of_lt_of_le h2 hb.size, fun i hi => (h3 i hi).below hb h2⟩
theorem XsR.at {w : World} {ao : Option Addr} {n : Nat} {xs : List (ByteArray × List Int)} (h : XsR w ao n xs) (hn : 0 < n) : ∃ b off, ao = some ⟨b, off, none⟩ ∧ b < w.heap.size ∧ ∀ i, i < n → XatAt w b (off + i * 2) (gx xs i) := by
  rcases h.2 with h0 | h1
  · omega
  · exact h1
theorem XsR.nil (w : World) (ao : Option Addr) : XsR w ao 0 [] := ⟨rfl, .inl rfl⟩
theorem XsR.take {w : World} {ao : Option Addr} {n : Nat} {xs : List (ByteArray × List Int)} (h : XsR w ao n xs) (k : Nat) (hk : k ≤ n) : XsR w ao k (xs.take k) := by
  obtain ⟨hz, h0⟩ := h
  refine ⟨by simp; omega, ?_⟩
  by_cases e : k = 0
  · exact .inl e
  · rcases h0 with h0 | ⟨b, off, h1, h2, h3⟩
    · omega
    · refine .inr ⟨b, off, h1, h2, fun i hi => ?_⟩
      have : gx (xs.take k) i = gx xs i := by simp [gx, hi]
      rw [this]; exact h3 i (by omega)
theorem Rep.below {w w' : World} {v : Nv} {n : Nod} (h : Rep w v n) (hb : Below w.heap.size w w') : Rep w' v n :=
  { h with names := h.names.below hb, data := h.data.below hb, xs := h.xs.below hb }
/-- The ten cells of a node, at a place. -/
structure NodAt (w : World) (b o : Nat) (v : Nv) : Prop where
  c0 : w.cell? ⟨b, o, none⟩ = some (.slice v.na v.nn v.nc)
  c1 : w.cell? ⟨b, o + 1, none⟩ = some (.int .i64 v.ino)
  c2 : w.cell? ⟨b, o + 2, none⟩ = some (.int .i64 v.kind)
  c3 : w.cell? ⟨b, o + 3, none⟩ = some (.int .i64 v.mode)
  c4 : w.cell? ⟨b, o + 4, none⟩ = some (.int .i64 v.uid)
  c5 : w.cell? ⟨b, o + 5, none⟩ = some (.int .i64 v.gid)
  c6 : w.cell? ⟨b, o + 6, none⟩ = some (.slice v.da v.dn v.dc)
  c7 : w.cell? ⟨b, o + 7, none⟩ = some (.string v.tg)
  c8 : w.cell? ⟨b, o + 8, none⟩ = some (.slice v.xa v.xn v.xc)
  c9 : w.cell? ⟨b, o + 9, none⟩ = some (.bool v.op)
theorem NodAt.same {w w' : World} {b o : Nat} {v : Nv} (h : NodAt w b o v) (hc : ∀ k, w'.cell? ⟨b, k, none⟩ = w.cell? ⟨b, k, none⟩) : NodAt w' b o v :=
  ⟨(hc _).trans h.c0, (hc _).trans h.c1, (hc _).trans h.c2, (hc _).trans h.c3, (hc _).trans h.c4, (hc _).trans h.c5, (hc _).trans h.c6, (hc _).trans h.c7, (hc _).trans h.c8, (hc _).trans h.c9⟩
theorem NodAt.below {w w' : World} {B b o : Nat} {v : Nv} (h : NodAt w b o v) (hb : Below B w w') (hlt : b < B) : NodAt w' b o v :=
  h.same (fun k => hb.cell (by exact hlt))
/-- A node in a block of its own. -/
structure Boxed (w : World) (b : Nat) (v : Nv) : Prop where
  lt : b < w.heap.size
  c0 : w.cell? ⟨b, 0, none⟩ = some (.slice v.na v.nn v.nc)
  c1 : w.cell? ⟨b, 1, none⟩ = some (.int .i64 v.ino)
  c2 : w.cell? ⟨b, 2, none⟩ = some (.int .i64 v.kind)
  c3 : w.cell? ⟨b, 3, none⟩ = some (.int .i64 v.mode)
  c4 : w.cell? ⟨b, 4, none⟩ = some (.int .i64 v.uid)
  c5 : w.cell? ⟨b, 5, none⟩ = some (.int .i64 v.gid)
  c6 : w.cell? ⟨b, 6, none⟩ = some (.slice v.da v.dn v.dc)
  c7 : w.cell? ⟨b, 7, none⟩ = some (.string v.tg)
  c8 : w.cell? ⟨b, 8, none⟩ = some (.slice v.xa v.xn v.xc)
  c9 : w.cell? ⟨b, 9, none⟩ = some (.bool v.op)
theorem boxed (w : World) (v : Nv) : Boxed (w.alloc (.cells v.cells 37)) w.heap.size v := by
  constructor <;> simp [Nv.cells]
theorem Boxed.same {w w' : World} {b : Nat} {v : Nv} (h : Boxed w b v) (hs : w.heap.size ≤ w'.heap.size) (hc : ∀ k, w'.cell? ⟨b, k, none⟩ = w.cell? ⟨b, k, none⟩) : Boxed w' b v :=
  ⟨Nat.lt_of_lt_of_le h.lt hs, (hc _).trans h.c0, (hc _).trans h.c1, (hc _).trans h.c2, (hc _).trans h.c3, (hc _).trans h.c4, (hc _).trans h.c5, (hc _).trans h.c6, (hc _).trans h.c7, (hc _).trans h.c8, (hc _).trans h.c9⟩
theorem Boxed.below {w w' : World} {b : Nat} {v : Nv} (h : Boxed w b v) (hb : Below w.heap.size w w') : Boxed w' b v := h.same hb.size (fun k => hb.cell (by exact h.lt))
/-- The pair at a place. -/
def gl (L : List (Nv × Nod)) (i : Nat) : Nv × Nod := L.getD i (nv0, nod0)
theorem gl_lt (L : List (Nv × Nod)) (i : Nat) (h : i < L.length) : gl L i = L[i] := by simp [gl, h]
theorem gl_mem (L : List (Nv × Nod)) (i : Nat) (h : i < L.length) : gl L i ∈ L := by rw [gl_lt L i h]; exact List.getElem_mem h
def nds (L : List (Nv × Nod)) : List Nod := L.map (·.2)
theorem nds_length (L : List (Nv × Nod)) : (nds L).length = L.length := by simp [nds]
theorem nds_drop (L : List (Nv × Nod)) (i : Nat) (h : i < L.length) : (nds L).drop i = (gl L i).2 :: (nds L).drop (i + 1) := by
  rw [List.drop_eq_getElem_cons (by rw [nds_length]; exact h), gl_lt L i h]
  simp [nds]
theorem nds_take (L : List (Nv × Nod)) (i : Nat) (h : i < L.length) : (nds L).take (i + 1) = (nds L).take i ++ [(gl L i).2] := by
  rw [List.take_succ_eq_append_getElem (by rw [nds_length]; exact h), gl_lt L i h]
  simp [nds]
/-- The slice at ao, n long, holds the nodes L. -/
def Ns (w : World) (ao : Option Addr) (n : Nat) (L : List (Nv × Nod)) : Prop :=
  L.length = n ∧ (∀ p ∈ L, Rep w p.1 p.2) ∧ (n = 0 ∨ ∃ b off, ao = some ⟨b, off, none⟩ ∧ b < w.heap.size ∧ ∀ i, i < n → NodAt w b (off + i * 10) (gl L i).1)
theorem Ns.below {w w' : World} {ao : Option Addr} {n : Nat} {L : List (Nv × Nod)} (h : Ns w ao n L) (hb : Below w.heap.size w w') : Ns w' ao n L := by
  refine ⟨h.1, fun p hp => (h.2.1 p hp).below hb, ?_⟩
  rcases h.2.2 with h0 | ⟨b, off, h1, h2, h3⟩
  · exact .inl h0
  · exact .inr ⟨b, off, h1, Nat.lt_of_lt_of_le h2 hb.size, fun i hi => (h3 i hi).below hb h2⟩
theorem Ns.at {w : World} {ao : Option Addr} {n : Nat} {L : List (Nv × Nod)} (h : Ns w ao n L) (hn : 0 < n) : ∃ b off, ao = some ⟨b, off, none⟩ ∧ b < w.heap.size ∧ ∀ i, i < n → NodAt w b (off + i * 10) (gl L i).1 := by
  rcases h.2.2 with h0 | h1
  · omega
  · exact h1
theorem Ns.rep {w : World} {ao : Option Addr} {n : Nat} {L : List (Nv × Nod)} (h : Ns w ao n L) (i : Nat) (hi : i < n) : Rep w (gl L i).1 (gl L i).2 :=
  h.2.1 _ (gl_mem L i (by rw [h.1]; exact hi))
theorem Ns.nil (w : World) (ao : Option Addr) : Ns w ao 0 [] := ⟨rfl, fun p hp => by simp at hp, .inl rfl⟩
theorem drewN_below {B : Nat} (w : World) (k : Nat) : Below B w (w.drewN k) := ⟨rfl, rfl, rfl, Nat.le_refl _, fun _ _ => rfl⟩
end Go.Proofs.YtchcejjoncihkaaGreatDoor

/- Layer 7: rows of nodes of the call's own, and what is appended to them. Nothing here speaks of one function of the program. -/
namespace Go.Proofs.YtchcejjoncihkaaGreatDoor
set_option linter.unusedVariables false
open Go.RowKit Go.Maps
open Nam Tre

/-- Nodes' cells, one behind the other. -/
def nvs (V : List Nv) : List Value := V.flatMap (fun v => v.cells.toList)
theorem nvs_append (V U : List Nv) : nvs (V ++ U) = nvs V ++ nvs U := by simp [nvs]
theorem cells_length (v : Nv) : v.cells.toList.length = 10 := rfl
theorem nvs_length (V : List Nv) : (nvs V).length = V.length * 10 := by
  induction V with
  | nil => rfl
  | cons v r ih =>
    have : nvs (v :: r) = v.cells.toList ++ nvs r := by simp [nvs]
    rw [this, List.length_append, cells_length, ih, List.length_cons]; omega
theorem nvs_get (V : List Nv) (i c : Nat) (h : i < V.length) (hc : c < 10) : (nvs V)[i * 10 + c]? = (V[i].cells.toList)[c]? := by
  induction V generalizing i with
  | nil => simp at h
  | cons v r ih =>
    have e : nvs (v :: r) = v.cells.toList ++ nvs r := by simp [nvs]
    rw [e]
    cases i with
    | zero => rw [Nat.zero_mul, Nat.zero_add, List.getElem?_append_left (by rw [cells_length]; exact hc)]; rfl
    | succ i =>
      rw [List.getElem?_append_right (by rw [cells_length]; omega), cells_length, show (i + 1) * 10 + c - 10 = i * 10 + c by omega, ih i (by simpa using h)]
      rfl
def gv (V : List Nv) (i : Nat) : Nv := V.getD i nv0
theorem gv_lt (V : List Nv) (i : Nat) (h : i < V.length) : gv V i = V[i] := by simp [gv, h]
/-- The slice at ao, n long, holds nodes' cells. -/
def Sh (w : World) (ao : Option Addr) (n : Nat) (V : List Nv) : Prop :=
  V.length = n ∧ (n = 0 ∨ ∃ b off, ao = some ⟨b, off, none⟩ ∧ b < w.heap.size ∧ ∀ i, i < n → NodAt w b (off + i * 10) (gv V i))
theorem gv_map (L : List (Nv × Nod)) (i : Nat) (h : i < L.length) : gv (L.map (·.1)) i = (gl L i).1 := by
  rw [gv_lt _ _ (by simpa using h), gl_lt L i h]; simp
theorem Sh.ns {w : World} {ao : Option Addr} {n : Nat} {L : List (Nv × Nod)} (h : Sh w ao n (L.map (·.1))) (hr : ∀ p ∈ L, Rep w p.1 p.2) : Ns w ao n L := by
  have hl : L.length = n := by have := h.1; rw [List.length_map] at this; exact this
  refine ⟨hl, hr, ?_⟩
  rcases h.2 with h0 | ⟨b, off, h1, h2, h3⟩
  · exact .inl h0
  · exact .inr ⟨b, off, h1, h2, fun i hi => by rw [← gv_map L i (by rw [hl]; exact hi)]; exact h3 i hi⟩
theorem Sh.below {w w' : World} {ao : Option Addr} {n : Nat} {V : List Nv} (h : Sh w ao n V) (hb : Below w.heap.size w w') : Sh w' ao n V := by
  refine ⟨h.1, ?_⟩
  rcases h.2 with h0 | ⟨b, off, h1, h2, h3⟩
  · exact .inl h0
  · exact .inr ⟨b, off, h1, Nat.lt_of_lt_of_le h2 hb.size, fun i hi => (h3 i hi).below hb h2⟩
theorem Sh.at {w : World} {ao : Option Addr} {n : Nat} {V : List Nv} (h : Sh w ao n V) (hn : 0 < n) : ∃ b off, ao = some ⟨b, off, none⟩ ∧ b < w.heap.size ∧ ∀ i, i < n → NodAt w b (off + i * 10) (gv V i) := by
  rcases h.2 with h0 | h1
  · omega
  · exact h1
theorem NodAt.of {w : World} {b o : Nat} {v : Nv} (h : ∀ c, c < 10 → w.cell? ⟨b, o + c, none⟩ = (v.cells.toList)[c]?) : NodAt w b o v :=
  ⟨h 0 (by omega), h 1 (by omega), h 2 (by omega), h 3 (by omega), h 4 (by omega), h 5 (by omega), h 6 (by omega), h 7 (by omega), h 8 (by omega), h 9 (by omega)⟩
theorem NodAt.cell {w : World} {b o : Nat} {v : Nv} (h : NodAt w b o v) (c : Nat) (hc : c < 10) : w.cell? ⟨b, o + c, none⟩ = (v.cells.toList)[c]? := by
  match c, hc with
  | 0, _ => exact h.c0
  | 1, _ => exact h.c1
  | 2, _ => exact h.c2
  | 3, _ => exact h.c3
  | 4, _ => exact h.c4
  | 5, _ => exact h.c5
  | 6, _ => exact h.c6
  | 7, _ => exact h.c7
  | 8, _ => exact h.c8
  | 9, _ => exact h.c9
theorem sh_of_owns {w : World} {B n c : Nat} {ao : Option Addr} {V : List Nv} (h : w.ownsRow B 37 10 (.slice ao n c) n (nvs V)) : Sh w ao n V := by
  have hlen : V.length = n := by have := h.1; rw [nvs_length] at this; omega
  refine ⟨hlen, ?_⟩
  by_cases e : n = 0
  · exact .inl e
  · obtain ⟨gb, c', hv, _, hlt⟩ := h.form (by omega)
    obtain ⟨rfl, _, rfl⟩ : ao = some ⟨gb, 0, none⟩ ∧ n = n ∧ c = c' := by simpa using hv
    refine .inr ⟨gb, 0, rfl, hlt, fun i hi => NodAt.of fun k hk => ?_⟩
    rw [Nat.zero_add, h.cellAt _ (by omega), nvs_get V i k (by omega) hk, gv_lt V i (by omega)]
theorem cap_owns {w : World} {B n c size e : Nat} {ao : Option Addr} {xs : List Value} (h : w.ownsRow B e size (.slice ao n c) n xs) : n ≤ c ∧ c ≤ 9223372036854775807 ∧ (ao = none → c = 0) := by
  rcases h.2 with ⟨e, _⟩ | ⟨_, _, _, e, _, _, h1, h2, _⟩
  · simp at e; obtain ⟨rfl, rfl, rfl⟩ := e; exact ⟨by omega, by omega, fun _ => rfl⟩
  · simp at e; obtain ⟨rfl, rfl⟩ := e; unfold maxLen at h2; exact ⟨by omega, by omega, fun k => by simp at k⟩
theorem infoNode : (Tryz.prog.info? 37).map (fun i => (i.zero, i.size, i.bytes)) = some (some (.agg (Nv.cells nv0)), 10, 136) := by kernel_rfl
theorem emptyN {w : World} {B : Nat} (hB : B ≤ w.heap.size) : (w.alloc (.cells #[] 37)).ownsRow B 37 10 (.slice (some ⟨w.heap.size, 0, none⟩) 0 0) 0 (nvs []) :=
  ⟨rfl, .inr ⟨w.heap.size, 0, #[], rfl, hB, heap_alloc_new w _, Nat.le_refl _, by unfold maxLen; omega, rfl, rfl⟩⟩
theorem nvs_one (V : List Nv) : ∀ u ∈ nvs V, u.oneCell' = true := by
  intro u hu
  simp only [nvs, List.mem_flatMap] at hu
  obtain ⟨v, _, hv⟩ := hu
  simp only [Nv.cells, List.mem_cons, List.not_mem_nil, or_false] at hv
  rcases hv with h | h | h | h | h | h | h | h | h | h <;> (rw [h]; rfl)
/-- 'append' of nodes to a row of the call's own. -/
theorem wpList_append_nod (w : World) {ops : Array Oper} {rest : List Oper} {o : Oper} {a : Act} {Q : Exit → Act → World → Prop} (hgd : o.guard = none) (s x : Operand)
    (ho : o.op = .call { callee := .builtin .append, args := #[s, x], argTypes := #[22, 22] })
    (base : Nat) (vo : Option Addr) (n vc : Nat) (V : List Nv) (hs : a.eval s = .slice vo n vc) (hown : w.ownsRow base 37 10 (.slice vo n vc) n (nvs V))
    (ao : Option Addr) (m c : Nat) (U : List Nv) (hx : a.eval x = .slice ao m c) (hb : Sh w ao m U) (hnil : ao = none → c = 0)
    (hbd : n + m ≤ 1000000) (hbase : base ≤ w.heap.size)
    (h : ∀ ao' c' w', w'.ownsRow base 37 10 (.slice ao' (n + m) c') (n + m) (nvs (V ++ U)) → w.grownBy w' (Value.slice vo n vc).ownBlock → wpList Tryz.prog ops Q rest (a.put o.dst (.slice ao' (n + m) c')) w') :
    wpList Tryz.prog ops Q (o :: rest) a w := by
  obtain ⟨i0, hi, hz0, hz1, hz2⟩ := info_parts infoNode
  obtain ⟨hz, h0⟩ := hb
  cases ao with
  | none =>
    obtain rfl : c = 0 := hnil rfl
    obtain rfl : m = 0 := by
      rcases h0 with h0 | ⟨b, off, h1, _⟩
      · exact h0
      · simp at h1
    obtain rfl : U = [] := List.eq_nil_of_length_eq_zero hz
    refine wpList_append_own_none hgd s x _ ho base 37 i0 10 Tryz.underlying22 hi _ n (nvs V) hs hown hx ?_
    have := h vo vc w (by simpa using hown) (World.grownBy.refl _ _)
    simpa using this
  | some ad =>
    refine wpList_append_own w hgd s x _ ho base 37 i0 (.agg (Nv.cells nv0)) 10 136 Tryz.underlying22 hi hz0 hz1 hz2 rfl (by decide) _ n (nvs V) hs hown ad m c (nvs U) hx (by rw [nvs_length]; omega) ?_ (nvs_one _) (by unfold maxLen; omega) (by omega) hbase ?_
    · rcases h0 with h0 | ⟨b, off, h1, _, hseg⟩
      · have : U = [] := List.eq_nil_of_length_eq_zero (by omega)
        subst this
        intro j u hu; simp [nvs] at hu
      · obtain rfl := Option.some.inj h1
        intro j u hu
        have hj : j < (nvs U).length := (List.getElem?_eq_some_iff.1 hu).1
        rw [nvs_length, hz] at hj
        have e : j = j / 10 * 10 + j % 10 := by omega
        have hq : j / 10 < m := by omega
        have hr : j % 10 < 10 := by omega
        rw [e, nvs_get U _ _ (by omega) hr] at hu
        rw [Addr.add_lit]
        have := (hseg (j / 10) hq).cell (j % 10) hr
        rw [gv_lt U _ (by omega)] at this
        rw [show off + j = off + j / 10 * 10 + j % 10 by omega, this]
        exact hu
    · intro v' w' h2 h3 _
      obtain ⟨ao', c', rfl⟩ := owns_shape h2
      exact h ao' c' w' (by rw [nvs_append]; exact h2) h3
theorem sh_one (w : World) (v : Nv) : Sh (w.alloc (.cells v.cells 37)) (some ⟨w.heap.size, 0, none⟩) 1 [v] := by
  refine ⟨rfl, .inr ⟨w.heap.size, 0, rfl, by simp, fun i hi => ?_⟩⟩
  obtain rfl : i = 0 := by omega
  obtain ⟨_, b0, b1, b2, b3, b4, b5, b6, b7, b8, b9⟩ := boxed w v
  exact ⟨b0, b1, b2, b3, b4, b5, b6, b7, b8, b9⟩
theorem sh_one' {w : World} {v : Nv} {p : Nat} (hp : p = w.heap.size) : Sh (w.alloc (.cells v.cells 37)) (some ⟨p, 0, none⟩) 1 [v] := by
  subst hp; exact sh_one w v
end Go.Proofs.YtchcejjoncihkaaGreatDoor

/- Maps of the call's own whose values are numbers, as functions of the key. -/
namespace Go.Proofs.YtchcejjoncihkaaGreatDoor
set_option linter.unusedVariables false
open Go.RowKit Go.Maps

/-- How an entry reads: as itself. -/
def HV (v : Value) : Option (DataW Value × List MemPlace) := some (.held v, [])
/-- The map in block b has sz entries: those of f. -/
def MpK (k : TypeId) (w : World) (b sz : Nat) (f : Lit → Option Nat) : Prop :=
  ∃ D : DataW Value, w.ownsMap Tryz.prog k HV b sz D ∧ Maps.size D = sz ∧ ∀ kl, WideAt.IsKeyLit kl → has D kl = (f kl).isSome ∧ ∀ z, f kl = some z → D.atKey kl (.held (.int .i64 0)) = .held (.int .i64 (z : Int))
theorem MpK.same {k : TypeId} {w w' : World} {b sz : Nat} {f : Lit → Option Nat} (h : MpK k w b sz f) (hb : w'.heap[b]? = w.heap[b]?) : MpK k w' b sz f := by
  obtain ⟨D, ⟨es, clock, h1, h2⟩, h3⟩ := h
  exact ⟨D, ⟨es, clock, hb.trans h1, h2⟩, h3⟩
theorem MpK.lt {k : TypeId} {w : World} {b sz : Nat} {f : Lit → Option Nat} (h : MpK k w b sz f) : b < w.heap.size := by
  obtain ⟨D, h1, _⟩ := h
  exact h1.lt
theorem MpK.below {k : TypeId} {w w' : World} {b sz : Nat} {f : Lit → Option Nat} (h : MpK k w b sz f) (hb : Below w.heap.size w w') : MpK k w' b sz f :=
  h.same (hb.block b h.lt)
theorem mpk_new (k : TypeId) (w : World) : MpK k (w.alloc (.map #[] 0)) w.heap.size 0 (fun _ => none) :=
  ⟨.map [], World.ownsMap_made w _ _ _, rfl, fun kl _ => ⟨rfl, fun z hz => by cases hz⟩⟩
theorem MpK.len {k : TypeId} {w : World} {b sz : Nat} {f : Lit → Option Nat} (h : MpK k w b sz f) {t e : TypeId} (ht : Tryz.prog.underlying t = some (.map k e)) (ty : TypeId) : (Builtin.len_ #[t] ty #[.map (some b)]).run Tryz.prog w = .ok (.int .i64 (sz : Int)) w := by
  obtain ⟨D, h1, h2, _⟩ := h
  have := h1.len ht ty
  rw [h2] at this
  exact this
theorem zeroInt7 (w : World) : (zeroValue 3).run Tryz.prog w = .ok (.int .i64 0) w := by kernel_rfl
theorem MpK.look {k : TypeId} {w : World} {b sz : Nat} {f : Lit → Option Nat} (h : MpK k w b sz f) (K : Keyed Tryz.prog k) {t : TypeId} (ht : Tryz.prog.underlying t = some (.map k 3)) {key : Value} {kl : Lit} (hkey : keyOf Tryz.prog k key = some kl) (hk : WideAt.IsKeyLit kl) :
    (Instr.lookup t (.map (some b)) key true).run Tryz.prog w = .ok (.tuple #[.int .i64 (((f kl).getD 0 : Nat) : Int), .bool (f kl).isSome]) w := by
  obtain ⟨D, h1, _, h3⟩ := h
  obtain ⟨e1, e2⟩ := h3 kl hk
  obtain ⟨v, ps, hr, hv⟩ := h1.look_ok K ht (zeroInt7 w) (zd := .held (.int .i64 0)) (zp := []) rfl hkey
  rw [e1] at hr
  cases hf : f kl with
  | none =>
    rw [hf] at e1 hr
    rw [Maps.atKey_of_not_has e1] at hv
    simp [HV] at hv
    rw [hv.1] at hr
    exact hr
  | some z =>
    rw [hf] at hr
    rw [e2 z hf] at hv
    simp [HV] at hv
    rw [hv.1] at hr
    exact hr
/-- f with an entry more. -/
def upd (f : Lit → Option Nat) (kl : Lit) (z : Nat) : Lit → Option Nat := fun k => if k.sameKey kl = true then some z else f k
theorem upd_same (f : Lit → Option Nat) (kl : Lit) (z : Nat) (hk : WideAt.IsKeyLit kl) : upd f kl z kl = some z := by
  unfold upd; rw [if_pos (WideAt.sameKey_self hk)]
theorem upd_other (f : Lit → Option Nat) {kl k : Lit} (z : Nat) (h : k ≠ kl) : upd f kl z k = f k := by
  unfold upd; rw [if_neg (fun e => h (WideAt.sameKey_eq e))]
theorem tight {k : TypeId} {w : World} {b n : Nat} {D : DataW Value} (h : w.ownsMap Tryz.prog k HV b n D) : w.ownsMap Tryz.prog k HV b (Maps.size D) D := by
  obtain ⟨es, clock, h1, h2, h3, rfl⟩ := h
  refine ⟨es, clock, h1, h2, ?_, rfl⟩
  simp [Maps.size, length_sorted]
theorem MpK.store {k : TypeId} {w : World} {b sz : Nat} {f : Lit → Option Nat} (h : MpK k w b sz f) (K : Keyed Tryz.prog k) {t : TypeId} (ht : Tryz.prog.underlying t = some (.map k 3)) {key : Value} {kl : Lit} (hkey : keyOf Tryz.prog k key = some kl) (hk : WideAt.IsKeyLit kl) (hsz : sz ≤ 1000000) (z : Nat) :
    ∃ w', (Instr.mapUpdate t (.map (some b)) key (.int .i64 (z : Int))).run Tryz.prog w = .ok () w' ∧ MpK k w' b (if (f kl).isSome = true then sz else sz + 1) (upd f kl z) ∧ w.grownBy w' (some b) := by
  obtain ⟨D, h1, h2, h3⟩ := h
  obtain ⟨w', hr, hm, hg⟩ := h1.update K ht (by unfold maxLen; omega) hkey (show HV (.int .i64 (z : Int)) = some (.held _, []) from rfl)
  refine ⟨w', hr, ⟨D.put kl (.held (.int .i64 (z : Int))), ?_, ?_, fun k' hk' => ?_⟩, hg⟩
  · have := tight hm
    rw [Maps.size_put (h1.tidy K), (h3 kl hk).1, h2] at this
    exact this
  · rw [Maps.size_put (h1.tidy K), (h3 kl hk).1, h2]
  · by_cases e : k' = kl
    · subst e
      rw [upd_same _ _ _ hk]
      refine ⟨Maps.has_put_same h1.isMap hk _, fun y hy => ?_⟩
      cases hy
      exact Maps.atKey_put_same h1.isMap hk _ _
    · rw [upd_other _ _ e, Maps.has_put_other e]
      refine ⟨(h3 k' hk').1, fun y hy => ?_⟩
      rw [Maps.atKey_put_other e]
      exact (h3 k' hk').2 y hy
theorem keyStr (s : ByteArray) (hs : s.size ≤ maxLen) : keyOf Tryz.prog 9 (.string s) = some (.string s.data.toList) := by
  rw [keyOf_string Tryz.underlying9]
  simp [mapKey, Tryz.underlying9, hs]
theorem keyedStr : Keyed Tryz.prog 9 := string_keyed Tryz.underlying9
end Go.Proofs.YtchcejjoncihkaaGreatDoor

/- Layer 7: what becomes of such a function when keys are laid down one behind the other. -/
namespace Go.Proofs.YtchcejjoncihkaaGreatDoor
set_option linter.unusedVariables false
open Go.RowKit Go.Maps
open Nam Tre

namespace Tre
/-- The places of keys, the last one of each, of the first i. -/
def mlast (ks : List Lit) : Nat → Lit → Option Nat
  | 0 => fun _ => none
  | i + 1 => upd (mlast ks i) (ks.getD i (.bool false)) i
/-- How many keys these are. -/
def mcnt (ks : List Lit) : Nat → Nat
  | 0 => 0
  | i + 1 => if (mlast ks i (ks.getD i (.bool false))).isSome = true then mcnt ks i else mcnt ks i + 1
theorem mlast_some {ks : List Lit} (hk : ∀ k ∈ ks, WideAt.IsKeyLit k) : ∀ (i : Nat), i ≤ ks.length → ∀ k j, mlast ks i k = some j → j < i ∧ ks[j]? = some k
  | 0, _, k, j, h => by cases h
  | i + 1, hi, k, j, h => by
    have hg : ks.getD i (.bool false) = ks[i] := by simp [show i < ks.length by omega]
    by_cases e : k = ks.getD i (.bool false)
    · rw [mlast, e, upd_same _ _ _ (by rw [hg]; exact hk _ (List.getElem_mem _))] at h
      cases h
      exact ⟨by omega, by rw [e, hg, List.getElem?_eq_getElem]⟩
    · rw [mlast, upd_other _ _ e] at h
      obtain ⟨h1, h2⟩ := mlast_some hk i (by omega) k j h
      exact ⟨by omega, h2⟩
theorem mlast_mem {ks : List Lit} (hk : ∀ k ∈ ks, WideAt.IsKeyLit k) : ∀ (i : Nat), i ≤ ks.length → ∀ k, (mlast ks i k).isSome = true ↔ k ∈ ks.take i
  | 0, _, k => by simp [mlast]
  | i + 1, hi, k => by
    have hi' : i < ks.length := by omega
    have hg : ks.getD i (.bool false) = ks[i] := by simp [hi']
    rw [List.take_succ_eq_append_getElem hi', List.mem_append, List.mem_singleton]
    by_cases e : k = ks[i]
    · rw [mlast, hg, e, upd_same _ _ _ (hk _ (List.getElem_mem _))]
      simp
    · rw [mlast, hg, upd_other _ _ e, mlast_mem hk i (by omega) k]
      simp [e]
theorem mcnt_le {ks : List Lit} : ∀ (i : Nat), mcnt ks i ≤ i
  | 0 => Nat.le_refl _
  | i + 1 => by
    have := mcnt_le (ks := ks) i
    rw [mcnt]; split <;> omega
theorem mcnt_nodup {ks : List Lit} (hk : ∀ k ∈ ks, WideAt.IsKeyLit k) : ∀ (i : Nat), i ≤ ks.length → (mcnt ks i = i ↔ (ks.take i).Nodup)
  | 0, _ => by simp [mcnt]
  | i + 1, hi => by
    have hi' : i < ks.length := by omega
    have hg : ks.getD i (.bool false) = ks[i] := by simp [hi']
    have hm := mlast_mem hk i (by omega) ks[i]
    have ih := mcnt_nodup hk i (by omega)
    have hle := mcnt_le (ks := ks) i
    rw [mcnt, hg, List.take_succ_eq_append_getElem hi', List.nodup_append]
    by_cases e : (mlast ks i ks[i]).isSome = true
    · rw [if_pos e]
      constructor
      · intro h; omega
      · intro h; exact absurd rfl (h.2.2 _ (hm.1 e) _ (List.mem_singleton.2 rfl))
    · rw [if_neg e]
      constructor
      · intro h
        refine ⟨ih.1 (by omega), by simp, fun a ha b hb => ?_⟩
        rw [List.mem_singleton] at hb
        intro eq
        rw [eq, hb] at ha
        exact e (hm.2 ha)
      · intro h
        have := ih.2 h.1
        omega
end Tre
end Go.Proofs.YtchcejjoncihkaaGreatDoor

/- Layer 7: copies of a node's lists, in memory of their own: copied. -/
namespace Go.Proofs.YtchcejjoncihkaaGreatDoor
set_option linter.unusedVariables false
open Go.RowKit Go.Maps
open Nam Tre
open Lz (g)

/-- A slice that lies in memory from B on, or nowhere. -/
def Ab (B : Nat) (ao : Option Addr) : Prop := ∀ a, ao = some a → B ≤ a.block
theorem ab_of_owns {w : World} {B n c size e : Nat} {ao : Option Addr} {xs : List Value} (h : w.ownsRow B e size (.slice ao n c) n xs) : Ab B ao := by
  intro a ha
  subst ha
  exact (h.lt a.block rfl).1
theorem clone_strs (w : World) (ty : TypeId) (ao : Option Addr) (n c : Nat) (l : List ByteArray) (h : Rs w ao n l) (hnil : ao = none → c = 0) (hn : n ≤ 1000000) :
    ∃ ao' c' w', (Builtin.append_ #[32, 32] ty #[.slice none 0 0, .slice ao n c]).run Tryz.prog w = .ok (.slice ao' n c') w' ∧ w'.ownsRow w.heap.size 9 1 (.slice ao' n c') n (sv l) ∧ w.grownBy w' none := by
  obtain ⟨i0, hi, hz0, hz1, hz2⟩ := info_parts infoStr
  cases ao with
  | none =>
    obtain rfl : c = 0 := hnil rfl
    obtain rfl : n = 0 := by
      rcases h.2 with h0 | ⟨b, off, h1, _⟩
      · exact h0
      · simp at h1
    obtain rfl : l = [] := List.eq_nil_of_length_eq_zero h.1
    refine ⟨none, 0, w, ?_, World.ownsRow_nil _ _ _ _, World.grownBy.refl _ _⟩
    exact run_append_owned_none (P := Tryz.prog) w w.heap.size 32 ty 9 i0 1 Tryz.underlying32 hi _ 0 [] (World.ownsRow_nil _ _ _ _)
  | some ad =>
    obtain ⟨v', w', hr, ho, hg, _⟩ := run_append_own (P := Tryz.prog) w w.heap.size 32 ty 9 i0 (.string ⟨#[]⟩) 1 16 Tryz.underlying32 hi hz0 hz1 hz2 rfl (by decide) (.slice none 0 0) 0 [] (World.ownsRow_nil _ _ _ _) ad n c (sv l) (by rw [sv_length, h.1]; omega) (fun j u hu => by
      have hj : j < (sv l).length := (List.getElem?_eq_some_iff.1 hu).1
      rw [sv_length, h.1] at hj
      obtain ⟨b, off, h1, h2, h3⟩ := h.at (by omega)
      obtain rfl := Option.some.inj h1
      rw [Addr.add_lit, h3 j hj]
      simp only [sv, List.getElem?_map, List.getElem?_eq_getElem (show j < l.length by rw [h.1]; exact hj), gs_lt l j (by rw [h.1]; exact hj), Option.map_some] at hu ⊢
      exact hu) (sv_one _) (by unfold maxLen; omega) (by omega) (Nat.le_refl _)
    rw [Nat.zero_add, List.nil_append] at ho
    obtain ⟨ao', c', rfl⟩ := owns_shape ho
    exact ⟨ao', c', w', hr, ho, hg⟩
theorem clone_bytes (w : World) (ty : TypeId) (ao : Option Addr) (n c : Nat) (l : List Int) (h : Bs w ao n l) (hnil : ao = none → c = 0) (hn : n ≤ 1000000) :
    ∃ ao' c' w', (Builtin.append_ #[25, 25] ty #[.slice none 0 0, .slice ao n c]).run Tryz.prog w = .ok (.slice ao' n c') w' ∧ w'.ownsRow w.heap.size 5 1 (.slice ao' n c') n (bv l) ∧ w.grownBy w' none := by
  obtain ⟨i0, hi, hz0, hz1, hz2⟩ := info_parts infoByte
  cases ao with
  | none =>
    obtain rfl : c = 0 := hnil rfl
    obtain rfl : n = 0 := by
      rcases h.2.2 with h0 | ⟨b, off, h1, _⟩
      · exact h0
      · simp at h1
    obtain rfl : l = [] := List.eq_nil_of_length_eq_zero h.1
    refine ⟨none, 0, w, ?_, World.ownsRow_nil _ _ _ _, World.grownBy.refl _ _⟩
    exact run_append_owned_none (P := Tryz.prog) w w.heap.size 25 ty 5 i0 1 Tryz.underlying25 hi _ 0 [] (World.ownsRow_nil _ _ _ _)
  | some ad =>
    obtain ⟨v', w', hr, ho, hg, _⟩ := run_append_own (P := Tryz.prog) w w.heap.size 25 ty 5 i0 (.int .u8 0) 1 1 Tryz.underlying25 hi hz0 hz1 hz2 rfl (by decide) (.slice none 0 0) 0 [] (World.ownsRow_nil _ _ _ _) ad n c (bv l) (by rw [bv_length, h.1]; omega) (by
      rcases h.2.2 with h0 | ⟨b, off, h1, _, hseg⟩
      · have : l = [] := List.eq_nil_of_length_eq_zero (by have := h.1; omega)
        subst this
        intro j u hu; simp [bv] at hu
      · obtain rfl := Option.some.inj h1
        have := news_seg hseg n
        rw [List.take_of_length_le (by have := h.1; omega)] at this
        exact this) (bv_one _) (by unfold maxLen; omega) (by omega) (Nat.le_refl _)
    rw [Nat.zero_add, List.nil_append] at ho
    obtain ⟨ao', c', rfl⟩ := owns_shape ho
    exact ⟨ao', c', w', hr, ho, hg⟩
/-- An attribute's cells. -/
structure Xv where
  s : ByteArray
  va : Option Addr
  vn : Nat
  vc : Nat
def xv0 : Xv := ⟨⟨#[]⟩, none, 0, 0⟩
def xvs (X : List Xv) : List Value := X.flatMap (fun x => [.string x.s, .slice x.va x.vn x.vc])
theorem xvs_length (X : List Xv) : (xvs X).length = X.length * 2 := by
  induction X with
  | nil => rfl
  | cons x r ih =>
    have : xvs (x :: r) = [.string x.s, .slice x.va x.vn x.vc] ++ xvs r := by simp [xvs]
    rw [this, List.length_append, ih, List.length_cons]; simp; omega
theorem xvs_get (X : List Xv) (i : Nat) (h : i < X.length) : (xvs X)[i * 2]? = some (.string X[i].s) ∧ (xvs X)[i * 2 + 1]? = some (.slice X[i].va X[i].vn X[i].vc) := by
  induction X generalizing i with
  | nil => simp at h
  | cons x r ih =>
    have e : xvs (x :: r) = [.string x.s, .slice x.va x.vn x.vc] ++ xvs r := by simp [xvs]
    rw [e]
    cases i with
    | zero => exact ⟨rfl, rfl⟩
    | succ i =>
      have := ih i (by simpa using h)
      rw [List.getElem?_append_right (by simp; omega), List.getElem?_append_right (by simp; omega)]
      simp only [List.length_cons, List.length_nil]
      rw [show (i + 1) * 2 - (0 + 1 + 1) = i * 2 by omega, show (i + 1) * 2 + 1 - (0 + 1 + 1) = i * 2 + 1 by omega]
      exact this
theorem xvs_set (X : List Xv) (i : Nat) (a : Option Addr) (m c : Nat) (h : i < X.length) : (xvs X).set (i * 2 + 1) (.slice a m c) = xvs (X.set i ⟨X[i].s, a, m, c⟩) := by
  induction X generalizing i with
  | nil => simp at h
  | cons x r ih =>
    have e : ∀ y l, xvs (y :: l) = .string y.s :: .slice y.va y.vn y.vc :: xvs l := by simp [xvs]
    cases i with
    | zero => rw [e, List.set_cons_zero, e]; rfl
    | succ i =>
      rw [e, show (i + 1) * 2 + 1 = i * 2 + 1 + 1 + 1 by omega, List.set_cons_succ, List.set_cons_succ, ih i (by simpa using h), List.set_cons_succ, e]
      rfl
theorem xvs_one (X : List Xv) : ∀ u ∈ xvs X, u.oneCell' = true := by
  intro u hu
  simp only [xvs, List.mem_flatMap] at hu
  obtain ⟨x, _, hx⟩ := hu
  simp only [List.mem_cons, List.not_mem_nil, or_false] at hx
  rcases hx with h | h <;> (rw [h]; rfl)
/-- An attribute's cells stand for one. -/
def XRep (w : World) (x : Xv) (y : ByteArray × List Int) : Prop := y.1 = x.s ∧ Bs w x.va x.vn y.2 ∧ x.vn ≤ x.vc ∧ x.vc ≤ 9223372036854775807 ∧ (x.va = none → x.vc = 0) ∧ y.1.size ≤ 9223372036854775807
def gX (X : List Xv) (i : Nat) : Xv := X.getD i xv0
theorem gX_lt (X : List Xv) (i : Nat) (h : i < X.length) : gX X i = X[i] := by simp [gX, h]
/-- The cells of attributes that came in. -/
theorem XsR.xv {w : World} {ao : Option Addr} {n : Nat} {xs : List (ByteArray × List Int)} (h : XsR w ao n xs) : ∃ X : List Xv, X.length = n ∧ (∀ i, i < n → XRep w (gX X i) (gx xs i)) ∧ (n = 0 ∨ ∃ b off, ao = some ⟨b, off, none⟩ ∧ ∀ j u, (xvs X)[j]? = some u → w.cell? ⟨b, off + j, none⟩ = some u) := by
  by_cases e : n = 0
  · exact ⟨[], by simp [e], fun i hi => by omega, .inl e⟩
  · obtain ⟨b, off, h1, h2, h3⟩ := h.at (by omega)
    have each : ∀ i, i < n → ∃ x : Xv, w.cell? ⟨b, off + i * 2, none⟩ = some (.string x.s) ∧ w.cell? ⟨b, off + i * 2 + 1, none⟩ = some (.slice x.va x.vn x.vc) ∧ XRep w x (gx xs i) := fun i hi => by
      obtain ⟨c1, va, vn, vc, c2, r1, r2, r3, r4, r5⟩ := h3 i hi
      exact ⟨⟨(gx xs i).1, va, vn, vc⟩, c1, c2, rfl, r1, r2, r3, r4, r5⟩
    obtain ⟨O, hO⟩ : ∃ O : Nat → Xv, ∀ i, i < n → w.cell? ⟨b, off + i * 2, none⟩ = some (.string (O i).s) ∧ w.cell? ⟨b, off + i * 2 + 1, none⟩ = some (.slice (O i).va (O i).vn (O i).vc) ∧ XRep w (O i) (gx xs i) := by
      refine ⟨fun i => if h : i < n then (each i h).choose else xv0, fun i hi => ?_⟩
      simp only [dif_pos hi]
      exact (each i hi).choose_spec
    refine ⟨(List.range n).map O, by simp, fun i hi => ?_, .inr ⟨b, off, h1, fun j u hu => ?_⟩⟩
    · rw [gX_lt _ _ (by simpa using hi)]
      simpa using (hO i hi).2.2
    · have hj : j < (xvs ((List.range n).map O)).length := (List.getElem?_eq_some_iff.1 hu).1
      rw [xvs_length] at hj
      simp only [List.length_map, List.length_range] at hj
      have hq : j / 2 < n := by omega
      have hg := xvs_get ((List.range n).map O) (j / 2) (by simpa using hq)
      simp only [List.getElem_map, List.getElem_range] at hg
      obtain ⟨k1, k2, _⟩ := hO (j / 2) hq
      rcases Nat.mod_two_eq_zero_or_one j with hm | hm
      · rw [show j = j / 2 * 2 by omega, hg.1] at hu
        rw [show off + j = off + j / 2 * 2 by omega, k1]; exact hu
      · rw [show j = j / 2 * 2 + 1 by omega, hg.2] at hu
        rw [show off + j = off + j / 2 * 2 + 1 by omega, k2]; exact hu
theorem infoXat : (Tryz.prog.info? 144).map (fun i => (i.zero, i.size, i.bytes)) = some (some (.agg #[.string ⟨#[]⟩, .slice none 0 0]), 2, 40) := by kernel_rfl
theorem clone_xats (w : World) (ty : TypeId) (ao : Option Addr) (n c : Nat) (X : List Xv) (hX : X.length = n) (h : n = 0 ∨ ∃ b off, ao = some ⟨b, off, none⟩ ∧ ∀ j u, (xvs X)[j]? = some u → w.cell? ⟨b, off + j, none⟩ = some u) (hnil : ao = none → c = 0) (hn : n ≤ 1000000) :
    ∃ ao' c' w', (Builtin.append_ #[35, 35] ty #[.slice none 0 0, .slice ao n c]).run Tryz.prog w = .ok (.slice ao' n c') w' ∧ w'.ownsRow w.heap.size 144 2 (.slice ao' n c') n (xvs X) ∧ w.grownBy w' none := by
  obtain ⟨i0, hi, hz0, hz1, hz2⟩ := info_parts infoXat
  cases ao with
  | none =>
    obtain rfl : c = 0 := hnil rfl
    obtain rfl : n = 0 := by
      rcases h with h0 | ⟨b, off, h1, _⟩
      · exact h0
      · simp at h1
    obtain rfl : X = [] := List.eq_nil_of_length_eq_zero hX
    refine ⟨none, 0, w, ?_, World.ownsRow_nil _ _ _ _, World.grownBy.refl _ _⟩
    exact run_append_owned_none (P := Tryz.prog) w w.heap.size 35 ty 144 i0 2 Tryz.underlying35 hi _ 0 [] (World.ownsRow_nil _ _ _ _)
  | some ad =>
    obtain ⟨v', w', hr, ho, hg, _⟩ := run_append_own (P := Tryz.prog) w w.heap.size 35 ty 144 i0 (.agg #[.string ⟨#[]⟩, .slice none 0 0]) 2 40 Tryz.underlying35 hi hz0 hz1 hz2 rfl (by decide) (.slice none 0 0) 0 [] (World.ownsRow_nil _ _ _ _) ad n c (xvs X) (by rw [xvs_length, hX]) (by
      rcases h with h0 | ⟨b, off, h1, hseg⟩
      · have : X = [] := List.eq_nil_of_length_eq_zero (by omega)
        subst this
        intro j u hu; simp [xvs] at hu
      · obtain rfl := Option.some.inj h1
        intro j u hu
        rw [Addr.add_lit]; exact hseg j u hu) (xvs_one _) (by unfold maxLen; omega) (by omega) (Nat.le_refl _)
    rw [Nat.zero_add, List.nil_append] at ho
    obtain ⟨ao', c', rfl⟩ := owns_shape ho
    exact ⟨ao', c', w', hr, ho, hg⟩
/-- 'append' whose run is known. -/
theorem wpList_append_run {w w' : World} {ops : Array Oper} {rest : List Oper} {o : Oper} {a : Act} {Q : Exit → Act → World → Prop} (hgd : o.guard = none) (s x : Operand) (t : TypeId)
    (ho : o.op = .call { callee := .builtin .append, args := #[s, x], argTypes := #[t, t] }) (va vx r : Value) (hs : a.eval s = va) (hx : a.eval x = vx)
    (hrun : (Builtin.append_ #[t, t] o.type #[va, vx]).run Tryz.prog w = .ok r w') (h : wpList Tryz.prog ops Q rest (a.put o.dst r) w') : wpList Tryz.prog ops Q (o :: rest) a w := by
  refine wpList_plain hgd fun K hK => ?_
  unfold Oper.wp
  simp [execOp, ho, resolve, invoke, builtin, hs, hx, hrun, Result.andThen]
  exact hK _ _ h
theorem step_append_run {w w' : World} {ops : Array Oper} {o : Oper} {a : Act} {K : Act → World → Prop} {Q : Exit → Act → World → Prop} {E : Prop} (hgd : o.guard = none) (s x : Operand) (t : TypeId)
    (ho : o.op = .call { callee := .builtin .append, args := #[s, x], argTypes := #[t, t] }) (va vx r : Value) (hs : a.eval s = va) (hx : a.eval x = vx)
    (hrun : (Builtin.append_ #[t, t] o.type #[va, vx]).run Tryz.prog w = .ok r w') (h : K (a.put o.dst r) w') : if Region.wanted o (yielded ops a.tmps) = true then Oper.wp Tryz.prog o a w K Q else E := by
  have hw : Region.wanted o (yielded ops a.tmps) = true := by simp [Region.wanted, hgd]
  rw [if_pos hw]
  unfold Oper.wp
  simp [execOp, ho, resolve, invoke, builtin, hs, hx, hrun, Result.andThen]
  exact h
/-- A node in a block of its own, as the block stands. -/
def Bk (w : World) (p : Nat) (v : Nv) : Prop := w.heap[p]? = some (.cells v.cells 37 (0, 0))
theorem Bk.box {w : World} {p : Nat} {v : Nv} (h : Bk w p v) : Boxed w p v := by
  have hc : ∀ k, w.cell? ⟨p, k, none⟩ = v.cells[k]? := fun k => cell_of_row _ _ k _ _ _ h
  exact ⟨heap_lt h, hc 0, hc 1, hc 2, hc 3, hc 4, hc 5, hc 6, hc 7, hc 8, hc 9⟩
theorem Bk.frozen {w : World} {p : Nat} {v : Nv} (h : Bk w p v) (k : Nat) : w.frozen? ⟨p, k, none⟩ = false := Lib.frozen_of_heap h k
theorem Bk.block {w w' : World} {p : Nat} {v : Nv} (h : Bk w p v) (hb : w'.heap[p]? = w.heap[p]?) : Bk w' p v := hb.trans h
theorem bk_new (w : World) (v : Nv) : Bk (w.alloc (.cells v.cells 37)) w.heap.size v := heap_alloc_new w _
theorem setCell_heap (w : World) (p k : Nat) (u : Value) (cs : Array Value) (e : TypeId) (fz : Nat × Nat) (h : w.heap[p]? = some (.cells cs e fz)) : (w.setCell ⟨p, k, none⟩ u).heap[p]? = some (.cells (cs.setIfInBounds k u) e fz) := by
  have hlt := heap_lt h
  have h' : w.heap[p] = .cells cs e fz := by
    rw [Array.getElem?_eq_getElem hlt] at h; exact Option.some.inj h
  simp [World.setCell, hlt, Array.getElem_modify_self, h']
theorem Bk.set0 {w : World} {p : Nat} {v : Nv} (h : Bk w p v) (a : Option Addr) (n c : Nat) : Bk (w.setCell ⟨p, 0, none⟩ (.slice a n c)) p { v with na := a, nn := n, nc := c } := setCell_heap w p 0 _ _ _ _ h
theorem Bk.set6 {w : World} {p : Nat} {v : Nv} (h : Bk w p v) (a : Option Addr) (n c : Nat) : Bk (w.setCell ⟨p, 6, none⟩ (.slice a n c)) p { v with da := a, dn := n, dc := c } := setCell_heap w p 6 _ _ _ _ h
theorem Bk.set8 {w : World} {p : Nat} {v : Nv} (h : Bk w p v) (a : Option Addr) (n c : Nat) : Bk (w.setCell ⟨p, 8, none⟩ (.slice a n c)) p { v with xa := a, xn := n, xc := c } := setCell_heap w p 8 _ _ _ _ h
theorem set_other (w : World) (p k i : Nat) (u : Value) (h : i ≠ p) : (w.setCell ⟨p, k, none⟩ u).heap[i]? = w.heap[i]? := Below.heap_setCell _ _ _ _ h
/-- A whole node stored. -/
def put10 (w : World) (r : Nat) (u : Nv) : World := ((((((((((w.setCell ⟨r, 0, none⟩ (.slice u.na u.nn u.nc)).setCell ⟨r, 1, none⟩ (.int .i64 u.ino)).setCell ⟨r, 2, none⟩ (.int .i64 u.kind)).setCell ⟨r, 3, none⟩ (.int .i64 u.mode)).setCell ⟨r, 4, none⟩ (.int .i64 u.uid)).setCell ⟨r, 5, none⟩ (.int .i64 u.gid)).setCell ⟨r, 6, none⟩ (.slice u.da u.dn u.dc)).setCell ⟨r, 7, none⟩ (.string u.tg)).setCell ⟨r, 8, none⟩ (.slice u.xa u.xn u.xc)).setCell ⟨r, 9, none⟩ (.bool u.op))
theorem Bk.put10 {w : World} {r : Nat} {z : Nv} (h : Bk w r z) (u : Nv) : Bk (put10 w r u) r u := by
  unfold Bk at h
  have h0 := setCell_heap _ r 0 (.slice u.na u.nn u.nc) _ _ _ h
  have h1 := setCell_heap _ r 1 (.int .i64 u.ino) _ _ _ h0
  have h2 := setCell_heap _ r 2 (.int .i64 u.kind) _ _ _ h1
  have h3 := setCell_heap _ r 3 (.int .i64 u.mode) _ _ _ h2
  have h4 := setCell_heap _ r 4 (.int .i64 u.uid) _ _ _ h3
  have h5 := setCell_heap _ r 5 (.int .i64 u.gid) _ _ _ h4
  have h6 := setCell_heap _ r 6 (.slice u.da u.dn u.dc) _ _ _ h5
  have h7 := setCell_heap _ r 7 (.string u.tg) _ _ _ h6
  have h8 := setCell_heap _ r 8 (.slice u.xa u.xn u.xc) _ _ _ h7
  have h9 := setCell_heap _ r 9 (.bool u.op) _ _ _ h8
  unfold Bk YtchcejjoncihkaaGreatDoor.put10
  rw [h9]
  simp [Nv.cells]
theorem put10_other (w : World) (r : Nat) (u : Nv) (i : Nat) (hi : i ≠ r) : (put10 w r u).heap[i]? = w.heap[i]? := by
  unfold YtchcejjoncihkaaGreatDoor.put10
  rw [set_other _ _ _ _ _ hi, set_other _ _ _ _ _ hi, set_other _ _ _ _ _ hi, set_other _ _ _ _ _ hi, set_other _ _ _ _ _ hi, set_other _ _ _ _ _ hi, set_other _ _ _ _ _ hi, set_other _ _ _ _ _ hi, set_other _ _ _ _ _ hi, set_other _ _ _ _ _ hi]
theorem put10_below {w w' : World} {B r : Nat} (h : Below B w w') (hr : B ≤ r) (u : Nv) : Below B w (put10 w' r u) :=
  ((((((((((h.setCell (p := ⟨r, 0, none⟩) hr _).setCell (p := ⟨r, 1, none⟩) hr _).setCell (p := ⟨r, 2, none⟩) hr _).setCell (p := ⟨r, 3, none⟩) hr _).setCell (p := ⟨r, 4, none⟩) hr _).setCell (p := ⟨r, 5, none⟩) hr _).setCell (p := ⟨r, 6, none⟩) hr _).setCell (p := ⟨r, 7, none⟩) hr _).setCell (p := ⟨r, 8, none⟩) hr _).setCell (p := ⟨r, 9, none⟩) hr _)
theorem Bk.put10_keepT {w : World} {r : Nat} {z : Nv} (h : Bk w r z) (u : Nv) (e : TypeId) (he : e ≠ 37) : KeepT e w (YtchcejjoncihkaaGreatDoor.put10 w r u) := fun i cur fz hi => by
  have hne : i ≠ r := fun ei => by
    subst ei
    have h' : w.heap[i]? = some (.cells z.cells 37 (0, 0)) := h
    rw [h'] at hi
    injection hi with hh
    injection hh with _ h2 _
    exact he h2.symm
  rw [put10_other w r u i hne]; exact hi
end Go.Proofs.YtchcejjoncihkaaGreatDoor

/- Layer 7: whether two nodes have the same: Alike, and the reference's. -/
namespace Go.Proofs.YtchcejjoncihkaaGreatDoor
set_option linter.unusedVariables false
open Go.RowKit Go.Maps
open Nam Tre
open Lz (g)

theorem bytesEqual_any (a b : Option Addr) (n c m d : Nat) (x y : List Int) (w : World) (hx : Bs w a n x) (hy : Bs w b m y) :
    Calls Tryz.prog 199 #[.slice a n c, .slice b m d] w fun e w' => e = .returned (.bool (decide (x = y))) ∧ w' = w := by
  have s1 := str_any hx c
  have s2 := str_any hy d
  have HE := hide (str_eq hx.bytes hy.bytes)
  clear hx hy
  go_enter Tryz.func199, Tryz.ntmps199
  go_wp2
  go_ret
  exact ⟨ret_bool HE.out, rfl⟩
theorem byt_eq (s t : ByteArray) : (s.toList == t.toList) = decide (s = t) := by
  rw [Bool.eq_iff_iff, beq_iff_eq, decide_eq_true_eq]
  exact ⟨toList_inj, fun h => by rw [h]⟩
set_option maxRecDepth 100000 in
theorem sameXattr_any (s t : ByteArray) (a b : Option Addr) (n c m d : Nat) (x y : List Int) (w : World) (hx : Bs w a n x) (hy : Bs w b m y) :
    Calls Tryz.prog 201 #[.agg #[.string s, .slice a n c], .agg #[.string t, .slice b m d]] w fun e w' => e = .returned (.bool (decide ((s, x) = (t, y)))) ∧ Below w.heap.size w w' := by
  have HX := hide hx
  have HY := hide hy
  clear hx hy
  by_cases h : s = t
  · subst h
    have h1 : (s.toList == s.toList) = true := by simp
    go_enter Tryz.func201, Tryz.ntmps201
    go_wp2_with (go_at_call 199; refine (bytesEqual_any a b n c m d x y _ ((HX.out.alloc _).alloc _) ((HY.out.alloc _).alloc _)).mono ?_; rintro e w' ⟨rfl, rfl⟩)
    go_ret
    exact ⟨ret_bool (by simp), ((Below.refl _ _).alloc (Nat.le_refl _) _).alloc (by simp) _⟩
  · have h1 : (s.toList == t.toList) = false := by rw [byt_eq]; simpa using h
    have HE : Hid (false = decide ((s, x) = (t, y))) := by
      show _ = _
      symm; rw [decide_eq_false_iff_not]; intro e; exact h (Prod.mk.inj e).1
    go_enter Tryz.func201, Tryz.ntmps201
    go_wp2_with (go_at_call 199; refine (bytesEqual_any a b n c m d x y _ ((HX.out.alloc _).alloc _) ((HY.out.alloc _).alloc _)).mono ?_; rintro e w' ⟨rfl, rfl⟩)
    go_ret
    exact ⟨ret_bool HE.out, ((Below.refl _ _).alloc (Nat.le_refl _) _).alloc (by simp) _⟩
theorem sameXattr_at (q : Bool) (x y : ByteArray × List Int) (a b : Option Addr) (n c m d : Nat) (w w0 : World) (hq : decide (x = y) = q) (hx : Bs w0 a n x.2) (hy : Bs w0 b m y.2) (h0 : Below w0.heap.size w0 w) :
    Calls Tryz.prog 201 #[.agg #[.string x.1, .slice a n c], .agg #[.string y.1, .slice b m d]] w fun e w' => e = .returned (.bool q) ∧ Below w.heap.size w w' := by
  subst hq
  exact sameXattr_any x.1 y.1 a b n c m d x.2 y.2 w (hx.below h0) (hy.below h0)
theorem below_alloc2 (w : World) (o p : Obj) : Below w.heap.size w ((w.alloc o).alloc p) := ((Below.refl _ _).alloc (Nat.le_refl _) _).alloc (by simp) _
theorem xs_drop (xs : List (ByteArray × List Int)) (i : Nat) (h : i < xs.length) : xs.drop i = gx xs i :: xs.drop (i + 1) := by
  rw [List.drop_eq_getElem_cons h, gx_lt xs i h]
theorem xs_step {l k : List (ByteArray × List Int)} {i : Nat} (h : i < l.length) (h' : i < k.length) : l.drop i = k.drop i ↔ gx l i = gx k i ∧ l.drop (i + 1) = k.drop (i + 1) := by
  rw [xs_drop l i h, xs_drop k i h', List.cons.injEq]
set_option maxRecDepth 100000 in
theorem EqualFunc_any (a b : Option Addr) (n c m d : Nat) (l k : List (ByteArray × List Int)) (w : World) (hl : XsR w a n l) (hk : XsR w b m k) (hc : n ≤ c) (hcm : c ≤ 9223372036854775807) :
    Calls Tryz.prog 200 #[.slice a n c, .slice b m d, .func (.func 201) #[] #[]] w fun e w' => e = .returned (.bool (decide (l = k))) ∧ Below w.heap.size w w' := by
  have HL := hide hl
  have HK := hide hk
  have HLN := hide hl.1
  have HKN := hide hk.1
  clear hl hk
  by_cases hnm : n = m
  · subst hnm
    go_enter Tryz.func200, Tryz.ntmps200
    go_wp2
    go_loopw [7, 8, 9, 17] (fun _ _ _ r wr => ∃ i : Nat, r = .int .i64 i ∧ i ≤ n ∧ Below w.heap.size w wr ∧ (l = k ↔ l.drop i = k.drop i)) (fun _ _ _ r _ => n - (intOf r).toNat)
    case atStart => exact ⟨0, rfl, Nat.zero_le _, Below.refl _ _, Iff.rfl⟩
    case round =>
      obtain ⟨i, rfl, hi0, hbel, hinv⟩ := hrel
      have HI := hide hinv
      have HB := hide hbel
      by_cases hp : i < n
      · have hd : decide ((i : Int) < n) = true := by simpa using hp
        obtain ⟨ba, oa, rfl, hba, hca⟩ := (HL.out.below hbel).at (by omega)
        obtain ⟨bb, ob, rfl, hbb, hcb⟩ := (HK.out.below hbel).at (by omega)
        obtain ⟨c1, va, vn, vc, c2, b1, _⟩ := hca i hp
        obtain ⟨c3, ua, un, uc, c4, b2, _⟩ := hcb i hp
        have B1 := hide b1
        have B2 := hide b2
        have ES := hide (xs_step (l := l) (k := k) (i := i) (by rw [HLN.out]; exact hp) (by rw [HKN.out]; exact hp))
        obtain ⟨q, hq⟩ : ∃ q, decide (gx l i = gx k i) = q := ⟨_, rfl⟩
        have HQ := hide hq
        clear hca hcb b1 b2 hinv hbel hq
        go_wp2_with fail
        refine (sameXattr_at q (gx l i) (gx k i) va ua vn vc un uc _ wr HQ.out B1.out B2.out (below_alloc2 wr _ _)).mono ?_
        rintro e w' ⟨rfl, hb⟩
        have HB2 := hide (HB.out.trans ((below_alloc2 wr _ _).mono (HB.out.size) |>.trans (hb.mono (by have := HB.out.size; simp; omega))))
        clear hb
        cases q with
        | false =>
          go_wp2
          go_ret
          refine ⟨ret_bool ?_, HB2.out⟩
          symm
          rw [decide_eq_false_iff_not, HI.out, ES.out]
          intro h
          have := HQ.out
          rw [decide_eq_false_iff_not] at this
          exact this h.1
        | true =>
          go_wp2
          refine ⟨⟨i + 1, by go_num, by omega, HB2.out, ?_⟩, by simp [intOf]; omega⟩
          rw [HI.out, ES.out]
          have : gx l i = gx k i := of_decide_eq_true HQ.out
          simp [this]
      · have hd : decide ((i : Int) < n) = false := by simpa using hp
        go_wp2
        go_ret
        refine ⟨ret_bool ?_, HB.out⟩
        symm
        rw [decide_eq_true_eq, HI.out, List.drop_eq_nil_of_le (by rw [HLN.out]; omega), List.drop_eq_nil_of_le (by rw [HKN.out]; omega)]
  · have hnm' : ((n : Int) != m) = true := by simp; omega
    have hne : Hid (false = decide (l = k)) := by
      show _ = _
      symm
      rw [decide_eq_false_iff_not]
      intro h
      have := congrArg List.length h
      rw [HLN.out, HKN.out] at this
      exact hnm this
    go_enter Tryz.func200, Tryz.ntmps200
    go_wp2
    go_ret
    exact ⟨ret_bool hne.out, Below.refl _ _⟩
/-- Two owners held against each other. -/
theorem attrEq (w : World) (x y z x' y' z' : Int) : (binOp .eql 34 (.agg #[.int .i64 x, .int .i64 y, .int .i64 z]) (.agg #[.int .i64 x', .int .i64 y', .int .i64 z'])).run Tryz.prog w = .ok (.bool (decide (x = x' ∧ y = y' ∧ z = z'))) w := by
  have u3 := Tryz.underlying3
  have a3 := Tryz.isAgg3
  have z3 := Tryz.sizeOf3
  have hS : Tryz.prog.underlying 34 = some (.struct (Tryz.prog.fieldsOf 34)) := by kernel_rfl
  have hp : Tryz.prog.stoodInHeld 34 = false := by kernel_rfl
  rw [run_eql_struct, show (10000 : Nat) = 9999 + 1 from rfl, run_equalIn_agg w 9999 34 _ _ hS hp]
  simp only [Program.fieldsOf, Tryz.underlying34]
  go_simp
  by_cases h1 : x = x' <;> by_cases h2 : y = y' <;> by_cases h3 : z = z' <;> simp [h1, h2, h3]
theorem alike_rep {w : World} {v u : Nv} {x y : Nod} (hv : Rep w v x) (hu : Rep w u y) (a b c d e f : Bool) (ha : (v.kind == u.kind) = a) (hb : decide (v.mode = u.mode ∧ v.uid = u.uid ∧ v.gid = u.gid) = b) (hc : (v.tg.toList == u.tg.toList) = c) (hd : (v.op == u.op) = d) (he : decide (x.data = y.data) = e) (hf : decide (x.xs = y.xs) = f) :
    alike x y = (a && b && c && d && e && f) := by
  subst ha hb hc hd he hf
  rw [Bool.eq_iff_iff, alike_iff, hv.kind, hu.kind, hv.mode, hu.mode, hv.uid, hu.uid, hv.gid, hu.gid, hv.tg, hu.tg, hv.op, hu.op, byt_eq]
  simp only [Bool.and_eq_true, decide_eq_true_eq, beq_iff_eq, and_assoc]
theorem bytesEqual_at (q : Bool) (a b : Option Addr) (n c m d : Nat) (x y : List Int) (w w0 : World) (hq : decide (x = y) = q) (hx : Bs w0 a n x) (hy : Bs w0 b m y) (h0 : Below w0.heap.size w0 w) :
    Calls Tryz.prog 199 #[.slice a n c, .slice b m d] w fun e w' => e = .returned (.bool q) ∧ w' = w := by
  subst hq
  exact bytesEqual_any a b n c m d x y w (hx.below h0) (hy.below h0)
theorem EqualFunc_at (q : Bool) (a b : Option Addr) (n c m d : Nat) (l k : List (ByteArray × List Int)) (w w0 : World) (hq : decide (l = k) = q) (hl : XsR w0 a n l) (hk : XsR w0 b m k) (h0 : Below w0.heap.size w0 w) (hc : n ≤ c) (hcm : c ≤ 9223372036854775807) :
    Calls Tryz.prog 200 #[.slice a n c, .slice b m d, .func (.func 201) #[] #[]] w fun e w' => e = .returned (.bool q) ∧ Below w.heap.size w w' := by
  subst hq
  exact EqualFunc_any a b n c m d l k w (hl.below h0) (hk.below h0) hc hcm
set_option maxRecDepth 100000 in
set_option maxHeartbeats 4000000 in
theorem Alike_any (v u : Nv) (x y : Nod) (w : World) (hv : Rep w v x) (hu : Rep w u y) :
    Calls Tryz.prog 152 #[.agg v.cells, .agg u.cells] w fun e w' => e = .returned (.bool (alike x y)) ∧ Below w.heap.size w w' := by
  obtain ⟨a, ha⟩ : ∃ q, (v.kind == u.kind) = q := ⟨_, rfl⟩
  obtain ⟨b, hb⟩ : ∃ q, decide (v.mode = u.mode ∧ v.uid = u.uid ∧ v.gid = u.gid) = q := ⟨_, rfl⟩
  obtain ⟨c, hc⟩ : ∃ q, (v.tg.toList == u.tg.toList) = q := ⟨_, rfl⟩
  obtain ⟨d, hd⟩ : ∃ q, (v.op == u.op) = q := ⟨_, rfl⟩
  obtain ⟨e, he⟩ : ∃ q, decide (x.data = y.data) = q := ⟨_, rfl⟩
  obtain ⟨f, hf⟩ : ∃ q, decide (x.xs = y.xs) = q := ⟨_, rfl⟩
  have HA := hide (alike_rep hv hu a b c d e f ha hb hc hd he hf)
  have hA : ∀ W : World, (binOp .eql 34 (.agg #[.int .i64 v.mode, .int .i64 v.uid, .int .i64 v.gid]) (.agg #[.int .i64 u.mode, .int .i64 u.uid, .int .i64 u.gid])).run Tryz.prog W = .ok (.bool b) W := fun W => by rw [attrEq, hb]
  have HV := hide hv
  have HU := hide hu
  have HE := hide he
  have HF := hide hf
  have x1 := hv.xc
  have x2 := hv.xcm
  clear hv hu he hf hb
  unfold Nv.cells
  cases a with
  | false =>
    go_enter Tryz.func152, Tryz.ntmps152
    go_wp2
    go_ret
    exact ⟨ret_bool (by rw [HA.out]; rfl), below_alloc2 w _ _⟩
  | true =>
  cases b with
  | false =>
    go_enter Tryz.func152, Tryz.ntmps152
    go_wp2
    go_ret
    exact ⟨ret_bool (by rw [HA.out]; rfl), below_alloc2 w _ _⟩
  | true =>
  cases c with
  | false =>
    go_enter Tryz.func152, Tryz.ntmps152
    go_wp2
    go_ret
    exact ⟨ret_bool (by rw [HA.out]; rfl), below_alloc2 w _ _⟩
  | true =>
  cases d with
  | false =>
    go_enter Tryz.func152, Tryz.ntmps152
    go_wp2
    go_ret
    exact ⟨ret_bool (by rw [HA.out]; rfl), below_alloc2 w _ _⟩
  | true =>
  cases e with
  | false =>
    go_enter Tryz.func152, Tryz.ntmps152
    go_wp2_with (go_at_call 199; refine (bytesEqual_at false v.da u.da v.dn v.dc u.dn u.dc x.data y.data _ w HE.out HV.out.data HU.out.data (below_alloc2 w _ _)).mono ?_; rintro e w' ⟨rfl, rfl⟩)
    go_ret
    exact ⟨ret_bool (by rw [HA.out]; rfl), below_alloc2 w _ _⟩
  | true =>
    go_enter Tryz.func152, Tryz.ntmps152
    go_wp2_with (first
      | (go_at_call 199; refine (bytesEqual_at true v.da u.da v.dn v.dc u.dn u.dc x.data y.data _ w HE.out HV.out.data HU.out.data (below_alloc2 w _ _)).mono ?_; rintro e w' ⟨rfl, rfl⟩)
      | (go_at_call 200; refine (EqualFunc_at f v.xa u.xa v.xn v.xc u.xn u.xc x.xs y.xs _ w HF.out HV.out.xs HU.out.xs (below_alloc2 w _ _) x1 x2).mono ?_; rintro e w' ⟨rfl, hb⟩))
    go_ret
    refine ⟨ret_bool (by rw [HA.out]; rfl), (below_alloc2 w _ _).trans (hb.mono (by simp; omega))⟩
end Go.Proofs.YtchcejjoncihkaaGreatDoor

/- Layer 7: the walk of copied. -/
namespace Go.Proofs.YtchcejjoncihkaaGreatDoor
set_option linter.unusedVariables false
open Go.RowKit Go.Maps
open Nam Tre
open Lz (g)

/-- A node's lists lie from B on. -/
structure Abv (w : World) (B : Nat) (v : Nv) : Prop where
  na : Ab B v.na
  da : Ab B v.da
  xa : Ab B v.xa
  xs : ∀ b off, v.xa = some ⟨b, off, none⟩ → ∀ i, i < v.xn → ∀ va vn vc, w.cell? ⟨b, off + i * 2 + 1, none⟩ = some (.slice va vn vc) → Ab B va
/-- Lists that are not too long. -/
structure Lean1 (v : Nv) (x : Nod) : Prop where
  nn : v.nn ≤ 1000000
  dn : v.dn ≤ 1000000
  xn : v.xn ≤ 1000000
  xv : ∀ y ∈ x.xs, y.2.length ≤ 1000000
theorem grownBy_below {w w' : World} {B : Nat} (h : w.grownBy w' none) (hB : B ≤ w.heap.size) : Below B w w' := (Below.refl B w).grown h hB (fun k e => by cases e)
theorem KeepT.grownN {e : TypeId} {w w' : World} (hg : w.grownBy w' none) : KeepT e w w' := (KeepT.refl e w).grown hg (fun k hk => by cases hk)
theorem Bk.keepT {w : World} {p k : Nat} {v : Nv} (h : Bk w p v) (e : TypeId) (he : e ≠ 37) (u : Value) : KeepT e w (w.setCell ⟨p, k, none⟩ u) := by
  refine (KeepT.refl e w).setCell u (fun cur fz hh => ?_)
  have h' : w.heap[p]? = some (.cells v.cells 37 (0, 0)) := h
  rw [h'] at hh
  injection hh with hh
  injection hh with _ h2 _
  exact he h2.symm
/-- A step of the walk: a copy is laid down, and its place is stored in the node's block. -/
theorem own_up {w : World} {B B' e size n : Nat} {v : Value} {xs : List Value} (h : w.ownsRow B' e size v n xs) (hB : B ≤ B') : w.ownsRow B e size v n xs := by
  refine ⟨h.1, ?_⟩
  rcases h.2 with h0 | ⟨g, cap, cur, h1, h2, r⟩
  · exact .inl h0
  · exact .inr ⟨g, cap, cur, h1, Nat.le_trans hB h2, r⟩
/-- What stands when the three lists are copied, and the values of the first i attributes. -/
structure Mid (w wr : World) (v : Nv) (x : Nod) (na da xa : Option Addr) (nc dc xc : Nat) (X X' : List Xv) (i : Nat) : Prop where
  bk : Bk wr w.heap.size { v with na := na, nc := nc, da := da, dc := dc, xa := xa, xc := xc }
  rb : Bk wr (w.heap.size + 1) nv0
  bel : Below w.heap.size w wr
  names : wr.ownsRow w.heap.size 9 1 (.slice na v.nn nc) v.nn (sv x.names)
  data : wr.ownsRow w.heap.size 5 1 (.slice da v.dn dc) v.dn (bv x.data)
  row : wr.ownsRow (w.heap.size + 2) 144 2 (.slice xa v.xn xc) v.xn (xvs X')
  len : X'.length = v.xn
  old : ∀ j, i ≤ j → gX X' j = gX X j
  new : ∀ j, j < i → (gX X' j).s = (gX X j).s ∧ (gX X' j).vn = (gX X j).vn ∧ wr.ownsRow w.heap.size 5 1 (.slice (gX X' j).va (gX X' j).vn (gX X' j).vc) (gX X' j).vn (bv (gx x.xs j).2)
theorem own_set {w : World} {B g cap i : Nat} {X' : List Xv} {n : Nat} (h : w.ownsRow B 144 2 (.slice (some ⟨g, 0, none⟩) n cap) n (xvs X')) (hl : X'.length = n) (hi : i < n) (a : Option Addr) (m c : Nat) :
    (w.setCell ⟨g, i * 2 + 1, none⟩ (.slice a m c)).ownsRow B 144 2 (.slice (some ⟨g, 0, none⟩) n cap) n (xvs (X'.set i ⟨(gX X' i).s, a, m, c⟩)) := by
  have := h.stored (i * 2 + 1) (.slice a m c)
  rw [xvs_set X' i a m c (by omega)] at this
  rw [gX_lt X' i (by omega)]
  exact this.1
theorem keep_x {w : World} {B g cap n k : Nat} {xs : List Value} (h : w.ownsRow B 144 2 (.slice (some ⟨g, 0, none⟩) n cap) n xs) (e : TypeId) (he : e ≠ 144) (u : Value) : KeepT e w (w.setCell ⟨g, k, none⟩ u) := by
  refine (KeepT.refl e w).setCell u (fun cur fz hh => ?_)
  rcases h.2 with ⟨h0, _⟩ | ⟨g', cap', cur', h0, _, h1, _⟩
  · simp at h0
  · simp at h0
    obtain ⟨rfl, _⟩ := h0
    rw [h1] at hh
    injection hh with hh
    injection hh with _ h2 _
    exact he h2.symm
theorem gX_set (X : List Xv) (i j : Nat) (x : Xv) (hi : i < X.length) : gX (X.set i x) j = if j = i then x else gX X j := by
  unfold gX
  by_cases e : j = i
  · subst e; simp [hi]
  · rw [if_neg e]; simp [Ne.symm e]
/-- One attribute's value is copied. -/
theorem Mid.step {w wr w5 : World} {v : Nv} {x : Nod} {na da : Option Addr} {nc dc xc g i : Nat} {X X' : List Xv} (h : Mid w wr v x na da (some ⟨g, 0, none⟩) nc dc xc X X' i) (hi : i < v.xn) (hg : wr.drew.grownBy w5 none) (a : Option Addr) (m c : Nat)
    (ho : w5.ownsRow wr.drew.heap.size 5 1 (.slice a m c) m (bv (gx x.xs i).2)) (hm : m = (gX X i).vn) : Mid w (w5.setCell ⟨g, i * 2 + 1, none⟩ (.slice a m c)) v x na da (some ⟨g, 0, none⟩) nc dc xc X (X'.set i ⟨(gX X' i).s, a, m, c⟩) (i + 1) := by
  have hs := h.bel.size
  have hgB := (h.row.lt g rfl)
  have hg' : wr.grownBy w5 none := ⟨hg.os, hg.tape, hg.output, hg.size, hg.block⟩
  have row5 : w5.ownsRow (w.heap.size + 2) 144 2 (.slice (some ⟨g, 0, none⟩) v.xn xc) v.xn (xvs X') := (KeepT.grownN hg).owns (show wr.drew.ownsRow _ _ _ _ _ _ from h.row)
  have b5 : ∀ p, p < wr.heap.size → p ≠ g → (w5.setCell ⟨g, i * 2 + 1, none⟩ (.slice a m c)).heap[p]? = wr.heap[p]? := fun p hp hne => (set_other _ _ _ _ _ hne).trans (hg.block p hp (by simp))
  have kp : ∀ e, e ≠ 144 → KeepT e wr (w5.setCell ⟨g, i * 2 + 1, none⟩ (.slice a m c)) := fun e he => KeepT.trans (show KeepT e wr w5 from KeepT.grownN hg') (keep_x row5 e he _)
  refine ⟨h.bk.block (b5 _ (heap_lt h.bk) (by omega)), h.rb.block (b5 _ (heap_lt h.rb) (by omega)), ?_, (kp _ (by decide)).owns h.names, (kp _ (by decide)).owns h.data, own_set row5 h.len hi a m c, by rw [List.length_set]; exact h.len, fun j hj => ?_, fun j hj => ?_⟩
  · have e1 : Below w.heap.size wr w5 := grownBy_below hg' hs
    exact (h.bel.trans e1).setCell (by show w.heap.size ≤ g; omega) _
  · rw [gX_set _ _ _ _ (by rw [h.len]; exact hi), if_neg (by omega)]
    exact h.old j (by omega)
  · rw [gX_set _ _ _ _ (by rw [h.len]; exact hi)]
    by_cases e : j = i
    · subst e
      rw [if_pos rfl]
      refine ⟨by rw [h.old j (Nat.le_refl _)], hm, ?_⟩
      exact (keep_x row5 _ (by decide) _).owns (own_up ho hs)
    · rw [if_neg e]
      obtain ⟨q1, q2, q3⟩ := h.new j (by omega)
      exact ⟨q1, q2, (kp _ (by decide)).owns q3⟩
theorem xsr_of {w : World} {B n c : Nat} {ao : Option Addr} {X : List Xv} {xs : List (ByteArray × List Int)} (h : w.ownsRow B 144 2 (.slice ao n c) n (xvs X)) (hl : xs.length = n) (hX : X.length = n) (hr : ∀ j, j < n → XRep w (gX X j) (gx xs j)) : XsR w ao n xs := by
  refine ⟨hl, ?_⟩
  by_cases e : n = 0
  · exact .inl e
  · obtain ⟨g, c', hv, _, hlt⟩ := h.form (by omega)
    obtain ⟨rfl, _, rfl⟩ : ao = some ⟨g, 0, none⟩ ∧ n = n ∧ c = c' := by simpa using hv
    refine .inr ⟨g, 0, rfl, hlt, fun i hi => ?_⟩
    obtain ⟨q1, q2, q3, q4, q5, q6⟩ := hr i hi
    have hg := xvs_get X i (by omega)
    refine ⟨?_, (gX X i).va, (gX X i).vn, (gX X i).vc, ?_, q2, q3, q4, q5, q6⟩
    · rw [Nat.zero_add, h.cellAt _ (by omega), hg.1, ← gX_lt X i (by omega), q1]
    · rw [Nat.zero_add, h.cellAt _ (by omega), hg.2, ← gX_lt X i (by omega)]
/-- What stands at the end. -/
theorem Mid.fin {w wr : World} {v : Nv} {x : Nod} {na da xa : Option Addr} {nc dc xc i : Nat} {X X' : List Xv} (h : Mid w wr v x na da xa nc dc xc X X' i) (hr : Rep w v x) (hX : ∀ wr, Below w.heap.size w wr → ∀ i, i < v.xn → XRep wr (gX X i) (gx x.xs i)) (hi : i = v.xn)
    (u : Nv) (hu : u = { v with na := na, nc := nc, da := da, dc := dc, xa := xa, xc := xc }) : Rep (put10 wr (w.heap.size + 1) u) u x ∧ Abv (put10 wr (w.heap.size + 1) u) w.heap.size u ∧ Below w.heap.size w (put10 wr (w.heap.size + 1) u) := by
  have kp : ∀ e, e ≠ 37 → KeepT e wr (put10 wr (w.heap.size + 1) u) := fun e he => h.rb.put10_keepT u e he
  have hn := (kp _ (by decide)).owns h.names
  have hd := (kp _ (by decide)).owns h.data
  have hx := (kp _ (by decide)).owns h.row
  have hbel := put10_below h.bel (show w.heap.size ≤ w.heap.size + 1 by omega) u
  have hnew : ∀ j, j < v.xn → (gX X' j).s = (gX X j).s ∧ (gX X' j).vn = (gX X j).vn ∧ (put10 wr (w.heap.size + 1) u).ownsRow w.heap.size 5 1 (.slice (gX X' j).va (gX X' j).vn (gX X' j).vc) (gX X' j).vn (bv (gx x.xs j).2) := fun j hj => by
    obtain ⟨q1, q2, q3⟩ := h.new j (by omega)
    exact ⟨q1, q2, (kp _ (by decide)).owns q3⟩
  have hxr : ∀ j, j < v.xn → XRep (put10 wr (w.heap.size + 1) u) (gX X' j) (gx x.xs j) := fun j hj => by
    obtain ⟨q1, q2, q3⟩ := hnew j hj
    obtain ⟨t1, t2, _, _, _, t6⟩ := hX _ hbel j hj
    have hc := cap_owns q3
    exact ⟨by rw [q1]; exact t1, bs_of_owns q3 t2.bytes, hc.1, hc.2.1, hc.2.2, t6⟩
  have cn := cap_owns hn
  have cd := cap_owns hd
  have cx := cap_owns hx
  refine ⟨?_, ?_, hbel⟩
  · rw [hu] at hn hd hx hxr ⊢
    exact { hr with names := rs_of_owns hn, nc := cn.1, ncm := cn.2.1, nnil := cn.2.2, data := bs_of_owns hd hr.data.bytes, dc := cd.1, dcm := cd.2.1, dnil := cd.2.2, xs := xsr_of hx hr.xs.1 h.len hxr, xc := cx.1, xcm := cx.2.1, xnil := cx.2.2 }
  · have e1 : u.na = na := by rw [hu]
    have e2 : u.da = da := by rw [hu]
    have e3 : u.xa = xa := by rw [hu]
    have e4 : u.xn = v.xn := by rw [hu]
    refine ⟨by rw [e1]; exact ab_of_owns hn, by rw [e2]; exact ab_of_owns hd, by rw [e3]; exact ab_of_owns (own_up hx (by omega)), ?_⟩
    intro b off hxa j hj va vn vc hcell
    rw [e3] at hxa
    rw [e4] at hj
    subst hxa
    obtain ⟨g, c', hv, _, _⟩ := hx.form (by omega)
    obtain ⟨⟨rfl, rfl⟩, rfl⟩ : (b = g ∧ off = 0) ∧ xc = c' := by simpa using hv
    rw [Nat.zero_add, hx.cellAt _ (by omega), (xvs_get X' j (by rw [h.len]; exact hj)).2, ← gX_lt X' j (by rw [h.len]; exact hj)] at hcell
    have : va = (gX X' j).va := by simp at hcell; exact hcell.1.symm
    rw [this]
    exact ab_of_owns (hnew j hj).2.2
set_option maxRecDepth 100000 in
set_option maxHeartbeats 4000000 in
theorem copied_any (v : Nv) (x : Nod) (w : World) (hr : Rep w v x) (hL : Lean1 v x) :
    Calls Tryz.prog 44 #[.agg v.cells] w fun e w' => ∃ v', e = .returned (.agg v'.cells) ∧ Rep w' v' x ∧ Abv w' w.heap.size v' ∧ Below w.heap.size w w' := by
  obtain ⟨W0, hW0⟩ : ∃ W0, W0 = (w.alloc (.cells v.cells 37)).alloc (.cells #[.slice none 0 0, .int .i64 0, .int .i64 0, .int .i64 0, .int .i64 0, .int .i64 0, .slice none 0 0, .string ⟨#[]⟩, .slice none 0 0, .bool false] 37) := ⟨_, rfl⟩
  have b0 : Bk W0 w.heap.size v := by rw [hW0]; exact (bk_new w v).block (Below.heap_alloc _ _ _ (by simp))
  have r0 : Bk W0 (w.heap.size + 1) nv0 := by rw [hW0]; have := bk_new (w.alloc (.cells v.cells 37)) nv0; rw [World.size_alloc] at this; exact this
  have e0 : Below w.heap.size w W0 := by rw [hW0]; exact below_alloc2 w _ _
  have s0 : W0.heap.size = w.heap.size + 2 := by rw [hW0]; simp
  -- names
  obtain ⟨na, nc, w1, run1, own1, gr1⟩ := clone_strs W0 32 v.na v.nn v.nc x.names (hr.below e0).names hr.nnil hL.nn
  have z1 := gr1.size
  have b1 := b0.block (gr1.block _ (by omega) (by simp))
  obtain ⟨w1', hw1'⟩ : ∃ w1', w1' = w1.setCell ⟨w.heap.size, 0, none⟩ (.slice na v.nn nc) := ⟨_, rfl⟩
  have b1' : Bk w1' w.heap.size { v with na := na, nc := nc } := by rw [hw1']; exact b1.set0 na v.nn nc
  have k1s : KeepT 9 w1 w1' := by rw [hw1']; exact b1.keepT _ (by decide) _
  have z1' : w1'.heap.size = w1.heap.size := by rw [hw1']; simp
  have r1' : Bk w1' (w.heap.size + 1) nv0 := by rw [hw1']; exact (r0.block (gr1.block _ (by omega) (by simp))).block (set_other _ _ _ _ _ (by omega))
  have e1' : Below w.heap.size w w1' := by rw [hw1']; exact (e0.trans (grownBy_below gr1 (by omega))).setCell (Nat.le_refl _) _
  have own1' := k1s.owns (own_up own1 (show w.heap.size ≤ W0.heap.size by omega))
  -- data
  obtain ⟨da, dc, w2, run2, own2, gr2⟩ := clone_bytes w1' 25 v.da v.dn v.dc x.data (hr.below e1').data hr.dnil hL.dn
  have z2 := gr2.size
  have b2 := b1'.block (gr2.block _ (by omega) (by simp))
  obtain ⟨w2', hw2'⟩ : ∃ w2', w2' = w2.setCell ⟨w.heap.size, 6, none⟩ (.slice da v.dn dc) := ⟨_, rfl⟩
  have b2' : Bk w2' w.heap.size { v with na := na, nc := nc, da := da, dc := dc } := by rw [hw2']; exact b2.set6 da v.dn dc
  have z2' : w2'.heap.size = w2.heap.size := by rw [hw2']; simp
  have r2' : Bk w2' (w.heap.size + 1) nv0 := by rw [hw2']; exact (r1'.block (gr2.block _ (by omega) (by simp))).block (set_other _ _ _ _ _ (by omega))
  have e2' : Below w.heap.size w w2' := by rw [hw2']; exact (e1'.trans (grownBy_below gr2 (by omega))).setCell (Nat.le_refl _) _
  have own2' : w2'.ownsRow w.heap.size 5 1 (.slice da v.dn dc) v.dn (bv x.data) := by rw [hw2']; exact (b2.keepT _ (by decide) _).owns (own_up own2 (by omega))
  have own1'' : w2'.ownsRow w.heap.size 9 1 (.slice na v.nn nc) v.nn (sv x.names) := by rw [hw2']; exact (b2.keepT _ (by decide) _).owns ((KeepT.grownN gr2).owns own1')
  -- attributes
  obtain ⟨X, hXl, hXr, hXc0⟩ := hr.xs.xv
  have hXc : v.xn = 0 ∨ ∃ b off, v.xa = some ⟨b, off, none⟩ ∧ ∀ j u, (xvs X)[j]? = some u → w2'.cell? ⟨b, off + j, none⟩ = some u := by
    rcases hXc0 with h0 | ⟨b, off, h1, h2⟩
    · exact .inl h0
    · exact .inr ⟨b, off, h1, fun j u hu => (e2'.cell (p := ⟨b, off + j, none⟩) (World.block_lt_of_cell? w _ (h2 j u hu))).trans (h2 j u hu)⟩
  obtain ⟨xa, xc, w3, run3, own3, gr3⟩ := clone_xats w2' 35 v.xa v.xn v.xc X hXl hXc hr.xnil hL.xn
  have z3 := gr3.size
  have b3 := b2'.block (gr3.block _ (by omega) (by simp))
  obtain ⟨w3', hw3'⟩ : ∃ w3', w3' = w3.setCell ⟨w.heap.size, 8, none⟩ (.slice xa v.xn xc) := ⟨_, rfl⟩
  have b3' : Bk w3' w.heap.size { v with na := na, nc := nc, da := da, dc := dc, xa := xa, xc := xc } := by rw [hw3']; exact b3.set8 xa v.xn xc
  have z3' : w3'.heap.size = w3.heap.size := by rw [hw3']; simp
  have r3' : Bk w3' (w.heap.size + 1) nv0 := by rw [hw3']; exact (r2'.block (gr3.block _ (by omega) (by simp))).block (set_other _ _ _ _ _ (by omega))
  have e3' : Below w.heap.size w w3' := by rw [hw3']; exact (e2'.trans (grownBy_below gr3 (by omega))).setCell (Nat.le_refl _) _
  have M0 : Mid w w3' v x na da xa nc dc xc X X 0 := by
    refine ⟨b3', r3', e3', ?_, ?_, ?_, hXl, fun j _ => rfl, fun j hj => by omega⟩
    · rw [hw3']; exact (b3.keepT _ (by decide) _).owns ((KeepT.grownN gr3).owns own1'')
    · rw [hw3']; exact (b3.keepT _ (by decide) _).owns ((KeepT.grownN gr3).owns own2')
    · rw [hw3']; exact (b3.keepT _ (by decide) _).owns (own_up own3 (by omega))
  have HM0 := hide M0
  have HXR : Hid (∀ wr, Below w.heap.size w wr → ∀ i, i < v.xn → XRep wr (gX X i) (gx x.xs i)) := by
    intro wr hb i hi
    obtain ⟨q1, q2, q3⟩ := hXr i hi
    exact ⟨q1, q2.below hb, q3⟩
  obtain ⟨_, a0, a1, a2, a3, a4, a5, a6, a7, a8, a9⟩ := b1.box
  obtain ⟨_, c0, c1, c2, c3, c4, c5, c6, c7, c8, c9⟩ := b2.box
  obtain ⟨_, d0, d1, d2, d3, d4, d5, d6, d7, d8, d9⟩ := b3.box
  have f0 := b1.frozen 0
  have f6 := b2.frozen 6
  have f8 := b3.frozen 8
  have HW3 := hide hw3'
  rw [hW0] at run1
  rw [hw1'] at run2
  rw [hw2'] at run3
  simp only [Nv.cells] at run1
  have hxl : v.xn ≤ 1000000 := hL.xn
  have HL1 := hide hL
  have HR := hide hr
  clear hr b0 r0 e0 s0 own1 gr1 z1 b1 hw1' b1' k1s z1' r1' e1' own1' own2 gr2 z2 b2 hw2' b2' z2' r2' e2' own2' own1'' hXr hXc hXc0 own3 gr3 z3 b3 hw3' b3' z3' r3' e3' M0 hW0 hL
  simp only [Nv.cells]
  go_enter Tryz.func44, Tryz.ntmps44
  go_wp2_with (at_builtin; first
    | refine wpList_append_run rfl _ _ _ rfl _ _ _ rfl rfl run1 ?_
    | refine wpList_append_run rfl _ _ _ rfl _ _ _ rfl rfl run2 ?_
    | refine wpList_append_run rfl _ _ _ rfl _ _ _ rfl rfl run3 ?_)
  rw [← HW3.out]
  go_loopw [3, 19] (fun _ r wr => ∃ (i : Nat) (X' : List Xv), r = .int .i64 i ∧ i ≤ v.xn ∧ Mid w wr v x na da xa nc dc xc X X' i) (fun _ r _ => v.xn - (intOf r).toNat)
  case atStart => exact ⟨0, X, rfl, Nat.zero_le _, HM0.out⟩
  case round =>
    obtain ⟨i, X', rfl, hi0, hm⟩ := hrel
    have HM := hide hm
    by_cases hi : i < v.xn
    · have hd : decide ((i : Int) < v.xn) = true := by simpa using hi
      clear run1 run2 run3 a0 a1 a2 a3 a4 a5 a6 a7 a8 a9 c0 c1 c2 c3 c4 c5 c6 c7 c8 c9 d0 d1 d2 d3 d4 d5 d6 d7 d8 d9 f0 f6 f8 HW3 HM0
      obtain ⟨g, xc', hv, hgB, hgl⟩ := hm.row.form (by omega)
      obtain ⟨rfl, _, rfl⟩ : xa = some ⟨g, 0, none⟩ ∧ v.xn = v.xn ∧ xc = xc' := by simpa using hv
      have p8 := hm.bk.box.c8
      have hcv : wr.cell? ⟨g, i * 2 + 1, none⟩ = some (.slice (gX X i).va (gX X i).vn (gX X i).vc) := by
        rw [hm.row.cellAt _ (by omega), (xvs_get X' i (by rw [hm.len]; exact hi)).2, ← gX_lt X' i (by rw [hm.len]; exact hi), hm.old i (Nat.le_refl _)]
      obtain ⟨q1, q2, q3, q4, q5, q6⟩ := HXR.out wr hm.bel i hi
      have hvb : (gX X i).vn ≤ 1000000 := by
        rw [← q2.1]
        have hmem : gx x.xs i ∈ x.xs := by rw [gx_lt _ _ (by have := HR.out.xs.1; omega)]; exact List.getElem_mem _
        exact HL1.out.xv _ hmem
      obtain ⟨a5, k5, w5, run5, own5, gr5⟩ := clone_bytes wr.drew 25 (gX X i).va (gX X i).vn (gX X i).vc (gx x.xs i).2 q2 q5 hvb
      have HST := hide (hm.step hi gr5 a5 _ k5 own5 rfl)
      have m8 : w5.cell? ⟨w.heap.size, 8, none⟩ = some (.slice (some ⟨g, 0, none⟩) v.xn xc) := (hm.bk.block (gr5.block _ (heap_lt hm.bk) (by simp))).box.c8
      have row5 : w5.ownsRow (w.heap.size + 2) 144 2 (.slice (some ⟨g, 0, none⟩) v.xn xc) v.xn (xvs X') := (KeepT.grownN gr5).owns (show wr.drew.ownsRow _ _ _ _ _ _ from hm.row)
      have mcv : w5.cell? ⟨g, i * 2 + 1, none⟩ = some (.slice (gX X i).va (gX X i).vn (gX X i).vc) := by
        rw [row5.cellAt _ (by omega), (xvs_get X' i (by rw [hm.len]; exact hi)).2, ← gX_lt X' i (by rw [hm.len]; exact hi), hm.old i (Nat.le_refl _)]
      have mfz : w5.frozen? ⟨g, i * 2 + 1, none⟩ = false := row5.frozenAt _
      have hi1 : (i : Int) < v.xn := by omega
      clear hm own5 gr5 row5 hv q2
      go_wp2
      go_region_law ((refine step_append_run rfl _ _ _ rfl _ _ _ rfl rfl run5 ?_))
      all_goals (
        go_wp2
        exact ⟨⟨i + 1, _, by go_num, by omega, HST.out⟩, by simp [intOf]; omega⟩)
    · have hd : decide ((i : Int) < v.xn) = false := by simpa using hi
      clear run1 run2 run3 a0 a1 a2 a3 a4 a5 a6 a7 a8 a9 c0 c1 c2 c3 c4 c5 c6 c7 c8 c9 d0 d1 d2 d3 d4 d5 d6 d7 d8 d9 f0 f6 f8 HW3 HM0
      obtain ⟨_, p0, p1, p2, p3, p4, p5, p6, p7, p8, p9⟩ := hm.bk.box
      obtain ⟨_, t0, t1, t2, t3, t4, t5, t6, t7, t8, t9⟩ := hm.rb.box
      have z0 := hm.rb.frozen 0
      have z1 := hm.rb.frozen 1
      have z2 := hm.rb.frozen 2
      have z3 := hm.rb.frozen 3
      have z4 := hm.rb.frozen 4
      have z5 := hm.rb.frozen 5
      have z6 := hm.rb.frozen 6
      have z7 := hm.rb.frozen 7
      have z8 := hm.rb.frozen 8
      have z9 := hm.rb.frozen 9
      clear hm
      have HN : Hid (i = v.xn) := by show _ = _; omega
      go_wp2_with fail
      obtain ⟨u, hu⟩ : ∃ u : Nv, u = { v with na := na, nc := nc, da := da, dc := dc, xa := xa, xc := xc } := ⟨_, rfl⟩
      obtain ⟨w9, hw9⟩ : ∃ w9, w9 = put10 wr (w.heap.size + 1) u := ⟨_, rfl⟩
      have hb9 : Bk w9 (w.heap.size + 1) u := by rw [hw9]; exact HM.out.rb.put10 u
      have FIN : Hid (Rep w9 u x ∧ Abv w9 w.heap.size u ∧ Below w.heap.size w w9) := by
        rw [hw9]
        exact HM.out.fin HR.out HXR.out HN.out u hu
      obtain ⟨_, m0, m1, m2, m3, m4, m5, m6, m7, m8, m9⟩ := hb9.box
      have hw9' := hw9
      unfold put10 at hw9'
      rw [hu] at hw9' m0 m1 m2 m3 m4 m5 m6 m7 m8 m9
      simp only at hw9' m0 m1 m2 m3 m4 m5 m6 m7 m8 m9
      rw [← hw9']
      refine bodyPost_ret (v := .agg #[.slice na v.nn nc, .int .i64 v.ino, .int .i64 v.kind, .int .i64 v.mode, .int .i64 v.uid, .int .i64 v.gid, .slice da v.dn dc, .string v.tg, .slice xa v.xn xc, .bool v.op]) (by simp [results, Tryz.results44, go_sem, m0, m1, m2, m3, m4, m5, m6, m7, m8, m9]) rfl ?_
      exact ⟨u, by rw [hu], FIN.out.1, FIN.out.2.1, FIN.out.2.2⟩
end Go.Proofs.YtchcejjoncihkaaGreatDoor

/- Layer 6: the walks of what compares rows of names: slices.Compare and Equal, Less, Same, Below, and the reference's. -/
namespace Go.Proofs.YtchcejjoncihkaaGreatDoor
set_option linter.unusedVariables false
open Go.RowKit Go.Maps
open Nam

theorem cmp_nil_left (k : List (List UInt8)) : cmp [] k = if 0 < k.length then -1 else 0 := by cases k <;> simp [cmp]
theorem drop_all {l : List ByteArray} {i : Nat} (h : l.length ≤ i) : (nm l).drop i = [] := List.drop_eq_nil_of_le (by rw [nm_length]; exact h)
set_option maxRecDepth 100000 in
theorem Compare_any (a b : Option Addr) (n c m d : Nat) (l k : List ByteArray) (w : World) (hl : Rs w a n l) (hk : Rs w b m k) (hn : n ≤ 1000000) (hm : m ≤ 1000000) :
    Calls Tryz.prog 163 #[.slice a n c, .slice b m d] w fun e w' => e = .returned (.int .i64 (cmp (nm l) (nm k))) ∧ ∃ q, w' = w.drewN q := by
  have HL := hide hl
  have HK := hide hk
  have hln := hl.1
  have hkn := hk.1
  have HLN := hide hln
  have HKN := hide hkn
  clear hl hk hln hkn
  go_enter Tryz.func163, Tryz.ntmps163
  go_wp2
  go_loopw [5, 6, 7, 8, 11] (fun _ _ _ _ r wr => ∃ i : Nat, wr = w ∧ r = .int .i64 i ∧ i ≤ n ∧ cmp (nm l) (nm k) = cmp ((nm l).drop i) ((nm k).drop i)) (fun _ _ _ _ r _ => n - (intOf r).toNat)
  case atStart => exact ⟨0, rfl, rfl, Nat.zero_le _, rfl⟩
  case round =>
    obtain ⟨i, rfl, rfl, hi0, hinv⟩ := hrel
    have HI := hide hinv
    clear hinv
    by_cases hp : i < n
    · have hd : decide ((i : Int) < n) = true := by simpa using hp
      obtain ⟨ba, oa, rfl, hba, hca⟩ := HL.out.at (by omega)
      have c1 := hca i hp
      have e1 := nm_drop l i (by rw [HLN.out]; exact hp)
      have E1 := hide e1
      clear hca e1
      by_cases hq : i < m
      · have hd2 : decide ((m : Int) ≤ i) = false := by simp; omega
        obtain ⟨bb, ob, rfl, hbb, hcb⟩ := HK.out.at (by omega)
        have c2 := hcb i hq
        have e2 := nm_drop k i (by rw [HKN.out]; exact hq)
        have E2 := hide e2
        clear hcb e2
        go_wp2_with (go_at_call 207; refine (cmp_any _ _ _).mono ?_; rintro e w' ⟨rfl, rfl⟩)
        · have e : (cmp1 (gs l i).toList (gs k i).toList != 0) = true := by assumption
          go_ret
          refine ⟨ret_int ?_, 0, rfl⟩
          rw [HI.out, E1.out, E2.out, cmp, if_neg (by simpa using e)]
        · have e : (cmp1 (gs l i).toList (gs k i).toList != 0) = false := by assumption
          refine ⟨⟨i + 1, trivial, by go_num, by omega, ?_⟩, by simp [intOf]; omega⟩
          rw [HI.out, E1.out, E2.out, cmp, if_pos (by simpa using e)]
      · have hd2 : decide ((m : Int) ≤ i) = true := by simp; omega
        go_wp2
        go_ret
        refine ⟨ret_int ?_, 0, rfl⟩
        rw [HI.out, E1.out, drop_all (l := k) (by rw [HKN.out]; omega)]; rfl
    · have hd : decide ((i : Int) < n) = false := by simpa using hp
      have e := cmp_nil_left ((nm k).drop i)
      rw [← drop_all (l := l) (i := i) (by rw [HLN.out]; omega), List.length_drop, nm_length, HKN.out] at e
      have E := hide e
      clear e
      go_wp2
      · have h : n < m := by assumption
        go_ret
        refine ⟨ret_int ?_, 0, rfl⟩
        rw [HI.out, E.out, if_pos (by omega)]
      · have h : ¬ n < m := by assumption
        go_ret
        refine ⟨ret_int ?_, 0, rfl⟩
        rw [HI.out, E.out, if_neg (by omega)]
theorem Less_any (a b : Option Addr) (n c m d : Nat) (l k : List ByteArray) (w : World) (hl : Rs w a n l) (hk : Rs w b m k) (hn : n ≤ 1000000) (hm : m ≤ 1000000) :
    Calls Tryz.prog 108 #[.slice a n c, .slice b m d] w fun e w' => e = .returned (.bool (less (nm l) (nm k))) ∧ ∃ q, w' = w.drewN q := by
  have H := hide (Compare_any a b n c m d l k w hl hk hn hm)
  have HE := hide (cmp_less (nm l) (nm k))
  clear hl hk
  go_enter Tryz.func108, Tryz.ntmps108
  go_wp2_with (go_at_call 163; refine H.out.mono ?_; rintro e w' ⟨rfl, q, rfl⟩)
  go_ret
  exact ⟨ret_bool HE.out, _, rfl⟩
/-- The last names of two rows, held against each other. -/
theorem eq_step {l k : List ByteArray} {i : Nat} (h : i < l.length) (h' : i < k.length) : (nm l).drop i = (nm k).drop i ↔ (gs l i).toList = (gs k i).toList ∧ (nm l).drop (i + 1) = (nm k).drop (i + 1) := by
  rw [nm_drop l i h, nm_drop k i h', List.cons.injEq]
set_option maxRecDepth 100000 in
theorem Equal_any (a b : Option Addr) (n c m d : Nat) (l k : List ByteArray) (w : World) (hl : Rs w a n l) (hk : Rs w b m k) (hn : n ≤ 1000000) (hm : m ≤ 1000000) :
    Calls Tryz.prog 248 #[.slice a n c, .slice b m d] w fun e w' => e = .returned (.bool (decide (nm l = nm k))) ∧ ∃ q, w' = w.drewN q := by
  have HL := hide hl
  have HK := hide hk
  have HLN := hide hl.1
  have HKN := hide hk.1
  clear hl hk
  by_cases hnm : n = m
  · subst hnm
    go_enter Tryz.func248, Tryz.ntmps248
    go_wp2
    go_loopw [5, 13] (fun _ r wr => ∃ i q : Nat, wr = w.drewN q ∧ r = .int .i64 i ∧ i ≤ n ∧ (nm l = nm k ↔ (nm l).drop i = (nm k).drop i)) (fun _ r _ => n - (intOf r).toNat)
    case atStart => exact ⟨0, 0, rfl, rfl, Nat.zero_le _, Iff.rfl⟩
    case round =>
      obtain ⟨i, q, rfl, rfl, hi0, hinv⟩ := hrel
      have HI := hide hinv
      clear hinv
      by_cases hp : i < n
      · have hd : decide ((i : Int) < n) = true := by simpa using hp
        obtain ⟨ba, oa, rfl, hba, hca⟩ := HL.out.at (by omega)
        obtain ⟨bb, ob, rfl, hbb, hcb⟩ := HK.out.at (by omega)
        have c1 := hca i hp
        have c2 := hcb i hp
        have ES := hide (eq_step (l := l) (k := k) (i := i) (by rw [HLN.out]; exact hp) (by rw [HKN.out]; exact hp))
        clear hca hcb
        go_wp2
        go_quiet (fail)
        go_wp2
        · have e : (!(gs l i).toList == (gs k i).toList) = true := by assumption
          go_ret
          refine ⟨ret_bool ?_, dr2 _ _ _⟩
          symm
          rw [decide_eq_false_iff_not, HI.out, ES.out]
          intro h
          rw [h.1] at e
          simp at e
        · have e : (!(gs l i).toList == (gs k i).toList) = false := by assumption
          refine ⟨⟨i + 1, _, rfl, by go_num, by omega, ?_⟩, by simp [intOf]; omega⟩
          rw [HI.out, ES.out]
          have : (gs l i).toList = (gs k i).toList := by simpa using e
          simp [this]
      · have hd : decide ((i : Int) < n) = false := by simpa using hp
        go_wp2
        go_ret
        refine ⟨ret_bool ?_, q, rfl⟩
        symm
        rw [decide_eq_true_eq, HI.out, drop_all (l := l) (by rw [HLN.out]; omega), drop_all (l := k) (by rw [HKN.out]; omega)]
  · have hnm' : ((n : Int) != m) = true := by simp; omega
    have hne : Hid (false = decide (nm l = nm k)) := by
      show _ = _
      symm
      rw [decide_eq_false_iff_not]
      intro h
      have := congrArg List.length h
      rw [nm_length, nm_length, HLN.out, HKN.out] at this
      exact hnm this
    go_enter Tryz.func248, Tryz.ntmps248
    go_wp2
    go_ret
    exact ⟨ret_bool hne.out, 0, rfl⟩
theorem Same_any (a b : Option Addr) (n c m d : Nat) (l k : List ByteArray) (w : World) (hl : Rs w a n l) (hk : Rs w b m k) (hn : n ≤ 1000000) (hm : m ≤ 1000000) :
    Calls Tryz.prog 238 #[.slice a n c, .slice b m d] w fun e w' => e = .returned (.bool (decide (nm l = nm k))) ∧ ∃ q, w' = w.drewN q := by
  have H := hide (Equal_any a b n c m d l k w hl hk hn hm)
  clear hl hk
  go_enter Tryz.func238, Tryz.ntmps238
  go_wp2_with (go_at_call 248; refine H.out.mono ?_; rintro e w' ⟨rfl, q, rfl⟩)
  go_ret
  exact ⟨rfl, _, rfl⟩
theorem below_eq {l k : List ByteArray} {m : Nat} (h : k.length = m) (hlt : m < l.length) : decide (nm (l.take m) = nm k) = below (nm l) (nm k) := by
  rw [below, nm_length, nm_length, h, decide_eq_true hlt, Bool.true_and, nm_take]
theorem below_short {l k : List ByteArray} (h : ¬ k.length < l.length) : false = below (nm l) (nm k) := by
  rw [below, nm_length, nm_length, decide_eq_false h]; rfl
theorem Below_any (a b : Option Addr) (n c m d : Nat) (l k : List ByteArray) (w : World) (hl : Rs w a n l) (hk : Rs w b m k) (hn : n ≤ 1000000) (hm : m ≤ 1000000) (hc : n ≤ c) (hcm : c ≤ 9223372036854775807) :
    Calls Tryz.prog 216 #[.slice a n c, .slice b m d] w fun e w' => e = .returned (.bool (below (nm l) (nm k))) ∧ ∃ q, w' = w.drewN q := by
  by_cases hlt : m < n
  · have hd : decide ((m : Int) < n) = true := by simpa using hlt
    have H := hide (Same_any a b m c m d (l.take m) k w (hl.take m (by omega)) hk hm hm)
    have HE := hide (below_eq (l := l) (k := k) hk.1 (by rw [hl.1]; exact hlt))
    clear hl hk
    go_enter Tryz.func216, Tryz.ntmps216
    go_wp2_with (go_at_call 238; refine H.out.mono ?_; rintro e w' ⟨rfl, q, rfl⟩)
    go_ret
    exact ⟨ret_bool HE.out, _, rfl⟩
  · have hd : decide ((m : Int) < n) = false := by simpa using hlt
    have HE := hide (below_short (l := l) (k := k) (by rw [hl.1, hk.1]; exact hlt))
    clear hl hk
    go_enter Tryz.func216, Tryz.ntmps216
    go_wp2
    go_ret
    exact ⟨ret_bool HE.out, 0, rfl⟩

/-! ### The reference's -/

theorem less_end_right (l : List (List UInt8)) : less l [] = false := by cases l <;> rfl
end Go.Proofs.YtchcejjoncihkaaGreatDoor

/- Layer 7: a row of nodes put in order by slices.SortFunc and byNames. -/
namespace Go.Proofs.YtchcejjoncihkaaGreatDoor
set_option linter.unusedVariables false
open Go.RowKit Go.Maps
open Nam Tre

namespace Tre
/-- Whether a node stands ahead of another one. -/
def ltn (a b : Nod) : Bool := less (nm a.names) (nm b.names)
/-- byNames' answer. -/
def cmpn (a b : Nod) : Int := if ltn a b = true then -1 else if ltn b a = true then 1 else 0
theorem ltn_cmpn (a b : Nod) : decide (cmpn a b < 0) = ltn a b := by
  unfold cmpn
  cases h : ltn a b with
  | true => simp
  | false => cases h2 : ltn b a <;> simp
theorem less_ntrans (a b c : List (List UInt8)) (h : less a b = false) (k : less b c = false) : less a c = false := by
  cases h3 : less a c with
  | false => rfl
  | true =>
    by_cases e : a = b
    · subst e; rw [h3] at k; exact k
    · rcases less_total a b e with q | q
      · rw [q] at h; cases h
      · have := less_trans b a c q h3
        rw [this] at k; cases k
end Tre
set_option maxRecDepth 100000 in
theorem byNames_any (v u : Nv) (x y : Nod) (W : World) (hv : Rs W v.na v.nn x.names) (hu : Rs W u.na u.nn y.names) (h1 : v.nn ≤ 1000000) (h2 : u.nn ≤ 1000000) :
    Calls Tryz.prog 46 #[.agg v.cells, .agg u.cells] W fun e w' => e = .returned (.int .i64 (cmpn x y)) ∧ ∃ q os, w' = Go.Sort.grow (W.drewN q) os := by
  have C1 : Hid (∀ k, Calls Tryz.prog 108 #[.slice v.na v.nn v.nc, .slice u.na u.nn u.nc] (((W.alloc (.cells v.cells 37)).alloc (.cells u.cells 37)).drewN k) fun e w' => e = .returned (.bool (ltn x y)) ∧ ∃ q, w' = (((W.alloc (.cells v.cells 37)).alloc (.cells u.cells 37)).drewN k).drewN q) := fun k =>
    Less_any _ _ _ _ _ _ x.names y.names _ ((hv.below (below_alloc2 W _ _)).drewN k) ((hu.below (below_alloc2 W _ _)).drewN k) h1 h2
  have C2 : Hid (∀ k, Calls Tryz.prog 108 #[.slice u.na u.nn u.nc, .slice v.na v.nn v.nc] (((W.alloc (.cells v.cells 37)).alloc (.cells u.cells 37)).drewN k) fun e w' => e = .returned (.bool (ltn y x)) ∧ ∃ q, w' = (((W.alloc (.cells v.cells 37)).alloc (.cells u.cells 37)).drewN k).drewN q) := fun k =>
    Less_any _ _ _ _ _ _ y.names x.names _ ((hu.below (below_alloc2 W _ _)).drewN k) ((hv.below (below_alloc2 W _ _)).drewN k) h2 h1
  have GW : Hid (∀ k, ∃ q os, ((W.alloc (.cells v.cells 37)).alloc (.cells u.cells 37)).drewN k = Go.Sort.grow (W.drewN q) os) := fun k => ⟨k, _, by rw [Go.Sort.alloc_eq_grow, Go.Sort.alloc_eq_grow, Go.Sort.grow_grow]; rfl⟩
  have HC := hide (show cmpn x y = if ltn x y = true then -1 else if ltn y x = true then 1 else 0 from rfl)
  obtain ⟨a, ha⟩ : ∃ q, ltn x y = q := ⟨_, rfl⟩
  obtain ⟨b, hb⟩ : ∃ q, ltn y x = q := ⟨_, rfl⟩
  rw [ha] at C1 HC
  rw [hb] at C2 HC
  have C10 := hide (C1.out 0)
  clear hv hu ha hb C1
  simp only [Nv.cells] at *
  cases a with
  | true =>
    go_enter Tryz.func46, Tryz.ntmps46
    go_wp2_with (go_at_call 108; refine C10.out.mono ?_; rintro e w' ⟨rfl, q, rfl⟩)
    go_ret
    exact ⟨ret_int (by rw [HC.out]; rfl), GW.out _⟩
  | false =>
    go_enter Tryz.func46, Tryz.ntmps46
    go_wp2_with fail
    refine C10.out.mono ?_
    rintro e w' ⟨rfl, q, rfl⟩
    cases b with
    | true =>
      go_wp2_with fail
      refine (C2.out q).mono ?_
      rintro e w' ⟨rfl, q2, rfl⟩
      go_wp2
      go_ret
      exact ⟨ret_int (by rw [HC.out]; rfl), GW.out _⟩
    | false =>
      go_wp2_with fail
      refine (C2.out q).mono ?_
      rintro e w' ⟨rfl, q2, rfl⟩
      go_wp2
      go_ret
      exact ⟨ret_int (by rw [HC.out]; rfl), GW.out _⟩
/-- A node whose lists lie behind the row's block. -/
structure Good (w : World) (blk : Nat) (p : Nv × Nod) : Prop where
  rep : Rep w p.1 p.2
  abv : Abv w (blk + 1) p.1
  few : p.2.names.length ≤ 1000000
/-- Blocks that are there, but one, are as they were. -/
def But (blk : Nat) (w w' : World) : Prop := w.heap.size ≤ w'.heap.size ∧ ∀ i, i < w.heap.size → i ≠ blk → w'.heap[i]? = w.heap[i]?
theorem But.cell {blk : Nat} {w w' : World} (h : But blk w w') {b o : Nat} (hb : b < w.heap.size) (hne : b ≠ blk) : w'.cell? ⟨b, o, none⟩ = w.cell? ⟨b, o, none⟩ := World.cell?_of_block (h.2 b hb hne)
theorem But.rs {blk : Nat} {w w' : World} (h : But blk w w') {ao : Option Addr} {n : Nat} {l : List ByteArray} (hr : Rs w ao n l) (ha : Ab (blk + 1) ao) : Rs w' ao n l := by
  refine ⟨hr.1, ?_⟩
  rcases hr.2 with h0 | ⟨b, off, h1, h2, h3⟩
  · exact .inl h0
  · have hne : b ≠ blk := by have := ha _ h1; simp only at this; omega
    exact .inr ⟨b, off, h1, Nat.lt_of_lt_of_le h2 h.1, fun i hi => (h.cell h2 hne).trans (h3 i hi)⟩
theorem But.bs {blk : Nat} {w w' : World} (h : But blk w w') {ao : Option Addr} {n : Nat} {l : List Int} (hr : Bs w ao n l) (ha : Ab (blk + 1) ao) : Bs w' ao n l := by
  refine ⟨hr.1, hr.2.1, ?_⟩
  rcases hr.2.2 with h0 | ⟨b, off, h1, h2, h3⟩
  · exact .inl h0
  · have hne : b ≠ blk := by have := ha _ h1; simp only at this; omega
    exact .inr ⟨b, off, h1, Nat.lt_of_lt_of_le h2 h.1, fun i hi => (h.cell h2 hne).trans (h3 i hi)⟩
theorem Good.but {blk : Nat} {w w' : World} {p : Nv × Nod} (h : Good w blk p) (hb : But blk w w') : Good w' blk p := by
  have hx : XsR w' p.1.xa p.1.xn p.2.xs := by
    refine ⟨h.rep.xs.1, ?_⟩
    rcases h.rep.xs.2 with h0 | ⟨b, off, h1, h2, h3⟩
    · exact .inl h0
    · have hne : b ≠ blk := by have := h.abv.xa _ h1; simp only at this; omega
      refine .inr ⟨b, off, h1, Nat.lt_of_lt_of_le h2 hb.1, fun i hi => ?_⟩
      obtain ⟨c1, va, vn, vc, c2, c3, c4⟩ := h3 i hi
      exact ⟨(hb.cell h2 hne).trans c1, va, vn, vc, (hb.cell h2 hne).trans c2, hb.bs c3 (h.abv.xs b off h1 i hi va vn vc c2), c4⟩
  refine ⟨{ h.rep with names := hb.rs h.rep.names h.abv.na, data := hb.bs h.rep.data h.abv.da, xs := hx }, ⟨h.abv.na, h.abv.da, h.abv.xa, fun b off h1 i hi va vn vc hc => ?_⟩, h.few⟩
  rcases h.rep.xs.2 with h0 | ⟨b', off', h1', h2, _⟩
  · omega
  · rw [h1] at h1'
    obtain ⟨rfl, rfl⟩ : b = b' ∧ off = off' := by simpa using h1'
    have hne : b ≠ blk := by have := h.abv.xa _ h1; simp only at this; omega
    rw [hb.cell h2 hne] at hc
    exact h.abv.xs b off h1 i hi va vn vc hc
/-- Nodes' cells as the sort has them. -/
def encN {w : World} {blk : Nat} (x : { p : Nv × Nod // Good w blk p }) : List Value := x.val.1.cells.toList
theorem sort_but {w : World} {blk : Nat} [Inhabited { p : Nv × Nod // Good w blk p }] (dk : Array { p : Nv × Nod // Good w blk p }) (m : Nat) (os : Array Obj) : But blk w (sortWorldK encN 10 w blk 0 m dk os) := by
  unfold sortWorldK Go.Sort.putRowK
  refine ⟨by simp, fun i hi hne => ?_⟩
  rw [Go.Sort.heap_grow_old _ _ (by simpa using hi)]
  simp [Go.Sort.putRow, Go.Sort.mapBlock, Array.getElem?_modify, Ne.symm hne]
theorem swo_ltn {w : World} {blk : Nat} : Go.Sort.SWO (ltOf (fun x y : { p : Nv × Nod // Good w blk p } => cmpn x.val.2 y.val.2)) where
  irrefl x := by unfold ltOf; rw [ltn_cmpn]; exact less_irrefl _
  trans x y z h k := by unfold ltOf at *; rw [ltn_cmpn] at *; exact less_trans _ _ _ h k
  ntrans x y z h k := by unfold ltOf at *; rw [ltn_cmpn] at *; exact less_ntrans _ _ _ h k
theorem cmpLays {w : World} {blk n : Nat} [Inhabited { p : Nv × Nod // Good w blk p }] : CmpLays Tryz.prog 46 #[] (encN (w := w) (blk := blk)) 10 (fun x y => cmpn x.val.2 y.val.2) blk 0 n w := fun m os dk _ x y => by
  have hb := sort_but dk m os
  have hx := x.property.but hb
  have hy := y.property.but hb
  have h := byNames_any x.val.1 y.val.1 x.val.2 y.val.2 (sortWorldK encN 10 w blk 0 m dk os) hx.rep.names hy.rep.names (by rw [← hx.rep.names.1]; exact hx.few) (by rw [← hy.rep.names.1]; exact hy.few)
  exact h
theorem isAggN : ∀ w, (isAgg 37).run Tryz.prog w = .ok true w := Tryz.isAgg37
theorem sizeOfN : ∀ w, (Go.sizeOf 37).run Tryz.prog w = .ok 10 w := Tryz.sizeOf37
theorem nvs_flat (V : List Nv) (t : Nat) (h : t < V.length * 10) : (nvs V)[t]? = ((V[t / 10]'(by omega)).cells.toList)[t % 10]? := by
  have e : t = t / 10 * 10 + t % 10 := by omega
  conv => lhs; rw [e]
  exact nvs_get V (t / 10) (t % 10) (by omega) (by omega)
theorem enc_one (v : Nv) : ∀ u ∈ v.cells.toList, u.oneCell' = true := by
  intro u hu
  exact nvs_one [v] u (by simpa [nvs] using hu)
theorem arr_get {α : Type} [Inhabited α] (l : List α) (i : Nat) (h : i < l.length) : (l.toArray)[i]! = l[i] := by
  rw [getElem!_pos l.toArray i (by simpa using h)]; simp
theorem get_some {l : List Value} {i : Nat} (h : i < l.length) : l[i]? = some l[i]! := by
  rw [List.getElem?_eq_getElem h, getElem!_pos l i h]
set_option maxRecDepth 100000 in
/-- A row of nodes put in order. -/
theorem SortNodes_any (blk n cap B : Nat) (L : List (Nv × Nod)) (w : World) (hown : w.ownsRow B 37 10 (.slice (some ⟨blk, 0, none⟩) n cap) n (nvs (L.map (·.1)))) (hn : 0 < n) (hn2 : n ≤ 1000000) (hg : ∀ p ∈ L, Good w blk p) :
    Calls Tryz.prog 45 #[.slice (some ⟨blk, 0, none⟩) n cap, .func (.func 46) #[] #[]] w fun e w' => e = .returned (.tuple #[]) ∧ ∃ L' : List (Nv × Nod), L'.Perm L ∧ L'.Pairwise (fun p q => ltn q.2 p.2 = false) ∧
      w'.ownsRow B 37 10 (.slice (some ⟨blk, 0, none⟩) n cap) n (nvs (L'.map (·.1))) ∧ (∀ p ∈ L', Good w' blk p) ∧ But blk w w' ∧ w'.os = w.os ∧ w'.tape = w.tape ∧ w'.output = w.output := by
  have hLl : L.length = n := by have := hown.1; rw [nvs_length, List.length_map] at this; omega
  obtain ⟨l, hl, hll⟩ : ∃ l : List { p : Nv × Nod // Good w blk p }, l.map (·.val) = L ∧ l.length = n := by
    refine ⟨L.attach.map (fun q => ⟨q.1, hg q.1 q.2⟩), ?_, by simp [hLl]⟩
    rw [List.map_map]
    exact List.attach_map_subtype_val L
  haveI : Inhabited { p : Nv × Nod // Good w blk p } := ⟨l[0]'(by omega)⟩
  have hblk : blk < w.heap.size := (hown.lt blk rfl).2
  have hcellsL : L.map (·.1) = l.map (fun x => x.val.1) := by rw [← hl, List.map_map]; rfl
  have hH : Go.Sort.HoldsK encN 10 w blk 0 l.toArray := by
    intro j hj
    rw [Go.Sort.size_flatK] at hj
    simp only [List.size_toArray, hll] at hj
    rw [Go.Sort.get_flatK _ _ _ _ (by simpa [hll] using hj), Nat.zero_add]
    refine ⟨?_, hown.frozenAt j⟩
    rw [hown.cellAt j hj, hcellsL, nvs_flat _ j (by rw [List.length_map, hll]; exact hj), arr_get l (j / 10) (by omega)]
    simp only [List.getElem_map]
    exact get_some (by rw [cells_length]; omega)
  have hcon := AnyQ.slices_SortFunc sortNd 10 isAggN sizeOfN (encN (w := w) (blk := blk)) (fun x => cells_length x.val.1) (fun x v hv => enc_one x.val.1 v hv) (fun x y => cmpn x.val.2 y.val.2) swo_ltn 46 #[] blk 0 cap l.toArray w (enters_of Tryz.func46 (by kernel_rfl) rfl) cmpLays hH hblk (by simp [hll]; omega)
  have e1 : (l.toArray).size = n := by simp [hll]
  rw [e1] at hcon
  change Calls Tryz.prog 45 _ _ _ at hcon
  refine hcon.mono ?_
  rintro e w' ⟨rfl, d', m, os, hp, hs, rfl⟩
  obtain ⟨hp1, _, hp3⟩ := hp
  have hds : d'.size = n := by rw [hp1]; exact e1
  have hdl : d'.toList.length = n := by simpa using hds
  have hperm : d'.toList.Perm l := by
    have x1 : d'.extract 0 n = d' := by rw [← hds]; simp
    have x2 : l.toArray.extract 0 n = l.toArray := by rw [← e1]; simp
    rw [x1, x2] at hp3
    exact hp3
  have hbut := sort_but d' m os
  have hV : (d'.toList.map (·.val)).map (·.1) = d'.toList.map (fun x => x.val.1) := by rw [List.map_map]; rfl
  refine ⟨rfl, d'.toList.map (·.val), ?_, ?_, ?_, ?_, hbut, rfl, rfl, rfl⟩
  · rw [← hl]; exact hperm.map _
  · rw [List.pairwise_map, List.pairwise_iff_getElem]
    intro i j hi hj hij
    have := hs i j (Nat.zero_le _) hij (by omega)
    unfold ltOf at this
    rw [ltn_cmpn, getElem!_pos d' i (by omega), getElem!_pos d' j (by omega)] at this
    simpa using this
  · obtain ⟨g, cap', cur, hv, hb, hh, h1, h2, h3, h4⟩ : ∃ g cap' cur, (Value.slice (some ⟨blk, 0, none⟩) n cap) = .slice (some ⟨g, 0, none⟩) n cap' ∧ B ≤ g ∧ w.heap[g]? = some (.cells cur 37 (0, 0)) ∧ n ≤ cap' ∧ cap' ≤ maxLen ∧ cur.size = cap' * 10 ∧ cur.toList.take (n * 10) = nvs (L.map (·.1)) := by
      rcases hown.2 with ⟨h0, _⟩ | h0
      · simp at h0
      · exact h0
    obtain ⟨rfl, rfl⟩ : blk = g ∧ cap = cap' := by simpa using hv
    refine ⟨by rw [nvs_length, List.length_map, List.length_map, hdl], .inr ⟨blk, cap, Go.Sort.putCells id 0 (Go.Sort.flatK encN 10 d') cur, rfl, hb, ?_, h1, h2, by simp [Go.Sort.putCells, h3], ?_⟩⟩
    · unfold sortWorldK Go.Sort.putRowK
      rw [Go.Sort.heap_grow_old _ _ (by simpa using hblk)]
      simp [Go.Sort.putRow, Go.Sort.mapBlock, Array.getElem?_modify, hh, Go.Sort.onCells]
    · apply List.ext_getElem?
      intro t
      by_cases ht : t < n * 10
      · have htc : t < cur.size := by rw [h3]; have := Nat.mul_le_mul_right 10 h1; omega
        rw [List.getElem?_take_of_lt ht, hV, nvs_flat _ t (by rw [List.length_map, hdl]; exact ht)]
        have hfl : t < d'.size * 10 := by rw [hds]; exact ht
        simp only [Go.Sort.putCells, Array.getElem?_toList, Array.getElem?_mapIdx, Array.getElem?_eq_getElem htc, Option.map_some, Nat.zero_le, true_and, Nat.zero_add, Nat.sub_zero, Go.Sort.size_flatK, hfl, if_true, id]
        rw [Go.Sort.get_flatK _ _ _ _ hfl, getElem!_pos d' (t / 10) (by omega)]
        simp only [List.getElem_map, Array.getElem_toList]
        have hgs := get_some (l := encN d'[t / 10]) (i := t % 10) (by unfold encN; rw [cells_length]; omega)
        rw [← hgs]
        unfold encN
        simp
      · rw [List.getElem?_eq_none (by simp; omega), List.getElem?_eq_none (by rw [nvs_length, List.length_map, List.length_map, hdl]; omega)]
  · intro p hp
    simp only [List.mem_map] at hp
    obtain ⟨x, _, rfl⟩ := hp
    exact x.property.but hbut
end Go.Proofs.YtchcejjoncihkaaGreatDoor

/- Layer 7: nodes of one Ino: linksAgree. -/
namespace Go.Proofs.YtchcejjoncihkaaGreatDoor
set_option linter.unusedVariables false
open Go.RowKit Go.Maps
open Nam Tre

namespace Tre
/-- The places of keys, the first one of each, of the first i. -/
def mfirst (ks : List Lit) : Nat → Lit → Option Nat
  | 0 => fun _ => none
  | i + 1 => if (mfirst ks i (ks.getD i (.bool false))).isSome = true then mfirst ks i else upd (mfirst ks i) (ks.getD i (.bool false)) i
def fcnt (ks : List Lit) : Nat → Nat
  | 0 => 0
  | i + 1 => if (mfirst ks i (ks.getD i (.bool false))).isSome = true then fcnt ks i else fcnt ks i + 1
theorem mfirst_some {ks : List Lit} (hk : ∀ k ∈ ks, WideAt.IsKeyLit k) : ∀ (i : Nat), i ≤ ks.length → ∀ k j, mfirst ks i k = some j → j < i ∧ ks[j]? = some k
  | 0, _, k, j, h => by cases h
  | i + 1, hi, k, j, h => by
    have hg : ks.getD i (.bool false) = ks[i] := by simp [show i < ks.length by omega]
    rw [mfirst] at h
    split at h
    · obtain ⟨h1, h2⟩ := mfirst_some hk i (by omega) k j h
      exact ⟨by omega, h2⟩
    · by_cases e : k = ks.getD i (.bool false)
      · rw [e, upd_same _ _ _ (by rw [hg]; exact hk _ (List.getElem_mem _))] at h
        cases h
        exact ⟨by omega, by rw [e, hg, List.getElem?_eq_getElem]⟩
      · rw [upd_other _ _ e] at h
        obtain ⟨h1, h2⟩ := mfirst_some hk i (by omega) k j h
        exact ⟨by omega, h2⟩
theorem mfirst_mem {ks : List Lit} (hk : ∀ k ∈ ks, WideAt.IsKeyLit k) : ∀ (i : Nat), i ≤ ks.length → ∀ k, (mfirst ks i k).isSome = true ↔ k ∈ ks.take i
  | 0, _, k => by simp [mfirst]
  | i + 1, hi, k => by
    have hi' : i < ks.length := by omega
    have hg : ks.getD i (.bool false) = ks[i] := by simp [hi']
    rw [List.take_succ_eq_append_getElem hi', List.mem_append, List.mem_singleton, mfirst, hg]
    by_cases e : k = ks[i]
    · split
      · rename_i h; rw [e]; simp [h]
      · rw [e, upd_same _ _ _ (hk _ (List.getElem_mem _))]; simp
    · split
      · rw [mfirst_mem hk i (by omega) k]; simp [e]
      · rw [upd_other _ _ e, mfirst_mem hk i (by omega) k]; simp [e]
theorem fcnt_le {ks : List Lit} : ∀ (i : Nat), fcnt ks i ≤ i
  | 0 => Nat.le_refl _
  | i + 1 => by
    have := fcnt_le (ks := ks) i
    rw [fcnt]; split <;> omega
def ikeys (l : List Nod) : List Lit := l.map (fun n => .int .i64 n.ino)
theorem ikeys_length (l : List Nod) : (ikeys l).length = l.length := by simp [ikeys]
theorem ikeys_lit (l : List Nod) : ∀ k ∈ ikeys l, WideAt.IsKeyLit k := by
  intro k hk
  simp only [ikeys, List.mem_map] at hk
  obtain ⟨n, _, rfl⟩ := hk
  exact trivial
theorem pair_snoc (l : List Nod) (n : Nod) : (l ++ [n]).Pairwise Tre.one ↔ l.Pairwise Tre.one ∧ ∀ m ∈ l, one m n := by
  rw [List.pairwise_append]
  constructor
  · rintro ⟨h1, _, h3⟩; exact ⟨h1, fun m hm => h3 m hm n (by simp)⟩
  · rintro ⟨h1, h2⟩; exact ⟨h1, by simp, fun a ha b hb => by rw [List.mem_singleton] at hb; subst hb; exact h2 a ha⟩
/-- A new Ino. -/
theorem pair_new {l : List Nod} {n : Nod} (h : l.Pairwise Tre.one) (hn : (.int .i64 n.ino : Lit) ∉ ikeys l) : (l ++ [n]).Pairwise Tre.one := by
  rw [pair_snoc]
  refine ⟨h, fun m hm e => ?_⟩
  exact absurd (List.mem_map.2 ⟨m, hm, by rw [e]⟩) hn
/-- An Ino that was there: held against one of it. -/
theorem pair_old {l : List Nod} {n m : Nod} (h : l.Pairwise Tre.one) (hm : m ∈ l) (e : m.ino = n.ino) (hk : n.kind ≠ 1) (ha : alike m n = true) : (l ++ [n]).Pairwise Tre.one := by
  rw [pair_snoc]
  refine ⟨h, fun x hx ex => ⟨hk, ?_⟩⟩
  by_cases he : x = m
  · rw [he]; exact ha
  · have hxm : alike x m = true := by
      obtain ⟨i, hi, rfl⟩ := List.getElem_of_mem hx
      obtain ⟨j, hj, rfl⟩ := List.getElem_of_mem hm
      rw [List.pairwise_iff_getElem] at h
      rcases Nat.lt_trichotomy i j with k | k | k
      · exact (h i j hi hj k (ex.trans e.symm)).2
      · subst k; exact absurd rfl he
      · exact alike_symm (h j i hj hi k (e.trans ex.symm)).2
    exact alike_trans hxm ha
theorem pair_not {l r : List Nod} {n m : Nod} (hm : m ∈ l) (e : m.ino = n.ino) (hk : n.kind = 1 ∨ alike m n = false) : ¬ (l ++ n :: r).Pairwise Tre.one := by
  intro h
  rw [List.pairwise_append] at h
  have := h.2.2 m hm n (by simp) e
  rcases hk with hk | hk
  · exact this.1 hk
  · rw [hk] at this; exact absurd this.2 (by simp)
end Tre
theorem ikeys_at (L : List (Nv × Nod)) (i : Nat) (h : i < L.length) : (ikeys (nds L)).getD i (.bool false) = .int .i64 (gl L i).2.ino := by
  have : i < (ikeys (nds L)).length := by rw [ikeys_length, nds_length]; exact h
  rw [List.getD_eq_getElem?_getD, List.getElem?_eq_getElem this, Option.getD_some, gl_lt L i h]
  simp [ikeys, nds]
theorem keyedInt : Keyed Tryz.prog 3 := int_keyed Tryz.underlying3
theorem make_hintI (n : Nat) (w : World) : (Instr.makeMap 61 (some (.int .i64 (n : Int)))).run Tryz.prog w = .ok (.map (some w.heap.size)) (w.alloc (.map #[] 0)) := by
  simp [Instr.makeMap, run_underlying Tryz.underlying61, asInt, asIntOf, Result.andThen]
theorem mapUnderI : Tryz.prog.underlying 61 = some (.map 3 3) := Tryz.underlying61
set_option maxRecDepth 100000 in
theorem linksAgree_any (a : Option Addr) (n c : Nat) (L : List (Nv × Nod)) (w : World) (hl : Ns w a n L) (hc : n ≤ c) (hcm : c ≤ 9223372036854775807) (hn : n ≤ 100000) :
    Calls Tryz.prog 105 #[.slice a n c] w fun e w' => e = .returned (.bool (decide ((nds L).Pairwise Tre.one))) ∧ Below w.heap.size w w' := by
  have HL := hide hl
  have HLN := hide hl.1
  have hn' : (n : Int) ≤ 100000 := by omega
  have mk := make_hintI n
  clear hl
  go_enter Tryz.func105, Tryz.ntmps105
  go_wp2
  go_loopw [4, 5, 6, 7, 13, 18] (fun _ _ _ _ r _ wr => ∃ i : Nat, r = .int .i64 i ∧ i ≤ n ∧ Below w.heap.size w wr ∧ MpK 3 wr w.heap.size (fcnt (ikeys (nds L)) i) (mfirst (ikeys (nds L)) i) ∧ ((nds L).take i).Pairwise Tre.one) (fun _ _ _ _ r _ _ => n - (intOf r).toNat)
  case atStart => exact ⟨0, rfl, Nat.zero_le _, (Below.refl _ _).alloc (Nat.le_refl _) _, mpk_new _ w, by simp⟩
  case round =>
    obtain ⟨i, rfl, hi0, hbel, hmp, hpw⟩ := hrel
    have HB := hide hbel
    have HM := hide hmp
    have HPW := hide hpw
    by_cases hi : i < n
    · have hd : decide ((i : Int) < n) = true := by simpa using hi
      obtain ⟨ba, oa, rfl, hba, hca⟩ := (HL.out.below hbel).at (by omega)
      have HCA := hide hca
      obtain ⟨c0, c1, c2, c3, c4, c5, c6, c7, c8, c9⟩ := hca i hi
      have hr := HL.out.rep i hi
      have HR := hide hr
      have HK := hide (ikeys_at L i (by rw [HLN.out]; exact hi))
      have HNT := hide (nds_take L i (by rw [HLN.out]; exact hi))
      have bel : Hid (∀ o, Below wr.heap.size wr (wr.alloc o)) := fun o => (Below.refl _ _).alloc (Nat.le_refl _) _
      have hkey : keyOf Tryz.prog 3 (.int .i64 (gl L i).1.ino) = some (.int .i64 (gl L i).1.ino) := keyOf_int_mk Tryz.underlying3 hr.in64
      have hlk := fun o => (hmp.below (bel.out o)).look keyedInt mapUnderI hkey trivial
      have hsz := hmp.lt
      cases hf : mfirst (ikeys (nds L)) i (.int .i64 (gl L i).1.ino) with
      | none =>
        rw [hf] at hlk
        simp only [Option.getD_none, Option.isSome_none] at hlk
        have hst := fun o => (hmp.below (bel.out o)).store keyedInt mapUnderI hkey trivial (by have := fcnt_le (ks := ikeys (nds L)) i; omega) i
        have HST := hide hst
        have HF := hide hf
        clear hca hbel hmp hr mk hpw hf hkey hst
        obtain ⟨w2, hrun, hm2, hg2⟩ := HST.out (.cells (gl L i).1.cells 37)
        simp only [Nv.cells] at hrun
        rw [HF.out] at hm2
        have HM2 := hide hm2
        have e2 : Hid (Below w.heap.size w w2) := ((HB.out.alloc HB.out.size _).grown hg2 (by simp; omega) (fun k hk => by cases hk; exact Nat.le_refl _))
        have HN : Hid ((.int .i64 (gl L i).2.ino : Lit) ∉ (ikeys (nds L)).take i) := by
          show _ ∉ _
          rw [← mfirst_mem (ikeys_lit _) i (by rw [ikeys_length, nds_length, HLN.out]; omega), HR.out.ino, HF.out]
          simp
        clear hm2 hg2 HST
        go_wp2
        refine ⟨⟨i + 1, by go_num, by omega, e2.out, ?_, ?_⟩, by simp [intOf]; omega⟩
        · rw [fcnt, mfirst, HK.out, HR.out.ino, HF.out]
          exact HM2.out
        · rw [HNT.out]
          refine pair_new HPW.out ?_
          have := HN.out
          rw [ikeys, ← List.map_take] at this
          exact this
      | some j =>
        rw [hf] at hlk
        simp only [Option.getD_some, Option.isSome_some] at hlk
        obtain ⟨hj, hjk⟩ := mfirst_some (ikeys_lit _) i (by rw [ikeys_length, nds_length, HLN.out]; omega) _ _ hf
        obtain ⟨d0, d1, d2, d3, d4, d5, d6, d7, d8, d9⟩ := hca j (by omega)
        have HRj := hide (HL.out.rep j (by omega))
        have HIJ : Hid ((gl L j).2.ino = (gl L i).2.ino) := by
          show _ = _
          rw [ikeys, List.getElem?_map, List.getElem?_eq_getElem (by rw [nds_length, HLN.out]; omega)] at hjk
          have : (nds L)[j]'(by rw [nds_length, HLN.out]; omega) = (gl L j).2 := by rw [gl_lt L j (by rw [HLN.out]; omega)]; simp [nds]
          rw [this] at hjk
          simp at hjk
          rw [hjk, hr.ino]
        have HMJ : Hid ((gl L j).2 ∈ (nds L).take i) := by
          show _ ∈ _
          rw [List.mem_take_iff_getElem]
          refine ⟨j, by rw [nds_length, HLN.out]; omega, ?_⟩
          rw [gl_lt L j (by rw [HLN.out]; omega)]; simp [nds]
        have HSP : Hid (nds L = (nds L).take i ++ (gl L i).2 :: (nds L).drop (i + 1)) := by
          show _ = _
          conv => lhs; rw [← List.take_append_drop i (nds L), nds_drop L i (by rw [HLN.out]; exact hi)]
        by_cases hk : (gl L i).1.kind = 1
        · have hk1 : ((gl L i).1.kind == 1) = true := by simpa using hk
          have HNP : Hid (decide ((nds L).Pairwise Tre.one) = false) := by
            show _ = _
            rw [decide_eq_false_iff_not, HSP.out]
            exact pair_not HMJ.out HIJ.out (.inl (hr.kind.trans hk))
          clear hca hbel hmp hr mk hpw hf hkey hk d0 d1 d2 d3 d4 d5 d6 d7 d8 d9
          go_wp2
          go_quiet (fail)
          go_wp2
          go_ret
          exact ⟨ret_bool HNP.out.symm, (HB.out.alloc HB.out.size _).trans (drewN_below _ _)⟩
        · have hk1 : ((gl L i).1.kind == 1) = false := by simpa using hk
          have HKN := hide (fun e => hk (hr.kind.symm.trans e))
          have HF := hide hf
          clear hca hbel hr mk hpw hf hkey hk hmp
          go_wp2
          have q3 := boxed wr (gl L i).1
          have q4 := bel.out (.cells (gl L i).1.cells 37)
          simp only [Nv.cells] at q3 q4
          obtain ⟨W, hW⟩ : ∃ W, W = wr.alloc (.cells (gl L i).1.cells 37) := ⟨_, rfl⟩
          simp only [Nv.cells] at hW
          rw [← hW] at q3 q4 ⊢
          have HQ := hide (HB.out.trans (q4.mono HB.out.size))
          have HMW := hide (HM.out.below q4)
          obtain ⟨p0, p1, p2, p3, p4, p5, p6, p7, p8, p9⟩ := (HCA.out j (by omega)).below q4 hba
          obtain ⟨_, b0, b1, b2, b3, b4, b5, b6, b7, b8, b9⟩ := q3
          clear q4 hW d0 d1 d2 d3 d4 d5 d6 d7 d8 d9 c0 c1 c2 c3 c4 c5 c6 c7 c8 c9 hlk hjk
          have hj1 : (j : Int) < n := by omega
          obtain ⟨z, hz⟩ : ∃ z, alike (gl L j).2 (gl L i).2 = z := ⟨_, rfl⟩
          have HZ := hide hz
          have HK2 : Hid (Calls Tryz.prog 152 #[.agg (gl L j).1.cells, .agg (gl L i).1.cells] W.drew fun e w' => e = .returned (.bool z) ∧ Below W.heap.size W w') := by
            have := Alike_any (gl L j).1 (gl L i).1 (gl L j).2 (gl L i).2 W.drew (HRj.out.below (HQ.out.trans (drewN_below W 1))) (HR.out.below (HQ.out.trans (drewN_below W 1)))
            rw [HZ.out] at this
            exact this.mono fun e w' ⟨he, hb⟩ => ⟨he, ⟨hb.os, hb.tape, hb.output, hb.size, hb.block⟩⟩
          simp only [Nv.cells] at HK2
          clear hz
          go_region_law ((first
            | (go_simp; go_at_call 152; refine HK2.out.mono ?_; rintro r w5 ⟨rfl, hb5⟩; have HB5 := hide hb5; clear hb5; dsimp only)))
          all_goals (
            have e5 := hide (HQ.out.trans (HB5.out.mono HQ.out.size))
            have HM5 := hide (HMW.out.below HB5.out)
            clear HK2 p0 p1 p2 p3 p4 p5 p6 p7 p8 p9 b0 b1 b2 b3 b4 b5 b6 b7 b8 b9
            cases z with
            | false =>
              have HNP : Hid (decide ((nds L).Pairwise Tre.one) = false) := by
                show _ = _
                rw [decide_eq_false_iff_not, HSP.out]
                exact pair_not HMJ.out HIJ.out (.inr HZ.out)
              go_wp2
              go_ret
              exact ⟨ret_bool HNP.out.symm, e5.out⟩
            | true =>
              go_wp2
              refine ⟨⟨i + 1, by go_num, by omega, e5.out, ?_, ?_⟩, by simp [intOf]; omega⟩
              · rw [fcnt, mfirst, HK.out, HR.out.ino, HF.out]
                exact HM5.out
              · rw [HNT.out]
                exact pair_old HPW.out HMJ.out HIJ.out HKN.out HZ.out)
    · have hd : decide ((i : Int) < n) = false := by simpa using hi
      have HP : Hid (decide ((nds L).Pairwise Tre.one) = true) := by
        show _ = _
        rw [decide_eq_true_eq]
        rw [List.take_of_length_le (by rw [nds_length, HLN.out]; omega)] at hpw
        exact hpw
      clear hmp hbel HM mk hpw
      go_wp2
      go_ret
      exact ⟨ret_bool HP.out.symm, HB.out⟩
end Go.Proofs.YtchcejjoncihkaaGreatDoor

/- Layer 7: Inos as they come first. Nothing here speaks of one function of the program. -/
namespace Go.Proofs.YtchcejjoncihkaaGreatDoor
set_option linter.unusedVariables false
set_option linter.unusedSectionVars false
open Go.RowKit Go.Maps
open Nam Tre

namespace Tre
/-- How many keys there are among the first i, and their numbers. -/
def nst (ks : List Lit) : Nat → Nat × (Lit → Option Nat)
  | 0 => (0, fun _ => none)
  | i + 1 => if ((nst ks i).2 (ks.getD i (.bool false))).isSome = true then nst ks i else ((nst ks i).1 + 1, upd (nst ks i).2 (ks.getD i (.bool false)) ((nst ks i).1 + 1))
/-- The number of the i-th. -/
def nno (ks : List Lit) (i : Nat) : Nat := ((nst ks (i + 1)).2 (ks.getD i (.bool false))).getD 0
theorem nst_old {ks : List Lit} {i : Nat} (h : ((nst ks i).2 (ks.getD i (.bool false))).isSome = true) : nst ks (i + 1) = nst ks i := by rw [nst, if_pos h]
theorem nst_new {ks : List Lit} {i : Nat} (h : ¬ ((nst ks i).2 (ks.getD i (.bool false))).isSome = true) : nst ks (i + 1) = ((nst ks i).1 + 1, upd (nst ks i).2 (ks.getD i (.bool false)) ((nst ks i).1 + 1)) := by rw [nst, if_neg h]
theorem nst_le (ks : List Lit) : ∀ i, (nst ks i).1 ≤ i
  | 0 => Nat.le_refl _
  | i + 1 => by
    have := nst_le ks i
    by_cases h : ((nst ks i).2 (ks.getD i (.bool false))).isSome = true
    · rw [nst_old h]; omega
    · rw [nst_new h]; show _ + 1 ≤ _; omega
theorem getD_lit {ks : List Lit} (hk : ∀ k ∈ ks, WideAt.IsKeyLit k) {i : Nat} (h : i < ks.length) : ks.getD i (.bool false) = ks[i] ∧ WideAt.IsKeyLit ks[i] := ⟨by simp [h], hk _ (List.getElem_mem h)⟩
theorem nst_mem {ks : List Lit} (hk : ∀ k ∈ ks, WideAt.IsKeyLit k) : ∀ (i : Nat), i ≤ ks.length → ∀ k, ((nst ks i).2 k).isSome = true ↔ k ∈ ks.take i
  | 0, _, k => by simp [nst]
  | i + 1, hi, k => by
    have hi' : i < ks.length := by omega
    obtain ⟨hg, hl⟩ := getD_lit hk hi'
    have ih := nst_mem hk i (by omega)
    rw [List.take_succ_eq_append_getElem hi', List.mem_append, List.mem_singleton]
    by_cases h : ((nst ks i).2 (ks.getD i (.bool false))).isSome = true
    · rw [nst_old h, ih]
      rw [hg, ih] at h
      constructor
      · exact .inl
      · rintro (q | q)
        · exact q
        · rw [q]; exact h
    · rw [nst_new h, hg]
      by_cases e : k = ks[i]
      · rw [e]; simp only [upd_same _ _ _ hl]; simp
      · simp only [upd_other _ _ e]; rw [ih]; simp [e]
theorem nst_stay {ks : List Lit} (hk : ∀ k ∈ ks, WideAt.IsKeyLit k) {i : Nat} (hi : i < ks.length) {k : Lit} {z : Nat} (h : (nst ks i).2 k = some z) : (nst ks (i + 1)).2 k = some z := by
  by_cases h2 : ((nst ks i).2 (ks.getD i (.bool false))).isSome = true
  · rw [nst_old h2]; exact h
  · rw [nst_new h2]
    have : k ≠ ks.getD i (.bool false) := fun e => h2 (by rw [← e, h]; rfl)
    simp only [upd_other _ _ this]; exact h
theorem nst_far {ks : List Lit} (hk : ∀ k ∈ ks, WideAt.IsKeyLit k) {i : Nat} {k : Lit} {z : Nat} (h : (nst ks i).2 k = some z) : ∀ d, i + d ≤ ks.length → (nst ks (i + d)).2 k = some z
  | 0, _ => h
  | d + 1, hd => by
    have := nst_stay hk (i := i + d) (by omega) (nst_far hk h d (by omega))
    exact this
/-- The number of a key stays. -/
theorem nno_at {ks : List Lit} (hk : ∀ k ∈ ks, WideAt.IsKeyLit k) {i j : Nat} (hi : i ≤ ks.length) (hj : j < i) : (nst ks i).2 (ks.getD j (.bool false)) = some (nno ks j) := by
  have hm : ((nst ks (j + 1)).2 (ks.getD j (.bool false))).isSome = true := by
    rw [nst_mem hk (j + 1) (by omega), (getD_lit hk (show j < ks.length by omega)).1, List.take_succ_eq_append_getElem (show j < ks.length by omega)]
    exact List.mem_append.2 (.inr (List.mem_singleton.2 rfl))
  obtain ⟨z, hz⟩ := Option.isSome_iff_exists.1 hm
  have hn : nno ks j = z := by unfold nno; rw [hz]; rfl
  rw [hn]
  have := nst_far hk hz (i - (j + 1)) (by omega)
  rw [show j + 1 + (i - (j + 1)) = i by omega] at this
  exact this
theorem nno_old {ks : List Lit} (hk : ∀ k ∈ ks, WideAt.IsKeyLit k) {i j : Nat} (hi : i < ks.length) (hj : j < i) (e : ks[j] = ks[i]) : nno ks i = nno ks j := by
  have h1 := nno_at hk (i := i + 1) (j := i) (by omega) (by omega)
  have h2 := nno_at hk (i := i + 1) (j := j) (by omega) (by omega)
  rw [(getD_lit hk hi).1] at h1
  rw [(getD_lit hk (by omega)).1, e, h1] at h2
  exact Option.some.inj h2
theorem nno_new {ks : List Lit} (hk : ∀ k ∈ ks, WideAt.IsKeyLit k) {i : Nat} (hi : i < ks.length) (h : ks[i] ∉ ks.take i) : nno ks i = (nst ks i).1 + 1 ∧ (nst ks (i + 1)).1 = (nst ks i).1 + 1 := by
  obtain ⟨hg, hl⟩ := getD_lit hk hi
  have hne : ¬ ((nst ks i).2 (ks.getD i (.bool false))).isSome = true := by rw [nst_mem hk i (by omega), hg]; exact h
  unfold nno
  rw [nst_new hne, hg]
  simp only [upd_same _ _ _ hl]
  exact ⟨rfl, trivial⟩
theorem nst_same {ks : List Lit} (hk : ∀ k ∈ ks, WideAt.IsKeyLit k) {i : Nat} (hi : i < ks.length) (h : ks[i] ∈ ks.take i) : (nst ks (i + 1)).1 = (nst ks i).1 := by
  rw [nst_old (by rw [nst_mem hk i (by omega), (getD_lit hk hi).1]; exact h)]
/-- Numbers are at least 1, and at most as many as there are keys. -/
theorem nst_range {ks : List Lit} (hk : ∀ k ∈ ks, WideAt.IsKeyLit k) : ∀ (i : Nat), i ≤ ks.length → ∀ k z, (nst ks i).2 k = some z → 1 ≤ z ∧ z ≤ (nst ks i).1
  | 0, _, k, z, h => by simp [nst] at h
  | i + 1, hi, k, z, h => by
    have hi' : i < ks.length := by omega
    obtain ⟨hg, hl⟩ := getD_lit hk hi'
    by_cases h2 : ((nst ks i).2 (ks.getD i (.bool false))).isSome = true
    · rw [nst_old h2] at h ⊢; exact nst_range hk i (by omega) k z h
    · rw [nst_new h2] at h ⊢
      by_cases e : k = ks.getD i (.bool false)
      · have hs : upd (nst ks i).2 (ks.getD i (.bool false)) ((nst ks i).1 + 1) k = some ((nst ks i).1 + 1) := by rw [e]; exact upd_same _ _ _ (by rw [hg]; exact hl)
        rw [show (upd (nst ks i).2 (ks.getD i (.bool false)) ((nst ks i).1 + 1)) k = some z from h] at hs
        have := Option.some.inj hs
        subst this
        exact ⟨by omega, Nat.le_refl _⟩
      · simp only [upd_other _ _ e] at h
        have := nst_range hk i (by omega) k z h
        exact ⟨this.1, Nat.le_succ_of_le this.2⟩
theorem nno_range {ks : List Lit} (hk : ∀ k ∈ ks, WideAt.IsKeyLit k) {i : Nat} (hi : i < ks.length) : 1 ≤ nno ks i ∧ nno ks i ≤ (nst ks (i + 1)).1 := nst_range hk (i + 1) (by omega) _ _ (nno_at hk (by omega) (by omega))
/-- Nodes with the numbers of their Inos. -/
def numb (l : List Nod) : List Nod := l.mapIdx (fun i n => { n with ino := (nno (ikeys l) i : Int) })
theorem numb_length (l : List Nod) : (numb l).length = l.length := by simp [numb]
theorem numb_get (l : List Nod) (i : Nat) (h : i < l.length) : (numb l)[i]'(by rw [numb_length]; exact h) = { l[i] with ino := (nno (ikeys l) i : Int) } := by simp [numb]
end Tre
end Go.Proofs.YtchcejjoncihkaaGreatDoor

/- Layer 7: numberInos. -/
namespace Go.Proofs.YtchcejjoncihkaaGreatDoor
set_option linter.unusedVariables false
open Go.RowKit Go.Maps
open Nam Tre

/-- A node with another Ino. -/
def rn (p : Nv × Nod) (z : Nat) : Nv × Nod := ({ p.1 with ino := (z : Int) }, { p.2 with ino := (z : Int) })
/-- The first i nodes numbered. -/
def rl (ks : List Lit) (L : List (Nv × Nod)) : Nat → List (Nv × Nod)
  | 0 => L
  | i + 1 => (rl ks L i).set i (rn (gl L i) (nno ks i))
theorem rl_length (ks : List Lit) (L : List (Nv × Nod)) : ∀ i, (rl ks L i).length = L.length
  | 0 => rfl
  | i + 1 => by rw [rl, List.length_set]; exact rl_length ks L i
theorem gl_set (L : List (Nv × Nod)) (i j : Nat) (p : Nv × Nod) (hi : i < L.length) : gl (L.set i p) j = if j = i then p else gl L j := by
  unfold gl
  by_cases e : j = i
  · subst e; simp [hi]
  · rw [if_neg e]; simp [Ne.symm e]
theorem rl_get (ks : List Lit) (L : List (Nv × Nod)) : ∀ i, i ≤ L.length → ∀ j, gl (rl ks L i) j = if j < i then rn (gl L j) (nno ks j) else gl L j
  | 0, _, j => by simp [rl]
  | i + 1, hi, j => by
    rw [rl, gl_set _ _ _ _ (by rw [rl_length]; omega), rl_get ks L i (by omega) j]
    by_cases e : j = i
    · subst e; rw [if_pos rfl, if_pos (by omega)]
    · rw [if_neg e]
      by_cases h : j < i
      · rw [if_pos h, if_pos (by omega)]
      · rw [if_neg h, if_neg (by omega)]
theorem rl_end (L : List (Nv × Nod)) : nds (rl (ikeys (nds L)) L L.length) = numb (nds L) := by
  apply List.ext_getElem
  · rw [nds_length, rl_length, numb_length, nds_length]
  · intro i h1 h2
    have hi : i < L.length := by rw [nds_length, rl_length] at h1; exact h1
    rw [numb_get _ _ (by rw [nds_length]; exact hi)]
    have e1 : (nds (rl (ikeys (nds L)) L L.length))[i] = (gl (rl (ikeys (nds L)) L L.length) i).2 := by rw [gl_lt _ _ (by rw [rl_length]; exact hi)]; simp [nds]
    have e2 : (nds L)[i]'(by rw [nds_length]; exact hi) = (gl L i).2 := by rw [gl_lt L i hi]; simp [nds]
    rw [e1, rl_get _ _ _ (Nat.le_refl _), if_pos hi, e2]
    rfl
theorem nvs_setIno (V : List Nv) (i : Nat) (z : Int) (h : i < V.length) : (nvs V).set (i * 10 + 1) (.int .i64 z) = nvs (V.set i { V[i] with ino := z }) := by
  induction V generalizing i with
  | nil => simp at h
  | cons v r ih =>
    have e : ∀ y l, nvs (y :: l) = y.cells.toList ++ nvs l := by simp [nvs]
    cases i with
    | zero => rw [e, List.set_cons_zero, e]; rfl
    | succ i =>
      rw [e, List.set_append_right _ _ (by rw [cells_length]; omega), cells_length, show (i + 1) * 10 + 1 - 10 = i * 10 + 1 by omega, ih i (by simpa using h), List.set_cons_succ, e]
      rfl
theorem map_set1 (L : List (Nv × Nod)) (i : Nat) (p : Nv × Nod) : (L.set i p).map (·.1) = (L.map (·.1)).set i p.1 := by simp [List.map_set]
theorem good_rn {w : World} {blk : Nat} {p : Nv × Nod} (h : Good w blk p) (z : Nat) (hz : z ≤ 1000000) : Good w blk (rn p z) :=
  ⟨{ h.rep with ino := rfl, in64 := (by show (Lit.int .i64 (z : Int)).wf = true; exact WalkArith.wf_i64 (by omega)) }, ⟨h.abv.na, h.abv.da, h.abv.xa, h.abv.xs⟩, h.few⟩
theorem But.of_below {blk : Nat} {w w' : World} (h : Below w.heap.size w w') : But blk w w' := ⟨h.size, fun i hi _ => h.block i hi⟩
/-- The row with its first i nodes numbered. -/
structure NI (w wr : World) (B blk n cap : Nat) (L : List (Nv × Nod)) (i : Nat) : Prop where
  row : wr.ownsRow B 37 10 (.slice (some ⟨blk, 0, none⟩) n cap) n (nvs ((rl (ikeys (nds L)) L i).map (·.1)))
  map : MpK 3 wr w.heap.size (nst (ikeys (nds L)) i).1 (nst (ikeys (nds L)) i).2
  but : But blk w wr
  bel : Below blk w wr
theorem MpK.look1 {k : TypeId} {w : World} {b sz : Nat} {f : Lit → Option Nat} (h : MpK k w b sz f) (K : Keyed Tryz.prog k) {t : TypeId} (ht : Tryz.prog.underlying t = some (.map k 3)) {key : Value} {kl : Lit} (hkey : keyOf Tryz.prog k key = some kl) (hk : WideAt.IsKeyLit kl) {z : Nat} (hz : f kl = some z) :
    (Instr.lookup t (.map (some b)) key false).run Tryz.prog w = .ok (.int .i64 (z : Int)) w := by
  obtain ⟨D, h1, _, h3⟩ := h
  obtain ⟨e1, e2⟩ := h3 kl hk
  obtain ⟨v, ps, hr, hv⟩ := h1.lookup K ht (zeroInt7 w) (zd := .held (.int .i64 0)) (zp := []) rfl hkey
  rw [e2 z hz] at hv
  simp [HV] at hv
  rw [hv.1] at hr
  exact hr
theorem NI.put {w wr w2 : World} {B blk n cap i : Nat} {L : List (Nv × Nod)} (h : NI w wr B blk n cap L i) (hL : L.length = n) (hi : i < n) (hb : blk < w.heap.size) (hg : wr.grownBy w2 (some w.heap.size)) (hm : MpK 3 w2 w.heap.size (nst (ikeys (nds L)) (i + 1)).1 (nst (ikeys (nds L)) (i + 1)).2) :
    NI w (w2.setCell ⟨blk, i * 10 + 1, none⟩ (.int .i64 (nno (ikeys (nds L)) i : Nat))) B blk n cap L (i + 1) := by
  have row2 := h.row.kept hg (.inr (by simp [Value.ownBlock]; omega))
  have hs := h.but.1
  refine ⟨?_, hm.same (set_other _ _ _ _ _ (by omega)), ⟨by simp; exact Nat.le_trans hs hg.size, fun j hj hne => ?_⟩, ?_⟩
  · have := (row2.stored (i * 10 + 1) (.int .i64 (nno (ikeys (nds L)) i : Nat))).1
    rw [nvs_setIno _ i _ (by rw [List.length_map, rl_length, hL]; exact hi)] at this
    rw [rl, map_set1]
    have e : ((rl (ikeys (nds L)) L i).map (·.1))[i]'(by rw [List.length_map, rl_length, hL]; exact hi) = (gl L i).1 := by
      have := rl_get (ikeys (nds L)) L i (by omega) i
      rw [if_neg (by omega), gl_lt _ _ (by rw [rl_length, hL]; exact hi)] at this
      simp [this]
    rw [e] at this
    exact this
  · rw [set_other _ _ _ _ _ hne, hg.block j (by omega) (by simp; omega)]
    exact h.but.2 j hj hne
  · exact (h.bel.grown hg (by omega) (fun k e => by cases e; omega)).setCell (Nat.le_refl _) _
set_option maxRecDepth 100000 in
set_option maxHeartbeats 4000000 in
theorem numberInos_any (blk n cap B : Nat) (L : List (Nv × Nod)) (w : World) (hown : w.ownsRow B 37 10 (.slice (some ⟨blk, 0, none⟩) n cap) n (nvs (L.map (·.1)))) (hn : n ≤ 100000) (hg : ∀ p ∈ L, Good w blk p) :
    Calls Tryz.prog 47 #[.slice (some ⟨blk, 0, none⟩) n cap] w fun e w' => e = .returned (.tuple #[]) ∧ NI w w' B blk n cap L n := by
  have hLl : L.length = n := by have := hown.1; rw [nvs_length, List.length_map] at this; omega
  have hblk : blk < w.heap.size := (hown.lt blk rfl).2
  have HLN := hide hLl
  have hcap := (cap_owns hown).1
  have hcapm := (cap_owns hown).2.1
  have N0 : Hid (NI w (w.alloc (.map #[] 0)) B blk n cap L 0) := ⟨hown.alloc _, mpk_new _ w, But.of_below ((Below.refl _ _).alloc (Nat.le_refl _) _), (Below.refl _ _).alloc (by omega) _⟩
  have mk := make_hintI n
  have HG := hide hg
  clear hown hg hLl
  go_enter Tryz.func47, Tryz.ntmps47
  go_wp2
  go_loopw [3, 4, 5, 6, 12, 20] (fun _ _ _ _ r _ wr => ∃ i : Nat, r = .int .i64 i ∧ i ≤ n ∧ NI w wr B blk n cap L i) (fun _ _ _ _ r _ _ => n - (intOf r).toNat)
  case atStart => exact ⟨0, rfl, Nat.zero_le _, N0.out⟩
  case round =>
    obtain ⟨i, rfl, hi0, hni⟩ := hrel
    have HN := hide hni
    by_cases hi : i < n
    · have hd : decide ((i : Int) < n) = true := by simpa using hi
      have hat := (sh_of_owns hni.row).at (by omega)
      obtain ⟨b', off', hbo, hb', hat⟩ := hat
      obtain ⟨rfl, rfl⟩ : blk = b' ∧ 0 = off' := by simpa using hbo
      have c1 := (hat i hi).c1
      rw [gv_map _ _ (by rw [rl_length, HLN.out]; exact hi), rl_get _ _ _ (by rw [HLN.out]; exact hi0), if_neg (by omega), Nat.zero_add] at c1
      have hkd : (ikeys (nds L)).getD i (.bool false) = .int .i64 (gl L i).1.ino := by rw [ikeys_at L i (by rw [HLN.out]; exact hi), (HG.out _ (gl_mem L i (by rw [HLN.out]; exact hi))).rep.ino]
      have hkey : keyOf Tryz.prog 3 (.int .i64 (gl L i).1.ino) = some (.int .i64 (gl L i).1.ino) := keyOf_int_mk Tryz.underlying3 (HG.out _ (gl_mem L i (by rw [HLN.out]; exact hi))).rep.in64
      have hlk := hni.map.look keyedInt mapUnderI hkey trivial
      have hfz := hni.row.frozenAt (i * 10 + 1)
      have hkl := ikeys_lit (nds L)
      have hil : i < (ikeys (nds L)).length := by rw [ikeys_length, nds_length, HLN.out]; exact hi
      have hi1 : (i : Int) < n := by omega
      have hlen := hni.map.len mapUnderI 3
      have hcl := nst_le (ikeys (nds L)) i
      cases hf : (nst (ikeys (nds L)) i).2 (.int .i64 (gl L i).1.ino) with
      | some z =>
        have hnst : nst (ikeys (nds L)) (i + 1) = nst (ikeys (nds L)) i := nst_old (by rw [hkd, hf]; rfl)
        have hz : nno (ikeys (nds L)) i = z := by
          unfold nno
          rw [hnst, hkd, hf]; rfl
        have HP := hide (hni.put HLN.out hi hblk (World.grownBy.refl wr _) (by rw [hnst]; exact hni.map))
        rw [hz] at HP
        have hl1 := hni.map.look1 keyedInt mapUnderI hkey trivial hf
        rw [hf] at hlk
        simp only [Option.getD_some, Option.isSome_some] at hlk
        clear hni hat hbo hkd hkey hf hnst hz hkl
        go_wp2
        exact ⟨⟨i + 1, by go_num, by omega, HP.out⟩, by simp [intOf]; omega⟩
      | none =>
        have hnst : nst (ikeys (nds L)) (i + 1) = ((nst (ikeys (nds L)) i).1 + 1, upd (nst (ikeys (nds L)) i).2 (.int .i64 (gl L i).1.ino) ((nst (ikeys (nds L)) i).1 + 1)) := by
          rw [nst_new (by rw [hkd, hf]; simp), hkd]
        obtain ⟨w2, hrun, hm2, hg2⟩ := hni.map.store keyedInt mapUnderI hkey trivial (by omega) ((nst (ikeys (nds L)) i).1 + 1)
        rw [hf] at hm2
        have hm3 : MpK 3 w2 w.heap.size (nst (ikeys (nds L)) (i + 1)).1 (nst (ikeys (nds L)) (i + 1)).2 := by rw [hnst]; exact hm2
        have hz : nno (ikeys (nds L)) i = (nst (ikeys (nds L)) i).1 + 1 := by
          unfold nno
          rw [hnst, hkd]
          simp only [upd_same _ _ _ (show WideAt.IsKeyLit (.int .i64 (gl L i).1.ino) from trivial)]; rfl
        have HP := hide (hni.put HLN.out hi hblk hg2 hm3)
        rw [hz] at HP
        have hl1 := hm2.look1 keyedInt mapUnderI hkey trivial (upd_same _ _ _ trivial)
        have row2 := hni.row.kept hg2 (.inr (by simp [Value.ownBlock]; omega))
        have hfz2 := row2.frozenAt (i * 10 + 1)
        have c12 : w2.cell? ⟨blk, i * 10 + 1, none⟩ = some (.int .i64 (gl L i).1.ino) := by rw [World.cell?_of_block (hg2.block blk hb' (by simp; omega))]; exact c1
        rw [hf] at hlk
        simp only [Option.getD_none, Option.isSome_none] at hlk
        have hcc : ((((nst (ikeys (nds L)) i).1 + 1 : Nat)) : Int) = ((nst (ikeys (nds L)) i).1 : Int) + 1 := by omega
        rw [hcc] at hrun hl1 HP
        generalize (nst (ikeys (nds L)) i).1 = cn at *
        clear hni hat hbo hkd hkey hf hnst hz hkl hm2 hm3 row2 hg2 hcc
        go_wp2
        exact ⟨⟨i + 1, by go_num, by omega, HP.out⟩, by simp [intOf]; omega⟩
    · have hd : decide ((i : Int) < n) = false := by simpa using hi
      obtain rfl : i = n := by omega
      go_wp2
      go_end0
      exact ⟨rfl, HN.out⟩
end Go.Proofs.YtchcejjoncihkaaGreatDoor

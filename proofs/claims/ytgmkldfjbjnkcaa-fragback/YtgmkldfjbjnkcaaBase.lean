/- What all layers' walks stand on: bytes in memory, rows of bytes of the call's own, frames by the element's type, bytes as a string. Nothing here speaks of one function of the program. -/
import Derived.Test.YtgmkldfjbjnkcaaRows
import Derived.WalkKit
import Derived.WalkSpells
import Derived.WalkLawsBesides
import Derived.BigQuiet
import Derived.Deep.QuietTactic
import Derived.Deep.AppendLies
import Derived.Maps.AppendAt
import Derived.Laws.BytesArg
import Derived.Lib.SlBytesConst
import Derived.OpenShut
import Derived.Laws.AppendOwnNone
import Derived.Deep.RegionHeld3
namespace Go.Proofs.Ytgmkldfjbjnkcaa.Lz
/-- The number at a place; 0 where there is none. -/
def g (zs : List Int) (i : Nat) : Int := zs.getD i 0
theorem g_lt (zs : List Int) (i : Nat) (h : i < zs.length) : g zs i = zs[i] := by simp [g, h]
theorem g_drop (zs : List Int) (k i : Nat) : g (zs.drop k) i = g zs (k + i) := by simp [g]
theorem g_take (zs : List Int) (k i : Nat) (h : i < k) : g (zs.take k) i = g zs i := by simp [g, h]
theorem g_append_left (xs ys : List Int) (i : Nat) (h : i < xs.length) : g (xs ++ ys) i = g xs i := by simp [g, List.getElem?_append, h]
end Go.Proofs.Ytgmkldfjbjnkcaa.Lz
namespace Go.Proofs.Ytgmkldfjbjnkcaa
set_option linter.unusedVariables false
open Go.RowKit Go.Maps
open Lz (g)

/-- The cells from ⟨b, off⟩ on hold the bytes zs. -/
def Seg (w : World) (b off : Nat) (zs : List Int) : Prop := ∀ i, i < zs.length → w.cell? ⟨b, off + i, none⟩ = some (.int .u8 (g zs i))
theorem Seg.drewN {w : World} {b off : Nat} {zs : List Int} (h : Seg w b off zs) (n : Nat) : Seg (w.drewN n) b off zs := fun i hi => by rw [← h i hi]; simp
theorem dr2 (w : World) (n m : Nat) : ∃ k, (w.drewN n).drewN m = w.drewN k := ⟨n + m, by simp⟩
theorem ret_int {a b : Int} (h : a = b) : Ending.returned (.int .i64 a) = .returned (.int .i64 b) := by rw [h]
theorem ret_nat {a b : Nat} (h : a = b) : Ending.returned (.int .i64 (a : Int)) = .returned (.int .i64 (b : Int)) := by rw [h]
theorem infoByte : (Try.prog.info? 5).map (fun i => (i.zero, i.size, i.bytes)) = some (some (.int .u8 0), 1, 1) := by kernel_rfl
/-- Blocks of cells of the type e are as they were. -/
def KeepT (e : TypeId) (w w' : World) : Prop := ∀ (i : Nat) (cur : Array Value) (fz : Nat × Nat), w.heap[i]? = some (Obj.cells cur e fz) → w'.heap[i]? = some (Obj.cells cur e fz)
/-- All blocks but those of cells of the type e are as they were. -/
def KeepN (e : TypeId) (w w' : World) : Prop := ∀ (i : Nat) (o : Obj), w.heap[i]? = some o → (∀ cur fz, o ≠ Obj.cells cur e fz) → w'.heap[i]? = some o
theorem heap_lt {w : World} {i : Nat} {o : Obj} (h : w.heap[i]? = some o) : i < w.heap.size := (Array.getElem?_eq_some_iff.1 h).1
theorem KeepT.refl (e : TypeId) (w : World) : KeepT e w w := fun _ _ _ h => h
theorem KeepT.trans {e : TypeId} {a b c : World} (h : KeepT e a b) (k : KeepT e b c) : KeepT e a c := fun i cur fz hi => k i cur fz (h i cur fz hi)
theorem KeepT.drewN {e : TypeId} {a w : World} (h : KeepT e a w) (n : Nat) : KeepT e a (w.drewN n) := h
theorem KeepT.alloc {e : TypeId} {a w : World} (h : KeepT e a w) (o : Obj) : KeepT e a (w.alloc o) := fun i cur fz hi => by
  have := h i cur fz hi
  rw [Below.heap_alloc w o i (heap_lt this)]; exact this
theorem KeepT.setCell {e : TypeId} {a w : World} (h : KeepT e a w) {p : Addr} (u : Value) (hp : ∀ cur fz, w.heap[p.block]? ≠ some (Obj.cells cur e fz)) : KeepT e a (w.setCell p u) := fun i cur fz hi => by
  have := h i cur fz hi
  rw [Below.heap_setCell _ _ _ _ (fun ei => by subst ei; exact hp _ _ this)]; exact this
theorem KeepT.grown {e : TypeId} {a w w' : World} (h : KeepT e a w) {row : Option Nat} (hg : w.grownBy w' row) (hr : ∀ k, row = some k → ∀ cur fz, w.heap[k]? ≠ some (Obj.cells cur e fz)) : KeepT e a w' := fun i cur fz hi => by
  have := h i cur fz hi
  rw [hg.block i (heap_lt this) (fun ei => hr i ei.symm _ _ this)]; exact this
theorem KeepT.owns {e : TypeId} {w w' : World} (h : KeepT e w w') {base size n : Nat} {v : Value} {xs : List Value} (ho : w.ownsRow base e size v n xs) : w'.ownsRow base e size v n xs := by
  refine ⟨ho.1, ?_⟩
  rcases ho.2 with hn | ⟨g, cap, cur, rfl, hb, hgg, rest⟩
  · exact .inl hn
  · exact .inr ⟨g, cap, cur, rfl, hb, h _ _ _ hgg, rest⟩
theorem KeepN.refl (e : TypeId) (w : World) : KeepN e w w := fun _ _ h _ => h
theorem KeepN.trans {e : TypeId} {a b c : World} (h : KeepN e a b) (k : KeepN e b c) : KeepN e a c := fun i o hi ho => k i o (h i o hi ho) ho
theorem KeepN.drewN {e : TypeId} {a w : World} (h : KeepN e a w) (n : Nat) : KeepN e a (w.drewN n) := h
theorem KeepN.alloc {e : TypeId} {a w : World} (h : KeepN e a w) (x : Obj) : KeepN e a (w.alloc x) := fun i o hi ho => by
  have := h i o hi ho
  rw [Below.heap_alloc w x i (heap_lt this)]; exact this
theorem KeepN.grown {e : TypeId} {a w w' : World} (h : KeepN e a w) {base n : Nat} {size : Nat} {v : Value} {xs : List Value} (ho : w.ownsRow base e size v n xs) (hg : w.grownBy w' v.ownBlock) : KeepN e a w' := fun i o hi hne => by
  have := h i o hi hne
  rw [hg.block i (heap_lt this) (fun ei => ?_)]
  · exact this
  · rcases ho.2 with ⟨rfl, _⟩ | ⟨g, cap, cur, rfl, _, hgg, _⟩
    · simp [Value.ownBlock] at ei
    · simp [Value.ownBlock] at ei
      subst ei
      rw [this] at hgg
      exact hne _ _ (Option.some.inj hgg)
theorem owns_shape {w : World} {base e size n : Nat} {v : Value} {xs : List Value} (h : w.ownsRow base e size v n xs) : ∃ ao c, v = .slice ao n c := by
  rcases h.2 with ⟨rfl, rfl⟩ | ⟨g, cap, cur, rfl, _⟩
  · exact ⟨_, _, rfl⟩
  · exact ⟨_, _, rfl⟩
theorem owns_ne {w : World} {base e size n p : Nat} {v : Value} {xs : List Value} {o : Obj} (h : w.ownsRow base e size v n xs) (hp : w.heap[p]? = some o) (ho : ∀ cur fz, o ≠ Obj.cells cur e fz) : some p ≠ v.ownBlock := by
  rcases h.2 with ⟨rfl, _⟩ | ⟨g, cap, cur, rfl, _, hgg, _⟩
  · simp [Value.ownBlock]
  · intro e'
    simp [Value.ownBlock] at e'
    subst e'
    rw [hp] at hgg
    exact ho _ _ (Option.some.inj hgg)
/-- The slice at ao, n long, holds the bytes zs. -/
def Bs (w : World) (ao : Option Addr) (n : Nat) (zs : List Int) : Prop :=
  zs.length = n ∧ (∀ i, 0 ≤ g zs i ∧ g zs i ≤ 255) ∧ (n = 0 ∨ ∃ b off, ao = some ⟨b, off, none⟩ ∧ b < w.heap.size ∧ Seg w b off zs)
theorem Seg.below {w w' : World} {B b off : Nat} {zs : List Int} (h : Seg w b off zs) (hb : Below B w w') (hlt : b < B) : Seg w' b off zs := fun i hi => (hb.cell (by exact hlt)).trans (h i hi)
theorem Bs.below {w w' : World} {ao : Option Addr} {n : Nat} {zs : List Int} (h : Bs w ao n zs) (hb : Below w.heap.size w w') : Bs w' ao n zs := by
  refine ⟨h.1, h.2.1, ?_⟩
  rcases h.2.2 with h0 | ⟨b, off, h1, h2, h3⟩
  · exact .inl h0
  · exact .inr ⟨b, off, h1, Nat.lt_of_lt_of_le h2 hb.size, h3.below hb h2⟩
theorem Seg.cut {w : World} {b off : Nat} {zs : List Int} (h : Seg w b off zs) (lo hi : Nat) : Seg w b (off + lo) ((zs.take hi).drop lo) := fun i hj => by
  simp only [List.length_drop, List.length_take] at hj
  rw [Lz.g_drop, Lz.g_take _ _ _ (by omega), Nat.add_assoc]
  exact h (lo + i) (by omega)
theorem bytes_drop {zs : List Int} (h : ∀ i, 0 ≤ g zs i ∧ g zs i ≤ 255) (lo : Nat) : ∀ i, 0 ≤ g (zs.drop lo) i ∧ g (zs.drop lo) i ≤ 255 := fun i => by
  rw [Lz.g_drop]; exact h _
theorem bytes_take {zs : List Int} (h : ∀ i, 0 ≤ g zs i ∧ g zs i ≤ 255) (hi : Nat) : ∀ i, 0 ≤ g (zs.take hi) i ∧ g (zs.take hi) i ≤ 255 := fun i => by
  by_cases e : i < hi
  · rw [Lz.g_take _ _ _ e]; exact h _
  · have : g (zs.take hi) i = 0 := by simp [g, List.getElem?_take, e]
    rw [this]; omega
theorem bytes_cut {zs : List Int} (h : ∀ i, 0 ≤ g zs i ∧ g zs i ≤ 255) (lo hi : Nat) : ∀ i, 0 ≤ g ((zs.take hi).drop lo) i ∧ g ((zs.take hi).drop lo) i ≤ 255 := bytes_drop (bytes_take h hi) lo
/-- Numbers as bytes' values. -/
def bv (xs : List Int) : List Value := xs.map (Value.int .u8)
theorem bv_append (xs ys : List Int) : bv (xs ++ ys) = bv xs ++ bv ys := by simp [bv]
theorem bv_length (xs : List Int) : (bv xs).length = xs.length := by simp [bv]
/-- The slice holds the bytes, in a block below B. -/
def BsB (w : World) (B : Nat) (ao : Option Addr) (n : Nat) (zs : List Int) : Prop :=
  zs.length = n ∧ (∀ i, 0 ≤ g zs i ∧ g zs i ≤ 255) ∧ (n = 0 ∨ ∃ b off, ao = some ⟨b, off, none⟩ ∧ b < B ∧ Seg w b off zs)
theorem BsB.below {w w' : World} {B : Nat} {ao : Option Addr} {n : Nat} {zs : List Int} (h : BsB w B ao n zs) (hb : Below B w w') : BsB w' B ao n zs := by
  refine ⟨h.1, h.2.1, ?_⟩
  rcases h.2.2 with h0 | ⟨b, off, h1, h2, h3⟩
  · exact .inl h0
  · exact .inr ⟨b, off, h1, h2, h3.below hb h2⟩
theorem news_seg {w : World} {b off : Nat} {l : List Int} (h : Seg w b off l) (k : Nat) : ∀ j u, (bv (l.take k))[j]? = some u → w.cell? ((⟨b, off, none⟩ : Addr).add j) = some u := by
  intro j u hu
  have hj : j < (l.take k).length := by
    have := (List.getElem?_eq_some_iff.1 hu).1
    simpa [bv] using this
  rw [Addr.add_lit, h j (by simp at hj; omega)]
  have e : (bv (l.take k))[j]? = some (.int .u8 (g (l.take k) j)) := by
    unfold bv
    rw [List.getElem?_map, List.getElem?_eq_getElem hj, Lz.g_lt _ _ hj]; rfl
  rw [e] at hu
  rw [← Lz.g_take l k j (by simp at hj; omega)]
  exact hu
theorem bv_one (xs : List Int) : ∀ u ∈ bv xs, u.oneCell' = true := ints_oneCell .u8 xs
/-- Behind an append to a row of bytes of the call's own. -/
theorem grow_step {a w w1 : World} {B n : Nat} {v : Value} {xs : List Value} {o : Obj} (hbel : Below B a w) (hkeep : KeepN 5 a w) (hB : B ≤ w.heap.size) (ho : w.ownsRow B 5 1 v n xs) (hg : (w.alloc o).grownBy w1 v.ownBlock) :
    Below B a w1 ∧ KeepN 5 a w1 ∧ Below B w w1 := by
  have h1 : Below B w w1 := ((Below.refl B w).alloc hB o).grown hg (by simp; omega) (fun k e => (ho.lt k e).1)
  exact ⟨hbel.trans h1, (hkeep.alloc o).grown (ho.alloc o) hg, h1⟩
theorem grow_step0 {a w w1 : World} {B n : Nat} {v : Value} {xs : List Value} (hbel : Below B a w) (hkeep : KeepN 5 a w) (hB : B ≤ w.heap.size) (ho : w.ownsRow B 5 1 v n xs) (hg : w.grownBy w1 v.ownBlock) :
    Below B a w1 ∧ KeepN 5 a w1 ∧ Below B w w1 := by
  have h1 : Below B w w1 := (Below.refl B w).grown hg hB (fun k e => (ho.lt k e).1)
  exact ⟨hbel.trans h1, hkeep.grown ho hg, h1⟩
theorem growD {w w1 : World} {B n : Nat} {v : Value} {xs : List Value} {o : Obj} (hB : B ≤ w.heap.size) (ho : w.ownsRow B 5 1 v n xs) (hg : (w.alloc o).drew.grownBy w1 v.ownBlock) : Below B w w1 ∧ KeepN 5 w w1 := by
  have h1 : Below B w w1 := ((Below.refl B w).alloc hB o).drew.grown hg (by simp; omega) (fun k e => (ho.lt k e).1)
  have h2 : KeepN 5 w (w.alloc o).drew := (KeepN.refl _ w).alloc o
  exact ⟨h1, h2.grown (ho.alloc o).drew hg⟩
/-- What is appended to v: bytes in a block that is not v's own. -/
def Src (w : World) (v : Value) (bo : Option Addr) (len : Nat) (l : List Int) : Prop :=
  l.length = len ∧ (∀ i, 0 ≤ g l i ∧ g l i ≤ 255) ∧ (len = 0 ∨ ∃ b off, bo = some ⟨b, off, none⟩ ∧ b < w.heap.size ∧ some b ≠ v.ownBlock ∧ Seg w b off l)
/-- Where the grown slice lies: where it lay, or in a block that is new since w. -/
def Lies (w : World) (v v' : Value) : Prop := v'.ownBlock = v.ownBlock ∨ ∃ k, v'.ownBlock = some k ∧ w.heap.size ≤ k
theorem Lies.ne {w : World} {v v' : Value} (h : Lies w v v') {b : Nat} (hb : b < w.heap.size) (hne : some b ≠ v.ownBlock) : some b ≠ v'.ownBlock := by
  rcases h with h | ⟨k, h, hk⟩
  · rw [h]; exact hne
  · rw [h]; intro e; cases e; omega
theorem Seg.grown {w w' : World} {row : Option Nat} {b off : Nat} {l : List Int} (h : Seg w b off l) (hg : w.grownBy w' row) (hb : b < w.heap.size) (hne : some b ≠ row) : Seg w' b off l := fun i hi =>
  (World.cell?_of_block (hg.block b hb hne)).trans (h i hi)
theorem grown_trans {w w1 w2 : World} {v v1 : Value} (h : w.grownBy w1 v.ownBlock) (hl : Lies w v v1) (h2 : w1.grownBy w2 v1.ownBlock) : w.grownBy w2 v.ownBlock :=
  ⟨h2.os.trans h.os, h2.tape.trans h.tape, h2.output.trans h.output, Nat.le_trans h.size h2.size, fun k hk hne => (h2.block k (Nat.lt_of_lt_of_le hk h.size) (hl.ne hk hne)).trans (h.block k hk hne)⟩
theorem Lies.trans {w w1 : World} {v v1 v2 : Value} (h : Lies w v v1) (hs : w.heap.size ≤ w1.heap.size) (h2 : Lies w1 v1 v2) : Lies w v v2 := by
  rcases h2 with h2 | ⟨k, h2, hk⟩
  · rcases h with h | ⟨k, h, hk⟩
    · exact .inl (h2.trans h)
    · exact .inr ⟨k, h2.trans h, hk⟩
  · exact .inr ⟨k, h2, Nat.le_trans hs hk⟩
theorem grown_allocD {w w1 : World} {row : Option Nat} {o : Obj} (h : (w.alloc o).drew.grownBy w1 row) : w.grownBy w1 row :=
  ⟨h.os, h.tape, h.output, Nat.le_trans (by simp) h.size, fun k hk hne => (h.block k (by simp; omega) hne).trans (Below.heap_alloc w o k hk)⟩
theorem grown_alloc {w w1 : World} {row : Option Nat} {o : Obj} (h : (w.alloc o).grownBy w1 row) : w.grownBy w1 row :=
  ⟨h.os, h.tape, h.output, Nat.le_trans (by simp) h.size, fun k hk hne => (h.block k (by simp; omega) hne).trans (Below.heap_alloc w o k hk)⟩
theorem grown_below {w w1 : World} {B n : Nat} {v : Value} {xs : List Value} {e size : Nat} (hB : B ≤ w.heap.size) (ho : w.ownsRow B e size v n xs) (h : w.grownBy w1 v.ownBlock) : Below B w w1 :=
  (Below.refl B w).grown h hB (fun k e => (ho.lt k e).1)
theorem lies_of {w w1 : World} {v : Value} {gg H n c : Nat} (h : v.ownBlock = some gg ∨ gg = H) (hH : w.heap.size ≤ H) : Lies w v (.slice (some ⟨gg, 0, none⟩) n c) := by
  rcases h with h | h
  · exact .inl h.symm
  · exact .inr ⟨gg, rfl, by omega⟩
theorem Bs.toB {w : World} {ao : Option Addr} {n : Nat} {zs : List Int} (h : Bs w ao n zs) : BsB w w.heap.size ao n zs := h
theorem BsB.cut {w : World} {B b off : Nat} {zs : List Int} (hs : Seg w b off zs) (hb : b < B) (hby : ∀ i, 0 ≤ g zs i ∧ g zs i ≤ 255) (lo hi n : Nat) (hn : n = hi - lo) (hh : hi ≤ zs.length) : BsB w B (some ⟨b, off + lo, none⟩) n ((zs.take hi).drop lo) := by
  refine ⟨by simp; omega, bytes_cut hby lo hi, ?_⟩
  exact .inr ⟨b, off + lo, rfl, hb, hs.cut lo hi⟩
/-- The rest of a slice, wherever it is cut. -/
theorem BsB.rest {w : World} {B n cap : Nat} {ao : Option Addr} {zs : List Int} (h : BsB w B ao n zs) (lo : Nat) (hlo : lo ≤ n) (hc : n ≤ cap) : BsB w B (if cap = lo then ao else Option.map (fun x => x.add lo) ao) (n - lo) (zs.drop lo) := by
  obtain ⟨hz, hby, h0⟩ := h
  refine ⟨by simp [hz], bytes_drop hby lo, ?_⟩
  by_cases e : n = lo
  · exact .inl (by omega)
  · rcases h0 with h0 | ⟨b, off, rfl, hb, hs⟩
    · omega
    · refine .inr ⟨b, off + lo, ?_, hb, ?_⟩
      · rw [if_neg (by omega)]; simp [Addr.add_lit]
      · have := hs.cut lo n
        rw [List.take_of_length_le (by omega)] at this
        exact this
theorem emptyB {w : World} {B : Nat} (hB : B ≤ w.heap.size) : (w.alloc (.cells #[] 5)).ownsRow B 5 1 (.slice (some ⟨w.heap.size, 0, none⟩) 0 0) 0 (bv []) :=
  ⟨rfl, .inr ⟨w.heap.size, 0, #[], rfl, hB, heap_alloc_new w _, Nat.le_refl _, by unfold maxLen; omega, rfl, rfl⟩⟩
theorem grown_drewN {w w1 : World} {nq : Nat} {row : Option Nat} (h : (w.drewN nq).grownBy w1 row) : w.grownBy w1 row := ⟨h.os, h.tape, h.output, h.size, h.block⟩
theorem owns_bytes {w : World} {B e n : Nat} {v : Value} {xs : List Int} (h : w.ownsRow B e 1 v n (bv xs)) (hn : 0 < n) :
    ∃ gb c, v = .slice (some ⟨gb, 0, none⟩) n c ∧ ∀ i, i < n → w.cell? ⟨gb, i, none⟩ = some (.int .u8 (g xs i)) := by
  obtain ⟨gb, c, rfl, _, _⟩ := h.form hn
  refine ⟨gb, c, rfl, fun i hi => ?_⟩
  have hlen : xs.length = n := by have := h.1; rw [bv_length] at this; omega
  rw [h.cellAt i (by omega)]
  simp [bv, g, hlen, hi]
theorem owns_below {w w' : World} {B e size n : Nat} {v : Value} {xs : List Value} (h : w.ownsRow B e size v n xs) (hb : Below w.heap.size w w') : w'.ownsRow B e size v n xs := by
  refine ⟨h.1, ?_⟩
  rcases h.2 with hn | ⟨g, cap, cur, rfl, hg, hgg, rest⟩
  · exact .inl hn
  · exact .inr ⟨g, cap, cur, rfl, hg, by rw [hb.block g (heap_lt hgg)]; exact hgg, rest⟩
def Bytes (zs : List Int) : Prop := ∀ x ∈ zs, 0 ≤ x ∧ x ≤ 255
theorem Bytes.g {zs : List Int} (h : Bytes zs) : ∀ i, 0 ≤ Lz.g zs i ∧ Lz.g zs i ≤ 255 := fun i => by
  unfold Lz.g
  by_cases hi : i < zs.length
  · simp only [List.getD, List.getElem?_eq_getElem hi, Option.getD_some]
    exact h _ (List.getElem_mem hi)
  · simp only [List.getD, List.getElem?_eq_none (by omega : zs.length ≤ i), Option.getD_none]; omega
theorem Bytes.of_g {zs : List Int} (h : ∀ i, 0 ≤ Lz.g zs i ∧ Lz.g zs i ≤ 255) : Bytes zs := fun x hx => by
  obtain ⟨i, hi, rfl⟩ := List.getElem_of_mem hx
  have := h i
  rw [Lz.g_lt zs i hi] at this
  exact this
theorem Bytes.append {a b : List Int} (h : Bytes a) (k : Bytes b) : Bytes (a ++ b) := fun x hx => by
  rcases List.mem_append.1 hx with h1 | h1
  · exact h x h1
  · exact k x h1
theorem Bytes.take {a : List Int} (h : Bytes a) (n : Nat) : Bytes (a.take n) := fun x hx => h x (List.mem_of_mem_take hx)
theorem Bytes.drop {a : List Int} (h : Bytes a) (n : Nat) : Bytes (a.drop n) := fun x hx => h x (List.mem_of_mem_drop hx)
theorem bs_of_owns {w : World} {B n c : Nat} {ao : Option Addr} {zs : List Int} (h : w.ownsRow B 5 1 (.slice ao n c) n (bv zs)) (hb : Bytes zs) : Bs w ao n zs := by
  have hlen : zs.length = n := by have := h.1; rw [bv_length] at this; omega
  refine ⟨hlen, hb.g, ?_⟩
  by_cases e : n = 0
  · exact .inl e
  · obtain ⟨gb, c', hv, _, hlt⟩ := h.form (by omega)
    obtain ⟨rfl, _, rfl⟩ : ao = some ⟨gb, 0, none⟩ ∧ n = n ∧ c = c' := by simpa using hv
    refine .inr ⟨gb, 0, rfl, hlt, fun i hi => ?_⟩
    rw [Nat.zero_add, h.cellAt i (by omega)]
    unfold bv
    rw [List.getElem?_map, List.getElem?_eq_getElem hi, Lz.g_lt _ _ hi]; rfl
theorem cap_of_owns {w : World} {B n c e : Nat} {ao : Option Addr} {xs : List Value} (h : w.ownsRow B e 1 (.slice ao n c) n xs) : n ≤ c := by
  rcases h.2 with ⟨e, _⟩ | ⟨_, _, _, e, _, _, h, _⟩
  · simp at e; omega
  · simp at e; omega
theorem str_any {w : World} {ao : Option Addr} {n : Nat} {zs : List Int} (h : Bs w ao n zs) (c : Nat) : (convert 30 9 (.slice ao n c)).run Try.prog w = .ok (.string (strOfNums zs)) w := by
  obtain ⟨hz, _, h0⟩ := h
  rcases h0 with h0 | ⟨b, off, rfl, _, hs⟩
  · subst h0
    have : zs = [] := List.eq_nil_of_length_eq_zero hz
    subst this
    cases ao with
    | none => exact run_convert_bytes_nil w _ _ Try.underlying30 Try.underlying5 0 c _ Try.underlying9
    | some a =>
      rw [run_convert_bytes_string w _ _ _ _ 0 c Try.underlying30 Try.underlying5 Try.underlying9, run_bytesToString w a 0 c [] (by simp [loadCells, loadCellsFrom])]
      rfl
  · exact run_convert_bytes_arg w _ _ Try.underlying30 Try.underlying5 b off n c zs hz (fun i hi => hs i (by omega)) _ Try.underlying9
/-- Bytes that were just laid down. -/
theorem bs_new (w : World) (fz : Nat × Nat) (zs : List Int) (hb : Bytes zs) : Bs (w.alloc (.cells (bv zs).toArray 5 fz)) (some ⟨w.heap.size, 0, none⟩) zs.length zs := by
  refine ⟨rfl, hb.g, .inr ⟨w.heap.size, 0, rfl, by simp, fun i hi => ?_⟩⟩
  rw [Nat.zero_add, cell_of_row _ w.heap.size i _ _ _ (heap_alloc_new w _)]
  simp [bv, Lz.g_lt _ _ hi, hi]
/-- A slice of bytes that came in. -/
def RowB (w : World) (a : Option Addr) (len cap : Nat) (zs : List Int) : Prop :=
  (a = none ∧ len = 0 ∧ cap = 0 ∧ zs = []) ∨
  ∃ x, a = some x ∧ len ≤ cap ∧ cap ≤ maxLen ∧ zs.length = cap ∧ (∀ i, i < zs.length → w.cell? (x.add i) = some (.int .u8 (zs.getD i 0))) ∧ ∀ n ∈ zs, (Lit.int .u8 n).wf = true
theorem wf_u8 {n : Int} (h : (Lit.int .u8 n).wf = true) : 0 ≤ n ∧ n ≤ 255 := by
  have := bounds_u8 h
  omega
theorem wf_i64_bd {n : Int} (h : (Lit.int .i64 n).wf = true) : -9223372036854775808 ≤ n ∧ n ≤ 9223372036854775807 := by
  have := bounds_i64 h
  omega
theorem Bs.alloc {w : World} {ao : Option Addr} {n : Nat} {zs : List Int} (h : Bs w ao n zs) (o : Obj) : Bs (w.alloc o) ao n zs := h.below ((Below.refl _ _).alloc (Nat.le_refl _) o)
/-- Its first m bytes. -/
theorem RowB.bs {w : World} {a : Option Addr} {len cap : Nat} {zs : List Int} (h : RowB w a len cap zs) (m : Nat) (hm : m ≤ len) : Bs w a m (zs.take m) ∧ len ≤ cap ∧ cap ≤ 9223372036854775807 ∧ Bytes (zs.take m) ∧ (a = none → cap = 0) := by
  rcases h with ⟨rfl, rfl, rfl, rfl⟩ | ⟨x, rfl, hl, hc, hz, hcell, hwf⟩
  · obtain rfl : m = 0 := by omega
    exact ⟨⟨rfl, fun i => by simp [g], .inl rfl⟩, by omega, by omega, fun x hx => by simp at hx, fun _ => rfl⟩
  · have hb : Bytes zs := fun n hn => wf_u8 (hwf n hn)
    refine ⟨⟨by simp; omega, (hb.take m).g, ?_⟩, hl, by unfold maxLen at hc; omega, hb.take m, fun e => by simp at e⟩
    by_cases e : m = 0
    · exact .inl e
    · obtain ⟨b, off, spot⟩ := x
      have hc0 := hcell 0 (by omega)
      have hspot : spot = none := by simpa [Addr.add] using World.cell?_spot hc0
      subst hspot
      have hlt : b < w.heap.size := by
        have := World.block_lt_of_cell? w _ hc0
        simpa [Addr.add] using this
      refine .inr ⟨b, off, rfl, hlt, fun i hi => ?_⟩
      simp at hi
      rw [Lz.g_take _ _ _ (by omega)]
      have := hcell i (by omega)
      rw [Addr.add_lit] at this
      exact this
theorem Bytes.nil : Bytes [] := fun x hx => by simp at hx
theorem Bytes.snoc {out : List Int} (h : Bytes out) (i : Nat) : Bytes (out ++ [Lz.g out i]) := h.append (fun x hx => by simp at hx; rw [hx]; exact h.g i)
/-- 'append' to a row of bytes of the call's own, of bytes wherever they lie, none too. -/
theorem wpList_append_bs (w : World) {ops : Array Oper} {rest : List Oper} {o : Oper} {a : Act} {Q : Exit → Act → World → Prop} (hgd : o.guard = none) (s x : Operand)
    (ho : o.op = .call { callee := .builtin .append, args := #[s, x], argTypes := #[30, 30] })
    (base : Nat) (vo : Option Addr) (n vc : Nat) (xs : List Int) (hs : a.eval s = .slice vo n vc) (hown : w.ownsRow base 5 1 (.slice vo n vc) n (bv xs))
    (ao : Option Addr) (m c : Nat) (zs : List Int) (hx : a.eval x = .slice ao m c) (hb : Bs w ao m zs) (hnil : ao = none → c = 0)
    (hbd : n + m ≤ 100000000) (hbase : base ≤ w.heap.size)
    (h : ∀ ao' c' w', w'.ownsRow base 5 1 (.slice ao' (n + m) c') (n + m) (bv (xs ++ zs)) → w.grownBy w' (Value.slice vo n vc).ownBlock → wpList Try.prog ops Q rest (a.put o.dst (.slice ao' (n + m) c')) w') :
    wpList Try.prog ops Q (o :: rest) a w := by
  obtain ⟨i0, hi, hz0, hz1, hz2⟩ := info_parts infoByte
  obtain ⟨hz, hby, h0⟩ := hb
  cases ao with
  | none =>
    obtain rfl : c = 0 := hnil rfl
    obtain rfl : m = 0 := by
      rcases h0 with h0 | ⟨b, off, h1, _⟩
      · exact h0
      · simp at h1
    obtain rfl : zs = [] := List.eq_nil_of_length_eq_zero hz
    refine wpList_append_own_none hgd s x _ ho base 5 i0 1 Try.underlying30 hi _ n (bv xs) hs hown hx ?_
    have := h vo vc w (by simpa using hown) (World.grownBy.refl _ _)
    simpa using this
  | some ad =>
    refine wpList_append_own w hgd s x _ ho base 5 i0 (.int .u8 0) 1 1 Try.underlying30 hi hz0 hz1 hz2 rfl (by decide) _ n (bv xs) hs hown ad m c (bv zs) hx (by rw [bv_length]; omega) ?_ (bv_one _) (by unfold maxLen; omega) (by omega) hbase ?_
    · rcases h0 with h0 | ⟨b, off, h1, _, hseg⟩
      · have : zs = [] := List.eq_nil_of_length_eq_zero (by omega)
        subst this
        intro j u hu; simp [bv] at hu
      · obtain rfl := Option.some.inj h1
        have := news_seg hseg m
        rw [List.take_of_length_le (by omega)] at this
        exact this
    · intro v' w' h2 h3 _
      obtain ⟨ao', c', rfl⟩ := owns_shape h2
      exact h ao' c' w' (by rw [bv_append]; exact h2) h3
theorem nil_cap {w : World} {B n c e : Nat} {ao : Option Addr} {vs : List Value} (h : w.ownsRow B e 1 (.slice ao n c) n vs) : ao = none → c = 0 := fun hn => by
  subst hn
  rcases h.2 with ⟨e, _⟩ | ⟨_, _, _, e, _⟩
  · simp at e; omega
  · simp at e
theorem Bs.take {w : World} {ao : Option Addr} {n : Nat} {zs : List Int} (h : Bs w ao n zs) (k : Nat) (hk : k ≤ n) : Bs w ao k (zs.take k) := by
  obtain ⟨hz, hby, h0⟩ := h
  refine ⟨by simp; omega, bytes_take hby k, ?_⟩
  by_cases e : k = 0
  · exact .inl e
  · rcases h0 with h0 | ⟨b, off, h1, h2, h3⟩
    · omega
    · refine .inr ⟨b, off, h1, h2, ?_⟩
      have := h3.cut 0 k
      simpa using this
def half (K i : Nat) (c : Int) : List Int := List.replicate i c ++ List.replicate (K - i) 0
theorem half_length (K i : Nat) (c : Int) (h : i ≤ K) : (half K i c).length = K := by simp [half]; omega
theorem half_set (K i : Nat) (c : Int) (h : i < K) : (bv (half K i c)).set i (.int .u8 c) = bv (half K (i + 1) c) := by
  unfold half bv
  rw [show K - i = (K - (i + 1)) + 1 by omega, List.replicate_succ (n := K - (i + 1))]
  rw [List.map_append, List.set_append_right _ _ (by simp)]
  simp [List.replicate_succ', List.append_assoc]
theorem half_zero (K : Nat) (c : Int) : (madeCells (Value.int .u8 0).cells (K * 1)).toList = bv (half K 0 c) := by
  rw [Nat.mul_one]
  show (madeCells #[Value.int .u8 0] K).toList = _
  rw [toList_madeCells_one]
  simp [half, bv]
theorem half_full (K : Nat) (c : Int) : half K K c = List.replicate K c := by simp [half]
theorem hide {p : Prop} (h : p) : Hid p := h
theorem ret_bool {a b : Bool} (h : a = b) : Ending.returned (.bool a) = .returned (.bool b) := by rw [h]
theorem enters (fn : Nat) {f : Func} {c : Code} (hf : Try.prog.funcs[fn]? = some f) (hname : (f.name == "runtime.NumGoroutine") = false) (hb : f.body = some c) : ∀ (args : Array Value) (w : World), (callFunc fn args).run Try.prog w = .ok (.enter fn args) w := fun args w => by
  have hn : ¬ f.name = "runtime.NumGoroutine" := by simpa using hname
  simp [callFunc, hf, hn, hb]
theorem heap_new {w : World} {o : Obj} {k : Nat} (h : k = w.heap.size) : (w.alloc o).heap[k]? = some o := by subst h; exact heap_alloc_new w o
theorem below_drewN {B : Nat} {a b : World} (h : Below B a b) (n : Nat) : Below B a (b.drewN n) := ⟨h.os, h.tape, h.output, h.size, h.block⟩
theorem below_one (w : World) (o : Obj) : Below w.heap.size w (w.alloc o) := (Below.refl _ _).alloc (Nat.le_refl _) o
theorem Bs.bytes {w : World} {ao : Option Addr} {n : Nat} {zs : List Int} (h : Bs w ao n zs) : Bytes zs := Bytes.of_g h.2.1
def In64 (x : Int) : Prop := -9223372036854775808 ≤ x ∧ x ≤ 9223372036854775807
theorem str_inj : ∀ {xs ys : List Int}, Bytes xs → Bytes ys → strOfNums xs = strOfNums ys → xs = ys := by
  intro xs ys hx hy h
  have h2 : xs.map (fun n => UInt8.ofNat n.toNat) = ys.map (fun n => UInt8.ofNat n.toNat) := by
    have := congrArg (fun b : ByteArray => b.data.toList) h
    simpa [strOfNums] using this
  clear h
  induction xs generalizing ys with
  | nil => cases ys with
    | nil => rfl
    | cons y ys => simp at h2
  | cons x xs ih => cases ys with
    | nil => simp at h2
    | cons y ys =>
      simp only [List.map_cons, List.cons.injEq] at h2
      have hx0 := hx x (by simp)
      have hy0 := hy y (by simp)
      have e := congrArg UInt8.toNat h2.1
      rw [UInt8.toNat_ofNat_of_lt' (by show x.toNat < 256; omega), UInt8.toNat_ofNat_of_lt' (by show y.toNat < 256; omega)] at e
      rw [ih (fun z hz => hx z (by simp [hz])) (fun z hz => hy z (by simp [hz])) h2.2]
      congr 1; omega
theorem str_eq {x y : List Int} (hx : Bytes x) (hy : Bytes y) : ((strOfNums x).toList == (strOfNums y).toList) = decide (x = y) := by
  rw [Bool.eq_iff_iff, beq_iff_eq, decide_eq_true_eq]
  refine ⟨fun h => str_inj hx hy ?_, fun h => by rw [h]⟩
  rw [ByteArray.toList_eq, ByteArray.toList_eq] at h
  exact ByteArray.ext (Array.toList_inj.1 h)
theorem results_cr2 {fn : Func} {p u : Tmp} {ty : TypeId} (h : fn.results = #[.cell p ty, .tmp u]) (tmps : Array Value) (w : World) (g : Nat) (cs : Array Value)
    (hp : tmps.getD p undef = .pointer (some ⟨g, 0, none⟩)) (hr : (loadVar ty ⟨g, 0, none⟩).run Try.prog w = .ok (.agg cs) w) :
    (results fn tmps).run Try.prog w = .ok (.tuple #[.agg cs, tmps.getD u undef]) w := by
  have hp' : tmps[p]?.getD undef = .pointer (some ⟨g, 0, none⟩) := by simpa using hp
  simp [results, h, hp', asAddr, hr]
theorem yieldsIf_load_row {ops : Array Oper} {S : World → Prop} {op : Oper} {a : Act} (hw : Region.wanted op (yielded ops a.tmps) = true) (ty : TypeId) (x : Operand) (ho : op.op = .load ty x)
    (b : Nat) (hx : a.eval x = .pointer (some ⟨b, 0, none⟩)) (cs : Array Value) (hS : ∀ w, S w → (loadVar ty ⟨b, 0, none⟩).run Try.prog w = .ok (.agg cs) w) : YieldsIf Try.prog ops S op (.agg cs) a :=
  .inl ⟨hw, fun w hw' => by
    unfold execOp
    simp only [ho, hx, Instr.loadAt, Instr.sureAddr, Sem.run_bind, Sem.run_pure, Result.andThen_ok, hS w hw']⟩
theorem emptyR {w : World} {B t size : Nat} (hB : B ≤ w.heap.size) : (w.alloc (.cells #[] t)).ownsRow B t size (.slice (some ⟨w.heap.size, 0, none⟩) 0 0) 0 [] :=
  ⟨by simp, .inr ⟨w.heap.size, 0, #[], rfl, hB, heap_alloc_new w _, Nat.le_refl _, by unfold maxLen; omega, by simp, by simp⟩⟩
theorem owns_obj {w : World} {B e size n k : Nat} {v : Value} {xs : List Value} (h : w.ownsRow B e size v n xs) (hk : v.ownBlock = some k) : ∃ cur, w.heap[k]? = some (.cells cur e (0, 0)) := by
  rcases h.2 with ⟨rfl, _⟩ | ⟨g, cap, cur, rfl, _, hgg, _⟩
  · simp [Value.ownBlock] at hk
  · simp [Value.ownBlock] at hk
    subst hk
    exact ⟨cur, hgg⟩
/-- Blocks of two types are two. -/
theorem ne_obj {w : World} {a b : Nat} {cs cs' : Array Value} {t t' : TypeId} {f f' : Nat × Nat} (h : w.heap[a]? = some (.cells cs t f)) (k : w.heap[b]? = some (.cells cs' t' f')) (ht : t ≠ t') : a ≠ b := fun e => by
  subst e
  rw [h] at k
  injection k with k
  injection k with _ k2 _
  exact ht k2
end Go.Proofs.Ytgmkldfjbjnkcaa

import Derived.Test.YtoohanojfoichaaGreatDoorOFrmJoin
import Derived.ArgAppend
import Derived.Deep.MidRow
import Derived.Deep.Upon
import Derived.Deep.RegionLaw
import Derived.Maps.OwnSet
import Derived.Stop.BytesEq
import Derived.Deep.QuietTactic
import Derived.Deep.RegionHeld3
set_option linter.unusedVariables false
namespace Go.Proofs.YtoohanojfoichaaGreatDoor.Mtr
open Lz (g pack unpack up)
open Crc (ent more)
open Cur (le by')
open Frm
def blk (z : List Int) (k : Nat) : List Int := (z.drop (128 * k)).take 128
theorem blk_length (z : List Int) (k : Nat) : (blk z k).length = min 128 (z.length - 128 * k) := by simp [blk]
theorem blk_le (z : List Int) (k : Nat) : (blk z k).length ≤ 128 := by rw [blk_length]; omega
theorem blk_bytes {z : List Int} (h : Bytes z) (k : Nat) : Bytes (blk z k) := (h.drop _).take _
theorem blk_append (z y : List Int) (k : Nat) (h : 128 * (k + 1) ≤ z.length) : blk (z ++ y) k = blk z k := by
 unfold blk
 rw [List.drop_append_of_le_length (by omega), List.take_append_of_le_length (by simp; omega)]
end Go.Proofs.YtoohanojfoichaaGreatDoor.Mtr
namespace Go.Proofs.YtoohanojfoichaaGreatDoor
open Go.RowKit Go.Maps
open Lz (g)
open Crc (ent)
open Frm
theorem heap_setCells_self {p : Nat} {t : TypeId} {fz : Nat × Nat} : ∀ (vs : List Value) (o : Nat) (w : World) (cur : Array Value), w.heap[p]? = some (.cells cur t fz) → ∃ cur', (w.setCells p o vs).heap[p]? = some (.cells cur' t fz)
 | [], _, _, cur, h => ⟨cur, h⟩
 | v :: r, o, w, cur, h => heap_setCells_self r (o + 1) _ _ (heap_setCell_self h v)
theorem size_setCells (b : Nat) : ∀ (vs : List Value) (o : Nat) (w : World), (w.setCells b o vs).heap.size = w.heap.size
 | [], _, _ => rfl
 | v :: r, o, w => by rw [World.setCells, size_setCells b r (o + 1)]; simp [World.setCell]
theorem setCells_other (b : Nat) : ∀ (vs : List Value) (o : Nat) (w : World) (k : Nat), k ≠ b → (w.setCells b o vs).heap[k]? = w.heap[k]?
 | [], _, _, _, _ => rfl
 | v :: r, o, w, k, h => by rw [World.setCells, setCells_other b r (o + 1) _ k h, Below.heap_setCell _ _ _ _ h]
theorem setCells_tape (b : Nat) : ∀ (vs : List Value) (o : Nat) (w : World), (w.setCells b o vs).tape = w.tape
 | [], _, _ => rfl
 | v :: r, o, w => by rw [World.setCells, setCells_tape b r (o + 1)]; simp [World.setCell]
theorem grown_setCells (w : World) (b o : Nat) (vs : List Value) : w.grownBy (w.setCells b o vs) (some b) :=
 ⟨World.os_setCells w b o vs, setCells_tape b vs o w, World.output_setCells w b o vs, by rw [size_setCells]; exact Nat.le_refl _, fun k _ hk => setCells_other b vs o w k (fun e => hk (by rw [e]))⟩
def Rw (w : World) (B : Nat) (ao : Option Addr) (n c : Nat) (zs : List Int) : Prop :=
 zs.length = n ∧ Bytes zs ∧ n ≤ c ∧ c ≤ maxLen ∧ ((ao = none ∧ c = 0) ∨ ∃ gb off, ao = some ⟨gb, off, none⟩ ∧ B ≤ gb ∧ (∃ cur, w.heap[gb]? = some (.cells cur 5 (0, 0))) ∧
  (∀ i, i < n → w.cell? ⟨gb, off + i, none⟩ = some (.int .u8 (g zs i))) ∧ ∀ i, i < c → (w.cell? ⟨gb, off + i, none⟩).isSome = true)
theorem Rw.none (w : World) (B : Nat) : Rw w B none 0 0 [] := ⟨rfl, Bytes.nil, Nat.le_refl _, Nat.zero_le _, .inl ⟨rfl, rfl⟩⟩
theorem Rw.bs {w : World} {B n c : Nat} {ao : Option Addr} {zs : List Int} (h : Rw w B ao n c zs) : Bs w ao n zs := by
 obtain ⟨h1, h2, h3, h4, h5⟩ := h
 refine ⟨h1, h2.g, ?_⟩
 rcases h5 with ⟨_, h5⟩ | ⟨gb, off, h5, h6, ⟨cur, h7⟩, h8, h9⟩
 ·exact .inl (by omega)
 ·exact .inr ⟨gb, off, h5, heap_lt h7, fun i hi => h8 i (by omega)⟩
theorem Rw.nil {w : World} {B n c : Nat} {ao : Option Addr} {zs : List Int} (h : Rw w B ao n c zs) : ao = Option.none → c = 0 := by
 intro e
 rcases h.2.2.2.2 with ⟨_, h5⟩ | ⟨gb, off, h5, _⟩
 ·exact h5
 ·rw [e] at h5; simp at h5
theorem Rw.own {w : World} {B n c : Nat} {ao : Option Addr} {zs : List Int} (h : Rw w B ao n c zs) {k : Nat} (hk : (Value.slice ao n c).ownBlock = some k) : B ≤ k ∧ k < w.heap.size ∧ ∃ cur, w.heap[k]? = some (.cells cur 5 (0, 0)) := by
 rcases h.2.2.2.2 with ⟨rfl, _⟩ | ⟨gb, off, rfl, h6, h7, _⟩
 ·simp [Value.ownBlock] at hk
 ·simp [Value.ownBlock] at hk
  subst hk
  obtain ⟨cur, h7⟩ := h7
  exact ⟨h6, heap_lt h7, cur, h7⟩
theorem Rw.fr {S : Nat → Prop} {w w' : World} {B n c : Nat} {ao : Option Addr} {zs : List Int} (h : Rw w B ao n c zs) (hf : Fr S w w') (hn : ∀ k, (Value.slice ao n c).ownBlock = some k → ¬ S k) : Rw w' B ao n c zs := by
 obtain ⟨h1, h2, h3, h4, h5⟩ := h
 refine ⟨h1, h2, h3, h4, ?_⟩
 rcases h5 with h5 | ⟨gb, off, rfl, h6, ⟨cur, h7⟩, h8, h9⟩
 ·exact .inl h5
 ·have hlt := heap_lt h7
  have hb := hf.block gb hlt (hn gb rfl)
  refine .inr ⟨gb, off, rfl, h6, ⟨cur, hb.trans h7⟩, fun i hi => (World.cell?_of_block (w := w) (a := ⟨gb, off + i, Option.none⟩) hb).trans (h8 i hi), fun i hi => ?_⟩
  rw [World.cell?_of_block (w := w) (a := ⟨gb, off + i, Option.none⟩) hb]; exact h9 i hi
theorem Rw.of_owns {w : World} {B n c : Nat} {ao : Option Addr} {zs : List Int} (h : w.ownsRow B 5 1 (.slice ao n c) n (bv zs)) (hb : Bytes zs) : Rw w B ao n c zs := by
 have hlen : zs.length = n := by have := h.1; rw [bv_length] at this; omega
 have h0 := h
 rcases h.2 with ⟨e, _⟩ | ⟨gb, cap, cur, e, h1, h2, h3, h4, h5, h6⟩
 ·simp at e
  obtain ⟨rfl, rfl, rfl⟩ := e
  exact ⟨hlen, hb, Nat.le_refl _, Nat.zero_le _, .inl ⟨rfl, rfl⟩⟩
 ·simp at e
  obtain ⟨rfl, rfl⟩ := e
  refine ⟨hlen, hb, h3, h4, .inr ⟨gb, 0, rfl, h1, ⟨cur, h2⟩, fun i hi => ?_, fun i hi => ?_⟩⟩
  ·rw [Nat.zero_add, h0.cellAt i (by omega)]
   unfold bv
   rw [List.getElem?_map, List.getElem?_eq_getElem (by omega), Lz.g_lt _ _ (by omega)]; rfl
  ·rw [Nat.zero_add, cell_of_row _ _ i _ _ _ h2]
   rw [Array.getElem?_eq_getElem (by omega)]; rfl
theorem Rw.mono {w : World} {B B' n c : Nat} {ao : Option Addr} {zs : List Int} (h : Rw w B ao n c zs) (hb : B' ≤ B) : Rw w B' ao n c zs := by
 obtain ⟨h1, h2, h3, h4, h5⟩ := h
 refine ⟨h1, h2, h3, h4, ?_⟩
 rcases h5 with h5 | ⟨gb, off, rfl, h6, h7⟩
 ·exact .inl h5
 ·exact .inr ⟨gb, off, rfl, Nat.le_trans hb h6, h7⟩
theorem Rw.drop {w : World} {B n c : Nat} {ao : Option Addr} {zs : List Int} (h : Rw w B ao n c zs) (k : Nat) (hk : k ≤ n) : Rw w B (if c = k then ao else Option.map (fun x => x.add k) ao) (n - k) (c - k) (zs.drop k) := by
 obtain ⟨h1, h2, h3, h4, h5⟩ := h
 refine ⟨by simp; omega, h2.drop k, by omega, by omega, ?_⟩
 rcases h5 with ⟨rfl, h5⟩ | ⟨gb, off, rfl, h6, h7, h8, h9⟩
 ·exact .inl ⟨by simp, by omega⟩
 ·by_cases e : c = k
  ·rw [if_pos e]
   exact .inr ⟨gb, off, rfl, h6, h7, fun i hi => by omega, fun i hi => by omega⟩
  ·rw [if_neg e]
   refine .inr ⟨gb, off + k, by simp [Addr.add_lit], h6, h7, fun i hi => ?_, fun i hi => ?_⟩
   ·rw [Nat.add_assoc, Lz.g_drop]; exact h8 (k + i) (by omega)
   ·rw [Nat.add_assoc]; exact h9 (k + i) (by omega)
theorem rw_own_drop (ao : Option Addr) (n c n' c' k : Nat) (j : Nat) (h : (Value.slice (if c = k then ao else Option.map (fun x => x.add k) ao) n' c').ownBlock = some j) : (Value.slice ao n c).ownBlock = some j := by
 cases ao with
 | none => simp [Value.ownBlock] at h
 | some a =>
  obtain ⟨b, o, s⟩ := a
  by_cases e : c = k
  ·rw [if_pos e] at h; simpa [Value.ownBlock] using h
  ·rw [if_neg e] at h
   simp only [Option.map_some] at h
   by_cases e0 : k = 0
   ·cases s <;> simpa [Value.ownBlock, Addr.add, e0] using h
   ·cases s <;> simpa [Value.ownBlock, Addr.add, e0] using h
set_option maxHeartbeats 400000 in
theorem run_append_rw (w : World) (ty : TypeId) {B n vc m c : Nat} {vo ao : Option Addr} {xs zs : List Int} (h : Rw w B vo n vc xs) (hB : B ≤ w.heap.size) (hb : Bs w ao m zs) (hnil : ao = none → c = 0) (hbd : n + m ≤ 100000000) :
    ∃ ao' c' w', (Builtin.append_ #[25, 25] ty #[.slice vo n vc, .slice ao m c]).run Tryz.prog w = .ok (.slice ao' (n + m) c') w' ∧ Rw w' B ao' (n + m) c' (xs ++ zs) ∧ w.grownBy w' (Value.slice vo n vc).ownBlock ∧ Lie w (.slice vo n vc) (.slice ao' (n + m) c') := by
  obtain ⟨i0, hi, hz0, hz1, hz2⟩ := info_parts infoByte
  obtain ⟨hz, hby, h0⟩ := hb
  have hbz : Bytes zs := Bytes.of_g hby
  have hR := h
  obtain ⟨h1, h2, h3, h4, h5⟩ := h
  cases ao with
  | none =>
    obtain rfl : c = 0 := hnil rfl
    obtain rfl : m = 0 := by
      rcases h0 with h0 | ⟨b, off, h1, _⟩
      · exact h0
      · simp at h1
    obtain rfl : zs = [] := List.eq_nil_of_length_eq_zero hz
    refine ⟨vo, vc, w, ?_, by simpa using hR, World.grownBy.refl _ _, Lie.refl _ _⟩
    rcases h5 with ⟨rfl, rfl⟩ | ⟨gb, off, rfl, h6, h7, h8, h9⟩
    · obtain rfl : n = 0 := by omega
      simp [Builtin.append_, run_underlying Tryz.underlying25, sizeOf, typeInfo, hi, Builtin.lenOf, Builtin.firstCells]
    · simp [Builtin.append_, run_underlying Tryz.underlying25, sizeOf, typeInfo, hi, Builtin.lenOf, Builtin.firstCells, loadCells, storeCells, h3]
  | some ad =>
    have hnews : ∀ j u, (bv zs)[j]? = some u → w.cell? (ad.add j) = some u := by
      rcases h0 with h0 | ⟨b, off, e1, _, hseg⟩
      · have : zs = [] := List.eq_nil_of_length_eq_zero (by omega)
        subst this
        intro j u hu; simp [bv] at hu
      · obtain rfl := Option.some.inj e1
        have := news_seg hseg m
        rw [List.take_of_length_le (by omega)] at this
        exact this
    have hby2 : Bytes (xs ++ zs) := h2.append hbz
    have hlb : (bv zs).length = m * 1 := by rw [bv_length]; omega
    rcases h5 with ⟨rfl, rfl⟩ | ⟨gb, off, rfl, h6, h7, h8, h9⟩
    · obtain rfl : n = 0 := by omega
      obtain rfl : xs = [] := List.eq_nil_of_length_eq_zero h1
      obtain ⟨v', w', hrun, r1, r2, _⟩ := run_append_own (P := Tryz.prog) w w.heap.size 25 ty 5 i0 (.int .u8 0) 1 1 Tryz.underlying25 hi hz0 hz1 hz2 rfl (by decide) (.slice none 0 0) 0 [] (World.ownsRow_nil w _ _ _) ad m c (bv zs) hlb hnews (bv_one _) (by unfold maxLen; omega) (by omega) (Nat.le_refl _)
      obtain ⟨ao', c', rfl⟩ := owns_shape r1
      rw [show ([] : List Value) ++ bv zs = bv ([] ++ zs) by simp] at r1
      exact ⟨ao', c', w', hrun, (Rw.of_owns r1 hby2).mono hB, r2, fun k hk => .inr (r1.lt k hk).1⟩
    · by_cases hr : n + m ≤ vc
      · have hcs : ∀ j, j < (bv zs).length → (w.cell? ⟨gb, off + n * i0.size + j, none⟩).isSome = true := fun j hj => by
          rw [hz1, Nat.mul_one, Nat.add_assoc]; exact h9 (n + j) (by rw [bv_length] at hj; omega)
        obtain ⟨cur, h7'⟩ := h7
        have hfz : ∀ j, w.frozen? ⟨gb, j, none⟩ = false := fun j => by simp [World.frozen?, h7']
        have hrun := run_append_room_cells (P := Tryz.prog) w 25 ty 5 i0 Tryz.underlying25 hi gb off n vc ad m c (bv zs) (by rw [hz1]; exact hlb) hnews (bv_one _) hr hcs (fun j hj => hfz _)
        rw [hz1, Nat.mul_one] at hrun hcs
        refine ⟨some ⟨gb, off, none⟩, vc, _, hrun, ⟨by simp; omega, hby2, hr, h4, .inr ⟨gb, off, rfl, h6, heap_setCells_self _ _ _ _ h7', fun i hi' => ?_, fun i hi' => World.isSome_setCells gb _ _ _ _ (h9 i hi')⟩⟩, grown_setCells _ _ _ _, fun k hk => .inl hk⟩
        by_cases e : i < n
        · rw [World.cell?_setCells_out gb _ _ _ _ (fun _ _ => .inl (by show off + i < off + n; omega)), Lz.g_append_left _ _ _ (by omega)]
          exact h8 i e
        · have hj : i - n < (bv zs).length := by rw [bv_length]; omega
          have := World.cell?_setCells_in gb (bv zs) (off + n) w hcs (i - n) hj
          rw [show off + n + (i - n) = off + i by omega] at this
          rw [this]
          have hzl : i - n < zs.length := by omega
          have e1 : (bv zs)[i - n] = .int .u8 (g zs (i - n)) := by
            have hz' := Lz.g_lt zs (i - n) hzl
            rw [hz']; simp [bv]
          have e2 : g (xs ++ zs) i = g zs (i - n) := by
            have := Frm.g_app_r (a := xs) (b := zs) h1 (i - n)
            rw [show n + (i - n) = i by omega] at this
            exact this
          rw [e1, e2]
      · obtain ⟨v', w', hrun, r1, r2⟩ := run_append_arg_grows (P := Tryz.prog) w 25 ty 5 i0 (.int .u8 0) 1 1 Tryz.underlying25 hi hz0 hz1 hz2 rfl (by decide) ⟨gb, off, none⟩ n vc (bv xs) (by rw [bv_length]; omega) (fun j u hu => by
            rw [Addr.add_lit]
            have hj : j < xs.length := by have := (List.getElem?_eq_some_iff.1 hu).1; rwa [bv_length] at this
            rw [h8 j (by omega), ← hu]
            have hx' := Lz.g_lt xs j hj
            rw [hx']; simp [bv, hj]) ad m c (bv zs) hlb hnews (by omega) (by unfold maxLen; omega) (by omega)
        obtain ⟨ao', c', rfl⟩ := owns_shape r1
        rw [← bv_append] at r1
        refine ⟨ao', c', w', hrun, (Rw.of_owns r1 hby2).mono hB, ⟨r2.os, r2.tape, r2.output, r2.size, fun k hk _ => r2.block k hk (by simp)⟩, fun k hk => .inr (r1.lt k hk).1⟩
theorem wpList_append_rw (w : World) {ops : Array Oper} {rest : List Oper} {o : Oper} {a : Act} {Q : Exit → Act → World → Prop} (hgd : o.guard = none) (s x : Operand)
  (ho : o.op = .call { callee := .builtin .append, args := #[s, x], argTypes := #[25, 25] })
  (B : Nat) (vo : Option Addr) (n vc : Nat) (xs : List Int) (hs : a.eval s = .slice vo n vc) (hR : Rw w B vo n vc xs)
  (ao : Option Addr) (m c : Nat) (zs : List Int) (hx : a.eval x = .slice ao m c) (hb : Bs w ao m zs) (hnil : ao = none → c = 0)
  (hbd : n + m ≤ 100000000) (hB : B ≤ w.heap.size)
  (h : ∀ ao' c' w', Rw w' B ao' (n + m) c' (xs ++ zs) → w.grownBy w' (Value.slice vo n vc).ownBlock → Lie w (.slice vo n vc) (.slice ao' (n + m) c') → wpList Tryz.prog ops Q rest (a.put o.dst (.slice ao' (n + m) c')) w') :
  wpList Tryz.prog ops Q (o :: rest) a w := by
 refine wpList_plain hgd fun K hK => ?_
 obtain ⟨ao', c', w', hrun, r1, r2, r3⟩ := run_append_rw w o.type hR hB hb hnil hbd
 unfold Oper.wp
 simp [execOp, ho, resolve, invoke, builtin, hs, hx, hrun, Result.andThen]
 exact hK _ _ (h ao' c' w' r1 r2 r3)
theorem Tb.fr {S : Nat → Prop} {w w' : World} {b : Nat} {T : Nat → Nat} (h : Tb w b T) (hf : Fr S w w') (hlt : b < w.heap.size) (hn : ¬ S b) : Tb w' b T := fun i hi => (hf.cell (q := ⟨b, i, none⟩) hlt hn).trans (h i hi)
theorem step_append_rw (w : World) {ops : Array Oper} {o : Oper} {a : Act} {K : Act → World → Prop} {Q : Exit → Act → World → Prop} {E : Prop} (hgd : o.guard = none) (s x : Operand)
  (ho : o.op = .call { callee := .builtin .append, args := #[s, x], argTypes := #[25, 25] })
  (B : Nat) (vo : Option Addr) (n vc : Nat) (xs : List Int) (hs : a.eval s = .slice vo n vc) (hR : Rw w B vo n vc xs)
  (ao : Option Addr) (m c : Nat) (zs : List Int) (hx : a.eval x = .slice ao m c) (hb : Bs w ao m zs) (hnil : ao = none → c = 0)
  (hbd : n + m ≤ 100000000) (hB : B ≤ w.heap.size)
  (h : ∀ ao' c' w', Rw w' B ao' (n + m) c' (xs ++ zs) → w.grownBy w' (Value.slice vo n vc).ownBlock → Lie w (.slice vo n vc) (.slice ao' (n + m) c') → K (a.put o.dst (.slice ao' (n + m) c')) w') :
  if Region.wanted o (yielded ops a.tmps) = true then Oper.wp Tryz.prog o a w K Q else E := by
 have hw : Region.wanted o (yielded ops a.tmps) = true := by simp [Region.wanted, hgd]
 rw [if_pos hw]
 obtain ⟨ao', c', w', hrun, r1, r2, r3⟩ := run_append_rw w o.type hR hB hb hnil hbd
 unfold Oper.wp
 simp [execOp, ho, resolve, invoke, builtin, hs, hx, hrun, Result.andThen]
 exact h ao' c' w' r1 r2 r3
set_option maxRecDepth 100000 in
theorem CloneRw_any (n c : Nat) (ao : Option Addr) (zs : List Int) (w : World) (hb : Bs w ao n zs) (hc : n ≤ c) (hnil : ao = none → c = 0) (hn : n ≤ 100000000) :
  Calls Tryz.prog 54 #[.slice ao n c] w fun r w' => ∃ ao' c', r = .returned (.slice ao' n c') ∧ Rw w' w.heap.size ao' n c' zs ∧ Below w.heap.size w w' := by
 cases ao with
 | none =>
  obtain rfl : c = 0 := hnil rfl
  obtain rfl : n = 0 := by omega
  obtain rfl : zs = [] := List.eq_nil_of_length_eq_zero hb.1
  clear hnil hb
  have hq : ∀ w : World, (binOp .eql 25 (.slice none 0 0) (.slice none 0 0)).run Tryz.prog w = .ok (.bool true) w := fun w => eql_nil w none 0 0
  go_enter Tryz.func54, Tryz.ntmps54
  go_wp2
  go_ret
  exact ⟨_, _, rfl, Rw.none _ _, Below.refl _ _⟩
 | some a =>
  clear hnil
  have hq : ∀ w : World, (binOp .eql 25 (.slice (some a) n c) (.slice none 0 0)).run Tryz.prog w = .ok (.bool false) w := fun w => eql_nil w (some a) n c
  have ho := emptyB (w := w) (Nat.le_refl _)
  have hb2 := hb.alloc (.cells #[] 5)
  go_enter Tryz.func54, Tryz.ntmps54
  go_wp2_with (first
   | (at_builtin; refine wpList_append_bs _ rfl (.tmp 5) (.tmp 6) rfl w.heap.size _ _ _ _ rfl ho _ n c zs rfl hb2 (fun h => by simp at h) (by omega) (by simp) ?_; intro ao' c' w1 ho1 hg1))
  go_ret
  rw [Nat.zero_add, List.nil_append] at ho1
  refine ⟨ao', c', rfl, Rw.of_owns ho1 hb.bytes, (((Below.refl _ w).alloc (Nat.le_refl _) _)).grown hg1 (by simp) (fun k e => (ho.lt k e).1)⟩
def Gr (O O' : Nat → Prop) (w : World) : Prop := ∀ k, O' k → O k ∨ w.heap.size ≤ k
theorem Gr.refl (O : Nat → Prop) (w : World) : Gr O O w := fun k h => .inl h
theorem Gr.trans {O O' O'' : Nat → Prop} {w w' : World} (h : Gr O O' w) (h' : Gr O' O'' w') (hs : w.heap.size ≤ w'.heap.size) : Gr O O'' w := fun k hk => by
 rcases h' k hk with h1 | h1
 ·exact h k h1
 ·exact .inr (by omega)
theorem Fr.gr {O O' : Nat → Prop} {a b c : World} (h : Fr O a b) (hg : Gr O O' a) (h' : Fr O' b c) : Fr O a c := h.trans h' fun i hi hx => by
 rcases hg i hx with h1 | h1
 ·exact h1
 ·omega
theorem New.undrew {w w' : World} {ao : Option Addr} {n c : Nat} {zs : List Int} (h : New w.drew w' ao n c zs) : New w w' ao n c zs := ⟨h.bs, h.cap, h.max, h.nil, ⟨h.bel.os, h.bel.tape, h.bel.output, h.bel.size, h.bel.block⟩, h.own⟩
theorem Fr.undrewN {S : Nat → Prop} {a b : World} {n : Nat} (h : Fr S (a.drewN n) b) : Fr S a b := ⟨h.os, h.tape, h.output, h.size, h.block⟩
end Go.Proofs.YtoohanojfoichaaGreatDoor
namespace Go.Proofs.YtoohanojfoichaaGreatDoor.Dat
open Lz (g)
open Frm Mtr
def hol (b : List Int) : Bool := b.all (fun x => x == 0)
def eb (b : List Int) : List Int := if hol b = true then [] else b
def bf (T : Nat → Nat) (b : List Int) : List Int := put T (eb b)
theorem eb_le {b : List Int} (h : b.length ≤ 128) : (eb b).length ≤ 128 := by
 unfold eb; split
 ·simp
 ·exact h
theorem eb_bytes {b : List Int} (h : Bytes b) : Bytes (eb b) := by
 unfold eb; split
 ·exact Bytes.nil
 ·exact h
theorem bf_length (T : Nat → Nat) {b : List Int} (h : b.length ≤ 128) : 3 ≤ (bf T b).length ∧ (bf T b).length ≤ 135 := by
 have := put_length (T := T) (eb_le h)
 unfold bf; exact ⟨this.1, this.2.2⟩
theorem bf_bytes (T : Nat → Nat) {b : List Int} (h : Bytes b) : Bytes (bf T b) := put_bytes (eb_bytes h)
def frs (T : Nat → Nat) (z : List Int) : Nat → List Int
 | 0 => []
 | k + 1 => frs T z k ++ bf T (blk z k)
theorem frs_succ (T : Nat → Nat) (z : List Int) (k : Nat) : frs T z (k + 1) = frs T z k ++ bf T (blk z k) := rfl
theorem frs_length (T : Nat → Nat) (z : List Int) : ∀ k, 3 * k ≤ (frs T z k).length ∧ (frs T z k).length ≤ 135 * k
 | 0 => by simp [frs]
 | k + 1 => by
  have := frs_length T z k
  have := bf_length T (blk_le z k)
  rw [frs_succ, List.length_append]; omega
theorem frs_bytes (T : Nat → Nat) {z : List Int} (h : Bytes z) : ∀ k, Bytes (frs T z k)
 | 0 => Bytes.nil
 | k + 1 => (frs_bytes T h k).append (bf_bytes T (blk_bytes h k))
theorem frs_append (T : Nat → Nat) (z y : List Int) : ∀ k, 128 * k ≤ z.length → frs T (z ++ y) k = frs T z k
 | 0, _ => rfl
 | k + 1, h => by rw [frs_succ, frs_succ, frs_append T z y k (by omega), blk_append z y k h]
theorem blk_drop (z : List Int) (j i : Nat) : blk (z.drop (128 * j)) i = blk z (j + i) := by
 unfold blk; rw [List.drop_drop, Nat.mul_add]
theorem frs_add (T : Nat → Nat) (z : List Int) (j : Nat) : ∀ i, frs T z (j + i) = frs T z j ++ frs T (z.drop (128 * j)) i
 | 0 => by simp [frs]
 | i + 1 => by rw [← Nat.add_assoc, frs_succ, frs_succ, frs_add T z j i, blk_drop, List.append_assoc]
def run (T : Nat → Nat) (z : List Int) : List Int := frs T z (z.length / 128)
def tl (z : List Int) : List Int := z.drop (128 * (z.length / 128))
def wh (z : List Int) : List Int := z.take (128 * (z.length / 128))
theorem wh_length (z : List Int) : (wh z).length = 128 * (z.length / 128) := by unfold wh; rw [List.length_take]; omega
theorem tl_length (z : List Int) : (tl z).length = z.length % 128 := by unfold tl; rw [List.length_drop]; omega
theorem run_nil (T : Nat → Nat) (z : List Int) : run T z = [] ↔ z.length / 128 = 0 := by
 have := frs_length T z (z.length / 128)
 unfold run
 refine ⟨fun h => ?_, fun h => by rw [h]; rfl⟩
 rw [h] at this; simp at this; omega
theorem run_bytes (T : Nat → Nat) {z : List Int} (h : Bytes z) : Bytes (run T z) := frs_bytes T h _
theorem run_length (T : Nat → Nat) (z : List Int) : 3 * (z.length / 128) ≤ (run T z).length ∧ (run T z).length ≤ 135 * (z.length / 128) := frs_length T z _
abbrev Wm := List (List Int × Nat)
def look (M : Wm) (r : List Int) : Option Nat := (M.find? (fun p => decide (p.1 = r))).map (·.2)
theorem look_mem {M : Wm} {r : List Int} {a : Nat} (h : look M r = some a) : (r, a) ∈ M := by
 unfold look at h
 cases hf : M.find? (fun p => decide (p.1 = r)) with
 | none => rw [hf] at h; simp at h
 | some p =>
  rw [hf] at h
  have h1 := List.find?_some hf
  have h2 := List.mem_of_find?_eq_some hf
  simp at h h1
  rw [← h1, ← h]; exact h2
theorem look_app_some {M X : Wm} {r : List Int} {a : Nat} (h : look M r = some a) : look (M ++ X) r = some a := by
 unfold look at h ⊢
 rw [List.find?_append]
 cases hf : M.find? (fun p => decide (p.1 = r)) with
 | none => rw [hf] at h; simp at h
 | some p => rw [hf] at h; simpa using h
theorem look_app_none {M : Wm} {r : List Int} {a : Nat} (h : look M r = none) : look (M ++ [(r, a)]) r = some a := by
 unfold look at h ⊢
 rw [List.find?_append]
 cases hf : M.find? (fun p => decide (p.1 = r)) with
 | none => simp
 | some p => rw [hf] at h; simp at h
theorem look_app_other {M : Wm} {r s : List Int} {a : Nat} (h : s ≠ r) : look (M ++ [(r, a)]) s = look M s := by
 unfold look
 rw [List.find?_append]
 cases hf : M.find? (fun p => decide (p.1 = s)) with
 | none => simp [Ne.symm h]
 | some p => simp
abbrev Ws := List Int × Wm
def addA (first : Nat) (s : Ws) (r : List Int) : Nat := if r = [] then 0 else match look s.2 r with
 | some a => a
 | none => first + s.1.length
def addS (first : Nat) (s : Ws) (r : List Int) : Ws := if r = [] then s else match look s.2 r with
 | some _ => s
 | none => (s.1 ++ r, s.2 ++ [(r, first + s.1.length)])
theorem add_nil (first : Nat) (s : Ws) : addA first s [] = 0 ∧ addS first s [] = s := ⟨by simp [addA], by simp [addS]⟩
theorem add_some {first : Nat} {s : Ws} {r : List Int} {a : Nat} (hr : r ≠ []) (h : look s.2 r = some a) : addA first s r = a ∧ addS first s r = s := ⟨by simp [addA, hr, h], by simp [addS, hr, h]⟩
theorem add_none {first : Nat} {s : Ws} {r : List Int} (hr : r ≠ []) (h : look s.2 r = none) : addA first s r = first + s.1.length ∧ addS first s r = (s.1 ++ r, s.2 ++ [(r, first + s.1.length)]) := ⟨by simp [addA, hr, h], by simp [addS, hr, h]⟩
def Has (s : Ws) (r : List Int) (a : Nat) : Prop := (r = [] ∧ a = 0) ∨ (r ≠ [] ∧ look s.2 r = some a)
theorem has_add (first : Nat) (s : Ws) (r : List Int) : Has (addS first s r) r (addA first s r) := by
 by_cases hr : r = []
 ·subst hr; exact .inl ⟨rfl, (add_nil first s).1⟩
 ·cases h : look s.2 r with
  | some a => obtain ⟨h1, h2⟩ := add_some (first := first) hr h; rw [h1, h2]; exact .inr ⟨hr, h⟩
  | none => obtain ⟨h1, h2⟩ := add_none (first := first) hr h; rw [h1, h2]; exact .inr ⟨hr, look_app_none h⟩
theorem Has.on {s : Ws} {r : List Int} {a : Nat} (h : Has s r a) (first : Nat) (r' : List Int) : Has (addS first s r') r a := by
 rcases h with h | ⟨h1, h2⟩
 ·exact .inl h
 ·refine .inr ⟨h1, ?_⟩
  by_cases hr : r' = []
  ·subst hr; rw [(add_nil first s).2]; exact h2
  ·cases h' : look s.2 r' with
   | some a' => rw [(add_some hr h').2]; exact h2
   | none => rw [(add_none hr h').2]; exact look_app_some h2
def Ok (first : Nat) (s : Ws) : Prop := ∀ p ∈ s.2, ∃ A Z, s.1 = A ++ (p.1 ++ Z) ∧ p.2 = first + A.length
theorem ok_nil (first : Nat) : Ok first ([], []) := fun p hp => by simp at hp
theorem Ok.add {first : Nat} {s : Ws} (h : Ok first s) (r : List Int) : Ok first (addS first s r) := by
 by_cases hr : r = []
 ·subst hr; rw [(add_nil first s).2]; exact h
 ·cases h' : look s.2 r with
  | some a' => rw [(add_some hr h').2]; exact h
  | none =>
   rw [(add_none hr h').2]
   intro p hp
   simp only [List.mem_append, List.mem_singleton] at hp
   rcases hp with hp | rfl
   ·obtain ⟨A, Z, h1, h2⟩ := h p hp
    exact ⟨A, Z ++ r, by simp only []; rw [h1]; simp, h2⟩
   ·exact ⟨s.1, [], by simp, rfl⟩
theorem Has.at {first : Nat} {s : Ws} {r : List Int} {a : Nat} (hk : Ok first s) (h : Has s r a) : (r = [] ∧ a = 0) ∨ ∃ A Z, s.1 = A ++ (r ++ Z) ∧ a = first + A.length := by
 rcases h with h | ⟨h1, h2⟩
 ·exact .inl h
 ·exact .inr (hk _ (look_mem h2))
def pas (z : List Int) (e : Int) : Nat → Int → Option Int
 | 0, at' => some at'
 | k + 1, at' => if (skip z at').2 ≠ 0 ∨ e < (skip z at').1 then none else pas z e k (skip z at').1
def tkB (T : Nat → Nat) (z : List Int) (at' : Int) : Option (List Int × Int) :=
 if (take T z at').2.2 ≠ 0 ∨ ((take T z at').1.length ≠ 0 ∧ (take T z at').1.length ≠ 128) then none
 else some (if (take T z at').1.length = 0 then List.replicate 128 0 else (take T z at').1, (take T z at').2.1)
def rds (T : Nat → Nat) (z : List Int) : Nat → Int → Option (List Int)
 | 0, _ => some []
 | k + 1, at' => match tkB T z at' with
  | none => none
  | some (b, nx) => (rds T z k nx).map (fun y => b ++ y)
def upt (size off n : Int) : Nat := (off % 128 + min n (128 * (size / 128) - off)).toNat
def rd (T : Nat → Nat) (z : List Int) (start size off n : Int) : List Int × Int :=
 if size < 0 ∨ 4096 < size ∨ off < 0 ∨ n < 0 then ([], 1)
 else if n = 0 ∨ 128 * (size / 128) ≤ off then ([], 0)
 else match pas z z.length (off / 128).toNat start with
  | none => ([], 35)
  | some at' => match rds T z ((upt size off n + 127) / 128) at' with
   | none => ([], 35)
   | some b => ((b.take (upt size off n)).drop (off % 128).toNat, 0)
theorem rd_none {T : Nat → Nat} {z : List Int} {start : Int} {size off n : Nat} (h : size ≤ 4096) (h2 : n = 0 ∨ 128 * (size / 128) ≤ off) : rd T z start (size : Nat) (off : Nat) (n : Nat) = ([], 0) := by
 unfold rd; rw [if_neg (by omega), if_pos (by omega)]
theorem hol_all {b : List Int} (h : hol b = true) : b = List.replicate b.length 0 := by
 refine List.eq_replicate_iff.2 ⟨rfl, fun x hx => ?_⟩
 have := List.all_eq_true.1 h x hx
 simpa using this
theorem tkB_bf {T : Nat → Nat} (hS : Small T) {b : List Int} (hl : b.length = 128) (A Z : List Int) :
  tkB T (A ++ (bf T b ++ Z)) (A.length : Nat) = some (b, ((A.length + (bf T b).length : Nat) : Int)) ∧ skip (A ++ (bf T b ++ Z)) (A.length : Nat) = (((A.length + (bf T b).length : Nat) : Int), 0) := by
 have h := take_put hS (eb_le (b := b) (by omega)) A Z
 refine ⟨?_, h.2⟩
 have h1 : take T (A ++ (bf T b ++ Z)) (A.length : Nat) = (eb b, ((A.length + (bf T b).length : Nat) : Int), 0) := h.1
 unfold tkB
 rw [h1]
 by_cases hh : hol b = true
 ·have e : eb b = [] := by unfold eb; rw [if_pos hh]
  rw [e]
  have := hol_all hh
  rw [hl] at this
  simp [← this]
 ·have e : eb b = b := by unfold eb; rw [if_neg hh]
  rw [e]
  simp [hl]
theorem blk_full {z : List Int} {k : Nat} (h : 128 * (k + 1) ≤ z.length) : (blk z k).length = 128 := by rw [blk_length]; omega
theorem pas_frs {T : Nat → Nat} (hS : Small T) (e : Int) : ∀ (k : Nat) (b A Z : List Int), 128 * k ≤ b.length → ((A.length + (frs T b k).length : Nat) : Int) ≤ e → pas (A ++ (frs T b k ++ Z)) e k (A.length : Nat) = some ((A.length + (frs T b k).length : Nat) : Int)
 | 0, b, A, Z, _, _ => by simp [pas, frs]
 | k + 1, b, A, Z, hb, he => by
  have e1 : frs T b (k + 1) = bf T (blk b 0) ++ frs T (b.drop (128 * 1)) k := by rw [Nat.add_comm, frs_add T b 1 k]; rfl
  have h0 := (tkB_bf hS (blk_full (z := b) (k := 0) (by omega)) A (frs T (b.drop (128 * 1)) k ++ Z)).2
  rw [e1, List.length_append] at he ⊢
  have ih := pas_frs hS e k (b.drop (128 * 1)) (A ++ bf T (blk b 0)) Z (by simp; omega) (by rw [List.length_append]; omega)
  unfold pas
  rw [List.append_assoc (bf T (blk b 0)), h0]
  simp only []
  rw [if_neg (by omega)]
  rw [List.append_assoc, List.length_append] at ih
  rw [ih, Nat.add_assoc]
theorem rds_frs {T : Nat → Nat} (hS : Small T) : ∀ (k : Nat) (b A Z : List Int), 128 * k ≤ b.length → rds T (A ++ (frs T b k ++ Z)) k (A.length : Nat) = some (b.take (128 * k))
 | 0, b, A, Z, _ => by simp [rds]
 | k + 1, b, A, Z, hb => by
  have e1 : frs T b (k + 1) = bf T (blk b 0) ++ frs T (b.drop (128 * 1)) k := by rw [Nat.add_comm, frs_add T b 1 k]; rfl
  have h0 := (tkB_bf hS (blk_full (z := b) (k := 0) (by omega)) A (frs T (b.drop (128 * 1)) k ++ Z)).1
  have ih := rds_frs hS k (b.drop (128 * 1)) (A ++ bf T (blk b 0)) Z (by simp; omega)
  rw [e1, List.append_assoc (bf T (blk b 0))]
  unfold rds
  rw [h0]
  simp only []
  rw [List.append_assoc, List.length_append] at ih
  rw [ih]
  simp only [Option.map_some, Option.some.injEq]
  have e2 : blk b 0 = b.take 128 := by simp [blk]
  rw [e2, show 128 * (k + 1) = 128 + 128 * k by omega, List.take_add]
theorem rd_run {T : Nat → Nat} (hS : Small T) (b A Z : List Int) (off n : Nat) (hb : b.length ≤ 4096) : rd T (A ++ (run T b ++ Z)) (A.length : Nat) (b.length : Nat) (off : Nat) (n : Nat) = (((wh b).drop off).take n, 0) := by
 have hw := wh_length b
 unfold rd
 rw [if_neg (by omega)]
 by_cases h0 : (n : Int) = 0 ∨ 128 * ((b.length : Int) / 128) ≤ (off : Int)
 ·rw [if_pos h0]
  rcases h0 with h0 | h0
  ·obtain rfl : n = 0 := by omega
   simp
  ·rw [List.drop_eq_nil_of_le (by omega)]; simp
 rw [if_neg h0]
 have hq : ((off : Int) / 128).toNat = off / 128 := by omega
 obtain ⟨q, hqd⟩ : ∃ q, off / 128 = q := ⟨_, rfl⟩
 obtain ⟨f, hf⟩ : ∃ f, off % 128 = f := ⟨_, rfl⟩
 obtain ⟨K, hK⟩ : ∃ K, b.length / 128 = K := ⟨_, rfl⟩
 obtain ⟨t, ht⟩ : ∃ t, upt (b.length : Nat) (off : Nat) (n : Nat) = t := ⟨_, rfl⟩
 have htn : t = f + min n (128 * K - off) := by rw [← ht]; unfold upt; omega
 obtain ⟨m, hm⟩ : ∃ m, (t + 127) / 128 = m := ⟨_, rfl⟩
 have hqm : q + m ≤ K := by omega
 have e1 : run T b = frs T b q ++ (frs T (b.drop (128 * q)) m ++ frs T (b.drop (128 * (q + m))) (K - (q + m))) := by
  unfold run
  rw [hK, show K = q + (m + (K - (q + m))) by omega, frs_add, frs_add, List.drop_drop, ← Nat.mul_add, show q + (m + (K - (q + m))) - (q + m) = K - (q + m) by omega]
 have hp := pas_frs hS ((A ++ (run T b ++ Z)).length : Nat) q b A (frs T (b.drop (128 * q)) m ++ frs T (b.drop (128 * (q + m))) (K - (q + m)) ++ Z) (by omega) (by rw [e1]; simp only [List.length_append]; omega)
 have hr := rds_frs hS m (b.drop (128 * q)) (A ++ frs T b q) (frs T (b.drop (128 * (q + m))) (K - (q + m)) ++ Z) (by rw [List.length_drop]; omega)
 have e2 : A ++ (frs T b q ++ (frs T (b.drop (128 * q)) m ++ frs T (b.drop (128 * (q + m))) (K - (q + m)) ++ Z)) = A ++ (run T b ++ Z) := by rw [e1]; simp [List.append_assoc]
 have e3 : (A ++ frs T b q) ++ (frs T (b.drop (128 * q)) m ++ (frs T (b.drop (128 * (q + m))) (K - (q + m)) ++ Z)) = A ++ (run T b ++ Z) := by rw [e1]; simp [List.append_assoc]
 rw [e2] at hp
 rw [e3, List.length_append] at hr
 rw [hq, hqd, hp]
 simp only []
 rw [ht, hm, hr]
 simp only []
 have hff : ((off : Int) % 128).toNat = f := by omega
 rw [hff, List.take_take, List.drop_take, List.drop_drop, show min t (128 * m) = t by omega, show 128 * q + f = off by omega]
 congr 1
 unfold wh
 rw [hK, List.drop_take, List.take_take]
 congr 1; omega
end Go.Proofs.YtoohanojfoichaaGreatDoor.Dat
namespace Go.Proofs.YtoohanojfoichaaGreatDoor.Mtr
open Lz (g pack unpack up)
open Crc (ent more)
open Cur (le by')
open Frm
def fr (T : Nat → Nat) (z : List Int) : Nat → List Int
 | 0 => []
 | k + 1 => fr T z k ++ put T (blk z k)
theorem fr_succ (T : Nat → Nat) (z : List Int) (k : Nat) : fr T z (k + 1) = fr T z k ++ put T (blk z k) := rfl
theorem fr_append (T : Nat → Nat) (z y : List Int) : ∀ k, 128 * k ≤ z.length → fr T (z ++ y) k = fr T z k
 | 0, _ => rfl
 | k + 1, h => by rw [fr_succ, fr_succ, fr_append T z y k (by omega), blk_append z y k h]
theorem fr_length (T : Nat → Nat) (z : List Int) : ∀ k, (fr T z k).length ≤ 135 * k
 | 0 => by simp [fr]
 | k + 1 => by
  have := fr_length T z k
  have := (put_length (T := T) (blk_le z k)).2.2
  rw [fr_succ, List.length_append]; omega
theorem fr_lt (T : Nat → Nat) (z : List Int) (k : Nat) : (fr T z k).length + 3 ≤ (fr T z (k + 1)).length := by
 have := (put_length (T := T) (blk_le z k)).1
 rw [fr_succ, List.length_append]; omega
def rest (z : List Int) : List Int := z.drop (128 * (z.length / 128))
theorem rest_length (z : List Int) : (rest z).length = z.length % 128 := by unfold rest; rw [List.length_drop]; omega
theorem rest_blk (z : List Int) : blk z (z.length / 128) = rest z := by
 have := rest_length z
 unfold blk; rw [List.take_of_length_le]
 ·rfl
 ·unfold rest at this; omega
def done (T : Nat → Nat) (z : List Int) : List Int := fr T z ((z.length + 127) / 128)
theorem done_full (T : Nat → Nat) {z : List Int} (h : rest z = []) : done T z = fr T z (z.length / 128) := by
 have h1 := rest_length z
 rw [h] at h1
 simp at h1
 unfold done; rw [show (z.length + 127) / 128 = z.length / 128 by omega]
theorem done_part (T : Nat → Nat) {z : List Int} (h : rest z ≠ []) : done T z = fr T z (z.length / 128) ++ put T (rest z) := by
 have h1 := rest_length z
 have h2 : 0 < (rest z).length := List.length_pos_iff.2 h
 unfold done; rw [show (z.length + 127) / 128 = z.length / 128 + 1 by omega, fr_succ, rest_blk]
def rf (T : Nat → Nat) (z : List Int) (j : Nat) : Int := 256 * ((fr T z (j / 128)).length : Nat) + ((j % 128 : Nat) : Int)
end Go.Proofs.YtoohanojfoichaaGreatDoor.Mtr
namespace Go.Proofs.YtoohanojfoichaaGreatDoor
open Go.RowKit Go.Maps
open Lz (g)
open Crc (ent)
open Frm Mtr
theorem refOf_any (p n : Int) (w : World) (hp : 0 ≤ p ∧ p ≤ 1000000000000) (hn : 0 ≤ n ∧ n ≤ 1000000000000) :
  Calls Tryz.prog 97 #[.int .i64 p, .int .i64 n] w fun r w' => r = .returned (.int .i64 (256 * p + n)) ∧ w' = w := by
 go_enter Tryz.func97, Tryz.ntmps97
 go_wp2
 go_ret
 refine ⟨ret_int ?_, rfl⟩
 omega
def Wd (w : World) (p tb : Nat) (fo : Option Addr) (fn fc : Nat) (ro : Option Addr) (rn rc : Nat) : Prop := w.heap[p]? = some (.cells #[.pointer (some ⟨tb, 0, none⟩), .slice fo fn fc, .slice ro rn rc] 107 (0, 0))
section
variable {w w' : World} {p tb fn fc rn rc : Nat} {fo ro : Option Addr}
theorem Wd.lt (h : Wd w p tb fo fn fc ro rn rc) : p < w.heap.size := heap_lt h
theorem Wd.c0 (h : Wd w p tb fo fn fc ro rn rc) : w.cell? ⟨p, 0, none⟩ = some (.pointer (some ⟨tb, 0, none⟩)) := by unfold Wd at h; simp [World.cell?, h]
theorem Wd.c1 (h : Wd w p tb fo fn fc ro rn rc) : w.cell? ⟨p, 1, none⟩ = some (.slice fo fn fc) := by unfold Wd at h; simp [World.cell?, h]
theorem Wd.c2 (h : Wd w p tb fo fn fc ro rn rc) : w.cell? ⟨p, 2, none⟩ = some (.slice ro rn rc) := by unfold Wd at h; simp [World.cell?, h]
theorem Wd.f (h : Wd w p tb fo fn fc ro rn rc) (i : Nat) : w.frozen? ⟨p, i, none⟩ = false := by unfold Wd at h; simp [World.frozen?, h]
theorem Wd.set1 (h : Wd w p tb fo fn fc ro rn rc) (fo' : Option Addr) (fn' fc' : Nat) : Wd (w.setCell ⟨p, 1, none⟩ (.slice fo' fn' fc')) p tb fo' fn' fc' ro rn rc := by
 unfold Wd; rw [heap_setCell_self h]; rfl
theorem Wd.set2 (h : Wd w p tb fo fn fc ro rn rc) (ro' : Option Addr) (rn' rc' : Nat) : Wd (w.setCell ⟨p, 2, none⟩ (.slice ro' rn' rc')) p tb fo fn fc ro' rn' rc' := by
 unfold Wd; rw [heap_setCell_self h]; rfl
theorem Wd.fr {S : Nat → Prop} (h : Wd w p tb fo fn fc ro rn rc) (hf : Fr S w w') (hn : ¬ S p) : Wd w' p tb fo fn fc ro rn rc := (hf.block p h.lt hn).trans h
theorem Wd.ne {t : TypeId} {cur : Array Value} {k : Nat} (h : Wd w p tb fo fn fc ro rn rc) (hk : w.heap[k]? = some (.cells cur t (0, 0))) (ht : t ≠ 107) : k ≠ p := fun e => by
 subst e; unfold Wd at h; rw [h] at hk; simp at hk; exact ht hk.2.symm
end
def WrM (w : World) (p : Nat) (O : Nat → Prop) (tb : Nat) (F R : List Int) : Prop :=
 ∃ fo fn fc ro rn rc, Wd w p tb fo fn fc ro rn rc ∧ O p ∧ Rw w 0 fo fn fc F ∧ Rw w 0 ro rn rc R ∧
  (∀ k, (Value.slice fo fn fc).ownBlock = some k → O k ∧ (Value.slice ro rn rc).ownBlock ≠ some k) ∧ (∀ k, (Value.slice ro rn rc).ownBlock = some k → O k) ∧ (∀ k, O k → k < w.heap.size)
theorem WrM.fr {S : Nat → Prop} {w w' : World} {p tb : Nat} {O : Nat → Prop} {F R : List Int} (h : WrM w p O tb F R) (hf : Fr S w w') (hn : ∀ k, O k → ¬ S k) : WrM w' p O tb F R := by
 obtain ⟨fo, fn, fc, ro, rn, rc, h1, h2, h3, h4, h5, h6, h7⟩ := h
 exact ⟨fo, fn, fc, ro, rn, rc, h1.fr hf (hn _ h2), h2, h3.fr hf (fun k hk => hn _ (h5 k hk).1), h4.fr hf (fun k hk => hn _ (h6 k hk)), h5, h6, fun k hk => Nat.lt_of_lt_of_le (h7 k hk) hf.size⟩
theorem WrM.below {w w' : World} {p tb : Nat} {O : Nat → Prop} {F R : List Int} (h : WrM w p O tb F R) (hb : Below w.heap.size w w') : WrM w' p O tb F R := h.fr (Fr.of_below (S := fun _ => False) hb) (fun _ _ h => h)
theorem WrM.lt {w : World} {p tb : Nat} {O : Nat → Prop} {F R : List Int} (h : WrM w p O tb F R) : p < w.heap.size ∧ O p := by
 obtain ⟨fo, fn, fc, ro, rn, rc, h1, h2, _⟩ := h
 exact ⟨h1.lt, h2⟩
theorem WrM.olt {w : World} {p tb : Nat} {O : Nat → Prop} {F R : List Int} (h : WrM w p O tb F R) : ∀ k, O k → k < w.heap.size := by
 obtain ⟨fo, fn, fc, ro, rn, rc, h1, h2, h3, h4, h5, h6, h7⟩ := h
 exact h7
theorem metaNew_any (tb : Nat) (w : World) : Calls Tryz.prog 42 #[.pointer (some ⟨tb, 0, none⟩)] w fun r w' => r = .returned (.pointer (some ⟨w.heap.size, 0, none⟩)) ∧ WrM w' w.heap.size (fun k => k = w.heap.size) tb [] [] ∧ Below w.heap.size w w' ∧ w'.heap.size = w.heap.size + 1 := by
 go_enter Tryz.func42, Tryz.ntmps42
 go_wp2
 go_ret
 refine ⟨rfl, ⟨none, 0, 0, none, 0, 0, heap_alloc_new w _, rfl, Rw.none _ _, Rw.none _ _, fun k hk => by simp [Value.ownBlock] at hk, fun k hk => by simp [Value.ownBlock] at hk, fun k hk => by subst hk; simp⟩, (Below.refl _ _).alloc (Nat.le_refl _) _, by simp⟩
set_option maxRecDepth 100000 in
theorem frameOf_any (p tb n c fn fc rn rc : Nat) (fo ro ao : Option Addr) (T : Nat → Nat) (zs : List Int) (w : World) (h : Wd w p tb fo fn fc ro rn rc) (hT : Tb w tb T) (htb : tb < w.heap.size) (hS : Small T) (hb : Bs w ao n zs) (hc : n ≤ c) (hnil : ao = none → c = 0) (hn : n ≤ 128) :
  Calls Tryz.prog 55 #[.pointer (some ⟨p, 0, none⟩), .slice ao n c] w fun r w' => ∃ ao' c', r = .returned (.slice ao' (put T zs).length c') ∧ New w w' ao' (put T zs).length c' (put T zs) := by
 have h0 := h.c0
 have H := hide (Put_any tb n c T ao zs w hT htb hS hb hc hnil (by omega))
 have HZ := hide hb.1
 clear h hT hS hb hnil
 go_enter Tryz.func55, Tryz.ntmps55
 go_wp2_with fail
 refine H.out.mono ?_
 rintro r w1 (⟨h, _⟩ | ⟨_, ao', c', rfl, hN⟩)
 ·rw [HZ.out] at h; omega
 have HN := hide hN
 clear hN H
 go_wp2
 go_ret
 exact ⟨_, _, rfl, HN.out⟩
end Go.Proofs.YtoohanojfoichaaGreatDoor
namespace Go.Proofs.YtoohanojfoichaaGreatDoor
open Go.RowKit Go.Maps
open Lz (g)
open Crc (ent)
open Frm Mtr
def lenAt (w : World) (p : Nat) : Nat := match w.cell? ⟨p, 2, none⟩ with | some (.slice _ n _) => n | _ => 0
theorem Wd.len {w : World} {p tb fn fc rn rc : Nat} {fo ro : Option Addr} (h : Wd w p tb fo fn fc ro rn rc) : lenAt w p = rn := by unfold lenAt; rw [h.c2]
theorem wr_frame {w w1 w2 : World} {p tb fn fc rn rc m c2 c3 : Nat} {fo ro ao2 ao3 : Option Addr} {O : Nat → Prop} {F R P : List Int}
  (hd : Wd w p tb fo fn fc ro rn rc) (hO : O p) (hF : Rw w 0 fo fn fc F) (hR : Rw w 0 ro rn rc R) (h5 : ∀ k, (Value.slice fo fn fc).ownBlock = some k → O k ∧ (Value.slice ro rn rc).ownBlock ≠ some k) (h6 : ∀ k, (Value.slice ro rn rc).ownBlock = some k → O k)
  (hN : New w w1 ao2 m c2 P) (hA : Rw w2 0 ao3 (fn + m) c3 (F ++ P)) (hg : w1.grownBy w2 (Value.slice fo fn fc).ownBlock) (hl : Lie w1 (.slice fo fn fc) (.slice ao3 (fn + m) c3)) (h128 : 128 ≤ rn) (h7 : ∀ k, O k → k < w.heap.size) :
  ∃ O', WrM ((w2.setCell ⟨p, 1, none⟩ (.slice ao3 (fn + m) c3)).setCell ⟨p, 2, none⟩ (.slice (if rc = 128 then ro else Option.map (fun x => x.add 128) ro) (rn - 128) (rc - 128))) p O' tb (F ++ P) (R.drop 128) ∧
   Fr O w ((w2.setCell ⟨p, 1, none⟩ (.slice ao3 (fn + m) c3)).setCell ⟨p, 2, none⟩ (.slice (if rc = 128 then ro else Option.map (fun x => x.add 128) ro) (rn - 128) (rc - 128))) ∧ Gr O O' w := by
 have f1 : Fr (fun _ => False) w w1 := Fr.of_below hN.bel
 have hd1 : Wd w1 p tb fo fn fc ro rn rc := hd.fr f1 id
 have hR1 : Rw w1 0 ro rn rc R := hR.fr f1 (fun _ _ => id)
 have hF1 : Rw w1 0 fo fn fc F := hF.fr f1 (fun _ _ => id)
 have f2 : Fr (fun k => (Value.slice fo fn fc).ownBlock = some k) w1 w2 := Fr.of_grown hg (fun k hk => hk)
 have hd2 : Wd w2 p tb fo fn fc ro rn rc := hd1.fr f2 (fun hk => by
  obtain ⟨_, _, cur, hc⟩ := hF1.own hk
  exact hd1.ne hc (by decide) rfl)
 have hR2 : Rw w2 0 ro rn rc R := hR1.fr f2 (fun k hk hx => (h5 k hx).2 hk)
 have hd4 := (hd2.set1 ao3 (fn + m) c3).set2 (if rc = 128 then ro else Option.map (fun x => x.add 128) ro) (rn - 128) (rc - 128)
 have fs : Fr (One p) w2 ((w2.setCell ⟨p, 1, none⟩ (.slice ao3 (fn + m) c3)).setCell ⟨p, 2, none⟩ (.slice (if rc = 128 then ro else Option.map (fun x => x.add 128) ro) (rn - 128) (rc - 128))) :=
  ((Fr.refl (One p) _).set (p := ⟨p, 1, none⟩) _ (fun _ => rfl)).set (p := ⟨p, 2, none⟩) _ (fun _ => rfl)
 have hn3 : ∀ k, (Value.slice ao3 (fn + m) c3).ownBlock = some k → ¬ One p k := fun k hk hx => by
  obtain ⟨_, _, cur, hc⟩ := hA.own hk
  exact hd2.ne hc (by decide) hx
 have hn4 : ∀ k, (Value.slice ro rn rc).ownBlock = some k → ¬ One p k := fun k hk hx => by
  obtain ⟨_, _, cur, hc⟩ := hR2.own hk
  exact hd2.ne hc (by decide) hx
 have hR3 := (hR2.fr fs hn4).drop 128 (by have := hR.1; omega)
 have hs1 := hN.bel.size
 have hs2 := hg.size
 refine ⟨fun k => O k ∨ (w.heap.size ≤ k ∧ k < w2.heap.size), ⟨ao3, fn + m, c3, _, _, _, hd4, .inl hO, hA.fr fs hn3, hR3, fun k hk => ⟨?_, fun hx => ?_⟩, fun k hk => .inl (h6 k (rw_own_drop ro rn rc _ _ 128 k hk)), fun k hk => ?_⟩, ?_, fun k hk => hk.imp id (fun h => h.1)⟩
 ·rcases hl k hk with h | h
  ·exact .inl (h5 k h).1
  ·exact .inr ⟨Nat.le_trans hN.bel.size h, (hA.own hk).2.1⟩
 ·have hx' := rw_own_drop ro rn rc _ _ 128 k hx
  rcases hl k hk with h | h
  ·exact (h5 k h).2 hx'
  ·have := (hR1.own hx').2.1; omega
 ·have hs4 := fs.size
  rcases hk with hk | hk
  ·have := h7 k hk; omega
  ·omega
 ·have fO : Fr O w w2 := (f1.mono (S' := O) (fun _ _ h => h.elim)).trans f2 (fun i _ hi => (h5 i hi).1)
  exact fO.trans fs (fun i _ (hi : i = p) => by rw [hi]; exact hO)
theorem wr_rest {w w1 : World} {p tb fn fc rn rc m c1 : Nat} {fo ro ao1 : Option Addr} {O : Nat → Prop} {F R Z : List Int}
  (hd : Wd w p tb fo fn fc ro rn rc) (hO : O p) (hF : Rw w 0 fo fn fc F) (hR : Rw w 0 ro rn rc R) (h5 : ∀ k, (Value.slice fo fn fc).ownBlock = some k → O k ∧ (Value.slice ro rn rc).ownBlock ≠ some k) (h6 : ∀ k, (Value.slice ro rn rc).ownBlock = some k → O k)
  (hA : Rw w1 0 ao1 m c1 (R ++ Z)) (hg : w.grownBy w1 (Value.slice ro rn rc).ownBlock) (hl : Lie w (.slice ro rn rc) (.slice ao1 m c1)) (h7 : ∀ k, O k → k < w.heap.size) :
  Wd w1 p tb fo fn fc ro rn rc ∧ ∃ O', WrM (w1.setCell ⟨p, 2, none⟩ (.slice ao1 m c1)) p O' tb F (R ++ Z) ∧ Fr O w (w1.setCell ⟨p, 2, none⟩ (.slice ao1 m c1)) ∧ Gr O O' w := by
 have f2 : Fr (fun k => (Value.slice ro rn rc).ownBlock = some k) w w1 := Fr.of_grown hg (fun k hk => hk)
 have hd2 : Wd w1 p tb fo fn fc ro rn rc := hd.fr f2 (fun hk => by
  obtain ⟨_, _, cur, hc⟩ := hR.own hk
  exact hd.ne hc (by decide) rfl)
 have hF2 : Rw w1 0 fo fn fc F := hF.fr f2 (fun k hk hx => (h5 k hk).2 hx)
 have hd4 := hd2.set2 ao1 m c1
 have fs : Fr (One p) w1 (w1.setCell ⟨p, 2, none⟩ (.slice ao1 m c1)) := (Fr.refl (One p) _).set (p := ⟨p, 2, none⟩) _ (fun _ => rfl)
 have hn3 : ∀ k, (Value.slice ao1 m c1).ownBlock = some k → ¬ One p k := fun k hk hx => by
  obtain ⟨_, _, cur, hc⟩ := hA.own hk
  exact hd2.ne hc (by decide) hx
 have hn4 : ∀ k, (Value.slice fo fn fc).ownBlock = some k → ¬ One p k := fun k hk hx => by
  obtain ⟨_, _, cur, hc⟩ := hF2.own hk
  exact hd2.ne hc (by decide) hx
 have hs2 := hg.size
 refine ⟨hd2, fun k => O k ∨ (w.heap.size ≤ k ∧ k < w1.heap.size), ⟨fo, fn, fc, ao1, m, c1, hd4, .inl hO, hF2.fr fs hn4, hA.fr fs hn3, fun k hk => ⟨.inl (h5 k hk).1, fun hx => ?_⟩, fun k hk => ?_, fun k hk => ?_⟩, ?_, fun k hk => hk.imp id (fun h => h.1)⟩
 ·rcases hl k hx with h | h
  ·exact (h5 k hk).2 h
  ·have := (hF.own hk).2.1; omega
 ·rcases hl k hk with h | h
  ·exact .inl (h6 k h)
  ·exact .inr ⟨h, (hA.own hk).2.1⟩
 ·have hs4 := fs.size
  rcases hk with hk | hk
  ·have := h7 k hk; omega
  ·omega
 ·have fO : Fr O w w1 := f2.mono (fun i _ hi => h6 i hi)
  exact fO.trans fs (fun i _ (hi : i = p) => by rw [hi]; exact hO)
set_option maxRecDepth 100000 in
set_option maxHeartbeats 1000000 in
theorem Add_any (p tb n c : Nat) (O : Nat → Prop) (ao : Option Addr) (T : Nat → Nat) (z zs : List Int) (w : World) (h : WrM w p O tb (fr T z (z.length / 128)) (rest z)) (hT : Tb w tb T) (htb : tb < w.heap.size) (hOt : ¬ O tb) (hS : Small T)
    (hb : Bs w ao n zs) (hnil : ao = none → c = 0) (hz : z.length ≤ 100000) (hn : n ≤ 100000) :
    Calls Tryz.prog 50 #[.pointer (some ⟨p, 0, none⟩), .slice ao n c] w fun r w' => r = .returned (.int .i64 (rf T z z.length)) ∧ ∃ O', WrM w' p O' tb (fr T (z ++ zs) ((z ++ zs).length / 128)) (rest (z ++ zs)) ∧ Fr O w w' ∧ Gr O O' w := by
  obtain ⟨fo, fn, fc, ro, rn, rc, hd, hO, hF, hR, h5, h6, h7⟩ := h
  have H7 := hide h7
  have hfl := fr_length T z (z.length / 128)
  have hfn := hF.1
  have hrn := hR.1
  have hrl := rest_length z
  have hzl := hb.1
  have HRF : Hid (rf T z z.length = 256 * (fn : Int) + rn) := by
    show rf T z z.length = _
    unfold rf; omega
  have hfb : fn ≤ 110000 := by omega
  have hrb : rn < 128 := by omega
  have HF := hide hF
  have HR := hide hR
  have HD := hide hd
  have H5 := hide h5
  have H6 := hide h6
  have HT := hide hT
  have HO := hide hO
  have HOt := hide hOt
  have HS := hide hS
  have HB := hide hb
  have HN := hide hnil
  have c1 := hd.c1
  have c2 := hd.c2
  rw [HRF.out]
  clear hF hR hd h5 h6 h7 hT hO hOt hS hb hnil hfl hfn hrn hrl HRF
  go_enter Tryz.func50, Tryz.ntmps50
  go_wp2_with fail
  go_quiet ((first
    | (go_at_call 97; refine Calls.quiet_of_same (refOf_any fn rn _ (by omega) (by omega)))))
  have HRq : Hid (Rw (w.drewN nq) 0 ro rn rc (rest z)) := HR.out
  have HBq : Hid (Bs (w.drewN nq) ao n zs) := HB.out
  have c2q : (w.drewN nq).cell? ⟨p, 2, none⟩ = some (.slice ro rn rc) := c2
  clear c1 c2
  go_wp2_with (first
    | (at_builtin; refine wpList_append_rw _ rfl (.tmp 21) (.tmp 22) rfl 0 ro rn rc (rest z) rfl HRq.out ao n c zs rfl HBq.out HN.out (by omega) (Nat.zero_le _) ?_
       intro ao1 k1 w1 hA hg hl
       have HX := hide (wr_rest (w := w.drewN nq) HD.out HO.out HF.out HR.out H5.out H6.out hA hg hl H7.out)
       have c21 := HX.out.1.c2
       have f21 := HX.out.1.f 2
       clear hA hg hl))
  obtain ⟨_, O1, hW1, hF1, hG1⟩ := HX.out
  have hlz : (z ++ zs).length = z.length + n := by rw [List.length_append, hzl]
  have HL : Hid (∃ k O', WrM (w1.setCell ⟨p, 2, none⟩ (.slice ao1 (rn + n) k1)) p O' tb (fr T (z ++ zs) k) ((z ++ zs).drop (128 * k)) ∧ Fr O w (w1.setCell ⟨p, 2, none⟩ (.slice ao1 (rn + n) k1)) ∧ Gr O O' w ∧ 128 * k ≤ (z ++ zs).length) := by
    refine ⟨z.length / 128, O1, ?_, hF1.undrewN, hG1, by omega⟩
    rw [fr_append T z zs _ (by omega), List.drop_append_of_le_length (by omega)]
    exact hW1
  clear hW1 hF1 hG1 HX HF HR HD H5 H6 HRq HBq HB c2q c21 f21
  go_loopw [] (fun wr => ∃ k O', WrM wr p O' tb (fr T (z ++ zs) k) ((z ++ zs).drop (128 * k)) ∧ Fr O w wr ∧ Gr O O' w ∧ 128 * k ≤ (z ++ zs).length) (fun wr => lenAt wr p)
  case atStart => exact HL.out
  case round =>
    clear HL
    obtain ⟨k, O2, hW, hFr, hG, hk⟩ := hrel
    have hW0 := hW
    obtain ⟨fo2, fn2, fc2, ro2, rn2, rc2, hd, hO2, hF, hR, h5, h6, h7⟩ := hW
    have c1 := hd.c1
    have c2 := hd.c2
    have hlen := hd.len
    have HD := hide hd
    have HF := hide hF
    have HR := hide hR
    have H5 := hide h5
    have H6 := hide h6
    have HO2 := hide hO2
    have HFr := hide hFr
    have HG := hide hG
    have hrl := hR.1
    have hrc : rn2 ≤ rc2 := hR.2.2.1
    have hrm : rc2 ≤ maxLen := hR.2.2.2.1
    unfold maxLen at hrm
    have hfl := fr_length T (z ++ zs) k
    have hfn := hF.1
    have hfb : fn2 ≤ 1000000 := by omega
    rw [List.length_drop] at hrl
    by_cases hgo : 128 ≤ rn2
    · have hg1 : (128 : Int) ≤ (rn2 : Int) := by omega
      have hg2 : (128 : Int) ≤ (rc2 : Int) := by omega
      have htw : tb < wr.heap.size := Nat.lt_of_lt_of_le htb hFr.size
      have hTw : Tb wr tb T := HT.out.fr hFr htb HOt.out
      have hBs : Bs wr ro2 128 (blk (z ++ zs) k) := hR.bs.take 128 hgo
      have HC := hide (fun wx (e : wx = wr.drew) => frameOf_any p tb 128 rc2 fn2 fc2 rn2 rc2 fo2 ro2 ro2 T (blk (z ++ zs) k) wx (by rw [e]; exact hd) (by rw [e]; exact hTw) (by rw [e]; exact htw) HS.out (by rw [e]; exact hBs) (by omega) hR.nil (by omega))
      have hpl := (put_length (T := T) (blk_le (z ++ zs) k)).2.2
      have HFk := hide (fr_succ T (z ++ zs) k)
      have HRk := hide (show ((z ++ zs).drop (128 * k)).drop 128 = (z ++ zs).drop (128 * (k + 1)) by rw [List.drop_drop, Nat.mul_add])
      generalize put T (blk (z ++ zs) k) = P at *
      obtain ⟨m, hm⟩ : ∃ m, P.length = m := ⟨_, rfl⟩
      rw [hm] at hpl HC
      have HX := hide (fun (w3 w4 : World) (ao3 ao4 : Option Addr) (k3 k4 : Nat) hN hA hg hl => wr_frame (w1 := w3) (w2 := w4) (m := m) (P := P) (ao2 := ao3) (c2 := k3) (ao3 := ao4) (c3 := k4) hd hO2 hF hR h5 h6 hN hA hg hl hgo h7)
      have HY := hide (fun (w3 : World) (ao3 : Option Addr) (k3 : Nat) (hN : New wr w3 ao3 m k3 P) => And.intro (hd.fr (Fr.of_below (S := fun _ => False) (b := w3) hN.bel) id) (hF.fr (Fr.of_below (S := fun _ => False) (b := w3) hN.bel) (fun _ _ => id)))
      have HZ := hide (fun (w3 w4 : World) (hd3 : Wd w3 p tb fo2 fn2 fc2 ro2 rn2 rc2) (hF3 : Rw w3 0 fo2 fn2 fc2 (fr T (z ++ zs) k)) (hg : w3.grownBy w4 (Value.slice fo2 fn2 fc2).ownBlock) => hd3.fr (Fr.of_grown (S := fun j => (Value.slice fo2 fn2 fc2).ownBlock = some j) hg (fun j hj => hj)) (fun hj => by
        obtain ⟨_, _, cur, hc⟩ := hF3.own hj
        exact hd3.ne hc (by decide) rfl))
      clear hd hF hR h5 h6 h7 hO2 hFr hG hTw hBs hW0 hm
      go_wp2_with fail
      go_region_law ((first
        | (refine step_append_rw w3 (by rfl) (.tmp 36) (.tmp 43) (by rfl) 0 fo2 fn2 fc2 (fr T (z ++ zs) k) (by rfl) HF3.out ao3 m k3 P (by rfl) HN3.out.bs HN3.out.nil (by omega) (Nat.zero_le _) ?_; intro ao4 k4 w4 hA hg hl; have HX4 := hide (HX.out w3 w4 ao3 ao4 k3 k4 HN3.out hA hg hl); have hd4 := HZ.out w3 w4 HD3.out HF3.out hg; have c14 := hd4.c1; have f14 := hd4.f 1; have HD4 := hide hd4; clear hA hg hl hd4)
        | (go_simp; go_at_call 55; refine (HC.out wr.drew rfl).mono ?_; rintro r w3 ⟨ao3, k3, rfl, hN⟩; have HN3 := hide hN.undrew; have hY := HY.out w3 ao3 k3 hN.undrew; have c13 := hY.1.c1; have HD3 := hide hY.1; have HF3 := hide hY.2; clear hN hY; dsimp only)))
      all_goals (
        have hd5 := HD4.out.set1 ao4 (fn2 + m) k4
        have c25 := hd5.c2
        have f25 := hd5.f 2
        have HL5 := hide ((hd5.set2 (if rc2 = 128 then ro2 else Option.map (fun x => x.add 128) ro2) (rn2 - 128) (rc2 - 128)).len)
        clear hd5 c1 c2 c13 c14 f14 HX HY HZ HC HN3 HD3 HF3 HD4 HD HF HR H5 H6
        go_wp2
        go_roundw
        case rel =>
          obtain ⟨O3, x1, x2, x3⟩ := HX4.out
          refine ⟨k + 1, O3, ?_, HFr.out.gr HG.out x2, HG.out.trans x3 HFr.out.size, by omega⟩
          rw [HFk.out, ← HRk.out]
          exact x1
        case measure =>
          exact Nat.lt_of_le_of_lt (Nat.le_of_eq HL5.out) (by rw [hlen]; omega))
    · have hg1 : (rn2 : Int) < 128 := by omega
      have hg2 : decide ((128 : Int) ≤ (rn2 : Int)) = false := by simp; omega
      have hke : k = (z ++ zs).length / 128 := by omega
      have HFin : Hid (∃ O', WrM wr p O' tb (fr T (z ++ zs) ((z ++ zs).length / 128)) (rest (z ++ zs)) ∧ Fr O w wr ∧ Gr O O' w) := by
        refine ⟨O2, ?_, hFr, hG⟩
        unfold rest
        rw [← hke]; exact hW0
      clear hd hF hR h5 h6 h7 hO2 hFr hG hW0 HD HF HR H5 H6 hke
      go_wp2
      go_ret
      exact ⟨rfl, HFin.out⟩
set_option maxRecDepth 100000 in
set_option maxHeartbeats 400000 in
theorem metaDone_any (p tb : Nat) (O : Nat → Prop) (T : Nat → Nat) (z : List Int) (w : World) (h : WrM w p O tb (fr T z (z.length / 128)) (rest z)) (hT : Tb w tb T) (htb : tb < w.heap.size) (hS : Small T) (hz : z.length ≤ 100000) :
  Calls Tryz.prog 19 #[.pointer (some ⟨p, 0, none⟩)] w fun r w' => ∃ ao c, r = .returned (.slice ao (done T z).length c) ∧ Fresh w w' ao (done T z).length c (done T z) := by
 obtain ⟨fo, fn, fc, ro, rn, rc, hd, hO, hF, hR, h5, h6, h7⟩ := h
 have hfl := fr_length T z (z.length / 128)
 have hfn := hF.1
 have hrn := hR.1
 have hrl := rest_length z
 have hfb : fn ≤ 110000 := by omega
 have hrb : rn < 128 := by omega
 have c1 := hd.c1
 have c2 := hd.c2
 have HR := hide hR
 have HC := hide (CloneRw_any fn fc fo (fr T z (z.length / 128)) w hF.bs hF.2.2.1 hF.nil (by omega))
 have HQ := hide (fun (w1 : World) (hb1 : Below w.heap.size w w1) => frameOf_any p tb rn rc fn fc rn rc fo ro ro T (rest z) w1 (hd.fr (Fr.of_below (S := fun _ => False) hb1) id) (hT.below hb1 htb) (Nat.lt_of_lt_of_le htb hb1.size) hS (hR.bs.below hb1) hR.2.2.1 hR.nil (by omega))
 have HW := hide (fun (w1 : World) (hb1 : Below w.heap.size w w1) => hd.fr (Fr.of_below (S := fun _ => False) hb1) id)
 by_cases h0 : rn = 0
 ·subst h0
  have hnil : rest z = [] := List.eq_nil_of_length_eq_zero hrn
  have HD : Hid (done T z = fr T z (z.length / 128)) := done_full T hnil
  have HL : Hid ((fr T z (z.length / 128)).length = fn) := hfn
  clear hd hF hR h5 h6 h7 hT hS hO hfn hrn hrl hfl hnil
  go_enter Tryz.func19, Tryz.ntmps19
  go_wp2_with fail
  refine HC.out.mono ?_
  rintro r w1 ⟨ao1, k1, rfl, hA, hb1⟩
  have c21 := (HW.out w1 hb1).c2
  have HA := hide hA
  have HB1 := hide hb1
  clear hA hb1 HC
  go_wp2
  go_ret
  refine ⟨ao1, k1, by rw [HD.out, HL.out]; rfl, ?_⟩
  rw [HD.out, HL.out]
  have hm := HA.out.2.2.2.1
  unfold maxLen at hm
  exact ⟨HA.out.bs, HA.out.2.2.1, by omega, HA.out.nil, HB1.out, fun a ha => (HA.out.own (k := a.block) (by rw [ha]; rfl)).1⟩
 ·have hne : rest z ≠ [] := fun e => by rw [e] at hrn; simp at hrn; omega
  have HD : Hid (done T z = fr T z (z.length / 128) ++ put T (rest z)) := done_part T hne
  have hpl := (put_length (T := T) (b := rest z) (by omega)).2.2
  have HL : Hid ((fr T z (z.length / 128)).length = fn) := hfn
  have h0' : ((rn : Int) == 0) = false := by simp; omega
  clear hd hF hR h5 h6 h7 hT hS hO hfn hrn hrl hfl hne
  generalize put T (rest z) = P at *
  obtain ⟨m, hm⟩ : ∃ m, P.length = m := ⟨_, rfl⟩
  have HM := hide hm
  rw [hm] at hpl HQ
  clear hm
  go_enter Tryz.func19, Tryz.ntmps19
  go_wp2_with fail
  refine HC.out.mono ?_
  rintro r w1 ⟨ao1, k1, rfl, hA, hb1⟩
  have c21 := (HW.out w1 hb1).c2
  have HA := hide hA
  have HB1 := hide hb1
  clear hA HC
  go_wp2_with fail
  refine (HQ.out w1 hb1).mono ?_
  rintro r w2 ⟨ao2, k2, rfl, hN⟩
  have HN := hide hN
  have HA2 := hide (HA.out.fr (Fr.of_below (S := fun _ => False) hN.bel) (fun _ _ => id))
  clear hN HQ hb1 c21
  go_wp2_with (first
   | (at_builtin; refine wpList_append_rw _ rfl (.tmp 16) (.tmp 22) rfl w.heap.size ao1 fn k1 (fr T z (z.length / 128)) rfl HA2.out ao2 m k2 P rfl HN.out.bs HN.out.nil (by omega) (Nat.le_trans HB1.out.size HN.out.bel.size) ?_; intro ao3 k3 w3 hA3 hg3 hl3))
  go_ret
  have hb3 : Below w.heap.size w w3 := (HB1.out.trans (HN.out.bel.mono HB1.out.size)).trans ((Fr.of_grown (S := fun k => w.heap.size ≤ k) hg3 (fun k hk => (HA2.out.own hk).1)).below w.heap.size (Nat.le_trans HB1.out.size HN.out.bel.size) (fun k h => h))
  have hm3 := hA3.2.2.2.1
  unfold maxLen at hm3
  have hlm : (done T z).length = fn + m := by rw [HD.out, List.length_append, HL.out, HM.out]
  refine ⟨ao3, k3, by rw [hlm]; rfl, ?_⟩
  rw [hlm, HD.out]
  exact ⟨hA3.bs, hA3.2.2.1, by omega, hA3.nil, hb3, fun a ha => (hA3.own (k := a.block) (by rw [ha]; rfl)).1⟩
end Go.Proofs.YtoohanojfoichaaGreatDoor
namespace Go.Proofs.YtoohanojfoichaaGreatDoor
open Go.RowKit Go.Maps
open Go.ChangeMaps Go.MapKept
open Lz (g)
open Crc (ent)
open Frm Mtr
section
variable {w w' : World} {p tb fn fc m : Nat} {fo : Option Addr} {U : Nat → Nat}
end
section
variable {w w' : World} {p tb N fn fc m : Nat} {O : Nat → Prop} {T U : Nat → Nat} {X : List Int} {fo : Option Addr} {D : DataW Value}
end
end Go.Proofs.YtoohanojfoichaaGreatDoor
namespace Go.Proofs.YtoohanojfoichaaGreatDoor
open Go.RowKit Go.Maps
open Lz (g)
open Crc (ent)
open Frm Mtr
end Go.Proofs.YtoohanojfoichaaGreatDoor
namespace Go.Proofs.YtoohanojfoichaaGreatDoor
open Go.RowKit Go.Maps
open Lz (g)
open Crc (ent)
open Frm Mtr
section
variable {ops : Array Oper} {C : World → Prop} {Q : Act → Prop} {a : Act} {o : Oper} {rest : List Oper}
end
end Go.Proofs.YtoohanojfoichaaGreatDoor
namespace Go.Proofs.YtoohanojfoichaaGreatDoor
open Go.RowKit Go.Maps
open Lz (g)
open Crc (ent)
open Frm Mtr
end Go.Proofs.YtoohanojfoichaaGreatDoor
namespace Go.Proofs.YtoohanojfoichaaGreatDoor
open Go.RowKit Go.Maps
open Lz (g)
open Crc (ent)
open Frm Mtr
end Go.Proofs.YtoohanojfoichaaGreatDoor
namespace Go.Proofs.YtoohanojfoichaaGreatDoor
open Go.RowKit Go.Maps
open Lz (g)
open Crc (ent)
open Frm Mtr
end Go.Proofs.YtoohanojfoichaaGreatDoor
namespace Go.Proofs.YtoohanojfoichaaGreatDoor
open Go.RowKit Go.Maps
open Lz (g)
open Crc (ent more)
open Frm Mtr Dat
theorem Dat.mapUnder : Tryz.prog.underlying 129 = some (.map 9 3) := Tryz.underlying129
def Dat.kyl (r : List Int) : Lit := .string (strOfNums r).data.toList
theorem Dat.kyl_inj {r s : List Int} (hr : Bytes r) (hs : Bytes s) (h : Dat.kyl r = Dat.kyl s) : r = s := by
 unfold Dat.kyl at h
 injection h with h
 exact str_inj hr hs (ByteArray.ext (Array.toList_inj.1 h))
theorem Dat.keyRun (r : List Int) (h : r.length ≤ 1000000) : keyOf Tryz.prog 9 (.string (strOfNums r)) = some (Dat.kyl r) := keyStr _ (by rw [strOfNums_size]; unfold maxLen; omega)
def MpD (w : World) (b : Nat) (M : Wm) : Prop := ∃ f, MpK 9 w b M.length f ∧ ∀ r, Bytes r → f (Dat.kyl r) = Dat.look M r
theorem MpD.same {w w' : World} {b : Nat} {M : Wm} (h : MpD w b M) (hb : w'.heap[b]? = w.heap[b]?) : MpD w' b M := by
 obtain ⟨f, h1, h2⟩ := h
 exact ⟨f, h1.same hb, h2⟩
theorem MpD.lt {w : World} {b : Nat} {M : Wm} (h : MpD w b M) : b < w.heap.size := by obtain ⟨f, h1, _⟩ := h; exact h1.lt
theorem MpD.new (w : World) : MpD (w.alloc (.map #[] 0)) w.heap.size [] := ⟨_, mpk_new _ w, fun r _ => rfl⟩
theorem MpD.look {w : World} {b : Nat} {M : Wm} (h : MpD w b M) {r : List Int} (hr : Bytes r) (hl : r.length ≤ 1000000) :
  (Instr.lookup 129 (.map (some b)) (.string (strOfNums r)) true).run Tryz.prog w = .ok (.tuple #[.int .i64 (((Dat.look M r).getD 0 : Nat) : Int), .bool (Dat.look M r).isSome]) w := by
 obtain ⟨f, h1, h2⟩ := h
 have := h1.look keyedStr Dat.mapUnder (Dat.keyRun r hl) trivial
 rw [h2 r hr] at this
 exact this
theorem MpD.store {w : World} {b : Nat} {M : Wm} (h : MpD w b M) {r : List Int} (hr : Bytes r) (hl : r.length ≤ 1000000) (hM : M.length ≤ 1000000) (hn : Dat.look M r = none) (a : Nat) :
  ∃ w', (Instr.mapUpdate 129 (.map (some b)) (.string (strOfNums r)) (.int .i64 (a : Int))).run Tryz.prog w = .ok () w' ∧ MpD w' b (M ++ [(r, a)]) ∧ w.grownBy w' (some b) := by
 obtain ⟨f, h1, h2⟩ := h
 obtain ⟨w', k1, k2, k3⟩ := h1.store keyedStr Dat.mapUnder (Dat.keyRun r hl) trivial hM a
 refine ⟨w', k1, ⟨upd f (Dat.kyl r) a, ?_, fun s hs => ?_⟩, k3⟩
 ·rw [h2 r hr, hn] at k2
  rw [List.length_append]
  exact k2
 ·by_cases e : s = r
  ·subst e
   rw [upd_same _ _ _ (show WideAt.IsKeyLit (Dat.kyl s) from trivial), look_app_none hn]
  ·rw [upd_other _ _ (fun hk => e (Dat.kyl_inj hs hr hk)), look_app_other e]
   exact h2 s hs
def Dw (w : World) (p tb first : Nat) (lo : Option Addr) (ln lc mb : Nat) : Prop := w.heap[p]? = some (.cells #[.pointer (some ⟨tb, 0, none⟩), .int .i64 first, .slice lo ln lc, .map (some mb)] 136 (0, 0))
section
variable {w w' : World} {p tb first ln lc mb : Nat} {lo : Option Addr}
theorem Dw.lt (h : Dw w p tb first lo ln lc mb) : p < w.heap.size := heap_lt h
theorem Dw.c0 (h : Dw w p tb first lo ln lc mb) : w.cell? ⟨p, 0, none⟩ = some (.pointer (some ⟨tb, 0, none⟩)) := by unfold Dw at h; simp [World.cell?, h]
theorem Dw.c1 (h : Dw w p tb first lo ln lc mb) : w.cell? ⟨p, 1, none⟩ = some (.int .i64 first) := by unfold Dw at h; simp [World.cell?, h]
theorem Dw.c2 (h : Dw w p tb first lo ln lc mb) : w.cell? ⟨p, 2, none⟩ = some (.slice lo ln lc) := by unfold Dw at h; simp [World.cell?, h]
theorem Dw.c3 (h : Dw w p tb first lo ln lc mb) : w.cell? ⟨p, 3, none⟩ = some (.map (some mb)) := by unfold Dw at h; simp [World.cell?, h]
theorem Dw.f (h : Dw w p tb first lo ln lc mb) (i : Nat) : w.frozen? ⟨p, i, none⟩ = false := by unfold Dw at h; simp [World.frozen?, h]
theorem Dw.set2 (h : Dw w p tb first lo ln lc mb) (lo' : Option Addr) (ln' lc' : Nat) : Dw (w.setCell ⟨p, 2, none⟩ (.slice lo' ln' lc')) p tb first lo' ln' lc' mb := by
 unfold Dw; rw [heap_setCell_self h]; rfl
theorem Dw.fr {S : Nat → Prop} (h : Dw w p tb first lo ln lc mb) (hf : Fr S w w') (hn : ¬ S p) : Dw w' p tb first lo ln lc mb := (hf.block p h.lt hn).trans h
theorem Dw.ne {t : TypeId} {cur : Array Value} {k : Nat} (h : Dw w p tb first lo ln lc mb) (hk : w.heap[k]? = some (.cells cur t (0, 0))) (ht : t ≠ 136) : k ≠ p := fun e => by
 subst e; unfold Dw at h; rw [h] at hk; simp at hk; exact ht hk.2.symm
end
theorem MpD.ne {w : World} {b k : Nat} {M : Wm} {cs : Array Value} {t : TypeId} {fz : Nat × Nat} (h : MpD w b M) (hk : w.heap[k]? = some (.cells cs t fz)) : k ≠ b := fun e => by
 subst e
 obtain ⟨f, ⟨D, ⟨es, clock, h1, _⟩, _⟩, _⟩ := h
 rw [h1] at hk
 cases hk
def WrD (w : World) (p : Nat) (O : Nat → Prop) (tb first : Nat) (s : Ws) : Prop :=
 ∃ lo ln lc mb, Dw w p tb first lo ln lc mb ∧ O p ∧ Rw w 0 lo ln lc s.1 ∧ MpD w mb s.2 ∧ O mb ∧ (∀ k, (Value.slice lo ln lc).ownBlock = some k → O k) ∧ (∀ k, O k → k < w.heap.size)
theorem WrD.fr {S : Nat → Prop} {w w' : World} {p tb first : Nat} {O : Nat → Prop} {s : Ws} (h : WrD w p O tb first s) (hf : Fr S w w') (hn : ∀ k, O k → ¬ S k) : WrD w' p O tb first s := by
 obtain ⟨lo, ln, lc, mb, h1, h2, h3, h4, h5, h6, h7⟩ := h
 exact ⟨lo, ln, lc, mb, h1.fr hf (hn _ h2), h2, h3.fr hf (fun k hk => hn _ (h6 k hk)), h4.same (hf.block mb h4.lt (hn _ h5)), h5, h6, fun k hk => Nat.lt_of_lt_of_le (h7 k hk) hf.size⟩
theorem WrD.below {w w' : World} {p tb first : Nat} {O : Nat → Prop} {s : Ws} (h : WrD w p O tb first s) (hb : Below w.heap.size w w') : WrD w' p O tb first s := h.fr (Fr.of_below (S := fun _ => False) hb) (fun _ _ h => h)
theorem WrD.olt {w : World} {p tb first : Nat} {O : Nat → Prop} {s : Ws} (h : WrD w p O tb first s) : ∀ k, O k → k < w.heap.size := by
 obtain ⟨lo, ln, lc, mb, h1, h2, h3, h4, h5, h6, h7⟩ := h
 exact h7
theorem Dat.make (w : World) : (Instr.makeMap 129 none).run Tryz.prog w = .ok (.map (some w.heap.size)) (w.alloc (.map #[] 0)) := by
 simp [Instr.makeMap, Result.andThen]
set_option maxRecDepth 100000 in
theorem dNew_any (tb first : Nat) (w : World) : Calls Tryz.prog 35 #[.pointer (some ⟨tb, 0, none⟩), .int .i64 first] w fun r w' => r = .returned (.pointer (some ⟨w.heap.size + 1, 0, none⟩)) ∧ WrD w' (w.heap.size + 1) (fun k => w.heap.size ≤ k ∧ k < w.heap.size + 2) tb first ([], []) ∧ Below w.heap.size w w' := by
 have mk := Dat.make
 go_enter Tryz.func35, Tryz.ntmps35
 go_wp2
 go_ret
 refine ⟨rfl, ⟨none, 0, 0, w.heap.size, heap_new (by simp), ⟨by omega, by omega⟩, Rw.none _ _, (MpD.new w).same (Below.heap_alloc _ _ _ (by simp)), ⟨by omega, by omega⟩, fun k hk => by simp [Value.ownBlock] at hk, fun k hk => by simp; omega⟩, (below_one _ _).alloc (by simp) _⟩
theorem WrD.lay {w w1 : World} {p tb first : Nat} {O : Nat → Prop} {s : Ws} {lo lo' : Option Addr} {ln lc mb m lc' : Nat} {r : List Int} (hd : Dw w p tb first lo ln lc mb) (h2 : O p) (h3 : Rw w 0 lo ln lc s.1) (h4 : MpD w mb s.2) (h5 : O mb) (h6 : ∀ k, (Value.slice lo ln lc).ownBlock = some k → O k) (h7 : ∀ k, O k → k < w.heap.size)
  (hA : Rw w1 0 lo' (ln + m) lc' (s.1 ++ r)) (hg : w.grownBy w1 (Value.slice lo ln lc).ownBlock) (hl : Lie w (.slice lo ln lc) (.slice lo' (ln + m) lc')) :
  Dw w1 p tb first lo ln lc mb ∧ ∃ O', WrD (w1.setCell ⟨p, 2, none⟩ (.slice lo' (ln + m) lc')) p O' tb first (s.1 ++ r, s.2) ∧ Fr O w (w1.setCell ⟨p, 2, none⟩ (.slice lo' (ln + m) lc')) ∧ Gr O O' w := by
 have f2 : Fr (fun k => (Value.slice lo ln lc).ownBlock = some k) w w1 := Fr.of_grown hg (fun k hk => hk)
 have hd2 : Dw w1 p tb first lo ln lc mb := hd.fr f2 (fun hk => by
  obtain ⟨_, _, cur, hc⟩ := h3.own hk
  exact hd.ne hc (by decide) rfl)
 have hm2 : MpD w1 mb s.2 := h4.same (f2.block mb h4.lt (fun hk => by
  obtain ⟨_, _, cur, hc⟩ := h3.own hk
  exact h4.ne hc rfl))
 have hd4 := hd2.set2 lo' (ln + m) lc'
 have fs : Fr (One p) w1 (w1.setCell ⟨p, 2, none⟩ (.slice lo' (ln + m) lc')) := (Fr.refl (One p) _).set (p := ⟨p, 2, none⟩) _ (fun _ => rfl)
 have hn3 : ∀ k, (Value.slice lo' (ln + m) lc').ownBlock = some k → ¬ One p k := fun k hk hx => by
  obtain ⟨_, _, cur, hc⟩ := hA.own hk
  exact hd2.ne hc (by decide) hx
 have hm4 : MpD (w1.setCell ⟨p, 2, none⟩ (.slice lo' (ln + m) lc')) mb s.2 := hm2.same (fs.block mb hm2.lt (fun hx => by
  have hx : mb = p := hx
  exact (hm2.ne (show w1.heap[p]? = _ from hd2)) hx.symm))
 have hs2 := hg.size
 refine ⟨hd2, fun k => O k ∨ (w.heap.size ≤ k ∧ k < w1.heap.size), ⟨lo', ln + m, lc', mb, hd4, .inl h2, hA.fr fs hn3, hm4, .inl h5, fun k hk => ?_, fun k hk => ?_⟩, ?_, fun k hk => hk.imp id (fun h => h.1)⟩
 ·rcases hl k hk with h | h
  ·exact .inl (h6 k h)
  ·exact .inr ⟨h, (hA.own hk).2.1⟩
 ·have hs4 := fs.size
  rcases hk with hk | hk
  ·have := h7 k hk; omega
  ·omega
 ·have fO : Fr O w w1 := f2.mono (fun i _ hi => h6 i hi)
  exact fO.trans fs (fun i _ (hi : i = p) => by rw [hi]; exact h2)
set_option maxRecDepth 100000 in
set_option maxHeartbeats 1000000 in
theorem lay_any (p tb first n c : Nat) (O : Nat → Prop) (ao : Option Addr) (s : Ws) (r : List Int) (w : World) (h : WrD w p O tb first s) (hb : Bs w ao n r) (hnil : ao = none → c = 0) (hf : first ≤ 1000000) (hL : s.1.length ≤ 1000000) (hn : n ≤ 1000000) :
    Calls Tryz.prog 84 #[.pointer (some ⟨p, 0, none⟩), .slice ao n c] w fun e w' => e = .returned (.int .i64 ((first + s.1.length : Nat) : Int)) ∧ ∃ O', WrD w' p O' tb first (s.1 ++ r, s.2) ∧ Fr O w w' ∧ Gr O O' w := by
  obtain ⟨lo, ln, lc, mb, hd, h2, h3, h4, h5, h6, h7⟩ := h
  have c1 := hd.c1
  have c2 := hd.c2
  have hln := h3.1
  rw [hln] at hL ⊢
  have HD := hide hd
  have HX := hide (fun (w1 : World) lo' lc' hA hg hl => WrD.lay (w1 := w1) (lo' := lo') (lc' := lc') (m := n) (r := r) hd h2 h3 h4 h5 h6 h7 hA hg hl)
  have HR := hide h3
  have HB := hide hb
  have HN := hide hnil
  have e1 : IntKind.i64.wrap ((first : Int) + (ln : Int)) = (first : Int) + ln := by rw [IntKind.wrap_i64]; omega
  have e2 : ((first + ln : Nat) : Int) = (first : Int) + ln := by omega
  rw [e2]
  clear hd h2 h3 h4 h5 h6 h7 hb hnil hln e2
  go_enter Tryz.func84, Tryz.ntmps84
  go_wp2_with fail
  go_quiet (fail)
  have HRq : Hid (Rw (w.drewN nq) 0 lo ln lc s.1) := HR.out
  have HBq : Hid (Bs (w.drewN nq) ao n r) := HB.out
  have c2q : (w.drewN nq).cell? ⟨p, 2, none⟩ = some (.slice lo ln lc) := c2
  clear c1 c2
  go_wp2_with (first
    | (at_builtin; refine wpList_append_rw _ rfl (.tmp 20) (.tmp 21) rfl 0 lo ln lc s.1 rfl HRq.out ao n c r rfl HBq.out HN.out (by omega) (Nat.zero_le _) ?_
       intro ao1 k1 w1 hA hg hl
       have HX1 := hide (HX.out w1 ao1 k1 hA (grown_drewN hg) hl)
       have c21 := HX1.out.1.c2
       have f21 := HX1.out.1.f 2
       clear hA hg hl))
  go_ret
  exact ⟨rfl, HX1.out.2⟩
set_option maxRecDepth 100000 in
theorem dDone_any (p tb first : Nat) (O : Nat → Prop) (s : Ws) (w : World) (h : WrD w p O tb first s) (hL : s.1.length ≤ 1000000) :
  Calls Tryz.prog 41 #[.pointer (some ⟨p, 0, none⟩)] w fun e w' => ∃ ao c, e = .returned (.slice ao s.1.length c) ∧ New w w' ao s.1.length c s.1 := by
 obtain ⟨lo, ln, lc, mb, hd, h2, h3, h4, h5, h6, h7⟩ := h
 have c2 := hd.c2
 have hln := h3.1
 rw [hln] at hL ⊢
 have HC := hide (CloneNew_any ln lc lo s.1 w h3.bs h3.2.2.1 h3.nil (by omega))
 clear hd h2 h3 h4 h5 h6 h7 hln
 go_enter Tryz.func41, Tryz.ntmps41
 go_wp2_with fail
 refine HC.out.mono ?_
 rintro r w1 ⟨ao, c, rfl, hN⟩
 have HN := hide hN
 clear hN
 go_wp2
 go_ret
 exact ⟨_, _, rfl, HN.out⟩
set_option maxRecDepth 100000 in
theorem dFrame_any (p tb first n c : Nat) (O : Nat → Prop) (ao : Option Addr) (T : Nat → Nat) (s : Ws) (b : List Int) (w : World) (h : WrD w p O tb first s) (hT : Tb w tb T) (htb : tb < w.heap.size) (hS : Small T) (hb : Bs w ao n b) (hc : n ≤ c) (hnil : ao = none → c = 0) (hf : first ≤ 1000000) (hL : s.1.length ≤ 1000000) (hn : n ≤ 128) :
  Calls Tryz.prog 40 #[.pointer (some ⟨p, 0, none⟩), .slice ao n c] w fun e w' => e = .returned (.int .i64 ((first + s.1.length : Nat) : Int)) ∧ ∃ O', WrD w' p O' tb first (s.1 ++ put T b, s.2) ∧ Fr O w w' ∧ Gr O O' w := by
 have c0 : w.cell? ⟨p, 0, none⟩ = some (.pointer (some ⟨tb, 0, none⟩)) := by
  obtain ⟨lo, ln, lc, mb, hd, _⟩ := h
  exact hd.c0
 have HP := hide (Put_any tb n c T ao b w hT htb hS hb hc hnil (by omega))
 have hz := hb.1
 have HPL := hide (put_length (T := T) (b := b) (by omega))
 have HW := hide h
 clear hT hb hnil h
 obtain ⟨A, hA⟩ : ∃ A, A = ((first + s.1.length : Nat) : Int) := ⟨_, rfl⟩
 rw [← hA]
 have HAe := hide hA
 clear hA
 go_enter Tryz.func40, Tryz.ntmps40
 go_wp2_with fail
 refine HP.out.mono ?_
 rintro r w1 (⟨h1, _⟩ | ⟨_, ao1, c1, rfl, hN⟩)
 ·omega
 have HL := hide (lay_any p tb first (put T b).length c1 O ao1 s (put T b) w1 (HW.out.below hN.bel) hN.bs hN.nil hf hL (by have := HPL.out; omega))
 have Hb1 := hide hN.bel
 clear hN HP
 generalize (put T b).length = pl at *
 go_wp2_with fail
 refine HL.out.mono ?_
 rintro r w2 ⟨rfl, O', k1, k2, k3⟩
 rw [← HAe.out]
 have HX : Hid (∃ O', WrD w2 p O' tb first (s.1 ++ put T b, s.2) ∧ Fr O w w2 ∧ Gr O O' w) := ⟨O', k1, (Fr.of_below Hb1.out).then k2, fun k hk => (k3 k hk).imp id (fun h => Nat.le_trans Hb1.out.size h)⟩
 clear k1 k2 k3 HL
 go_wp2
 go_ret
 exact ⟨rfl, HX.out⟩
end Go.Proofs.YtoohanojfoichaaGreatDoor
namespace Go.Proofs.YtoohanojfoichaaGreatDoor
open Go.RowKit Go.Maps
open Lz (g)
open Frm Mtr Dat
def blc (zs : List Int) : Array Value := (bv zs).toArray
theorem info128 : (Tryz.prog.info? 189).map (·.size) = some 128 := by kernel_rfl
theorem zeros_blc : Array.replicate 128 (Value.int .u8 0) = blc (List.replicate 128 0) := by unfold blc bv; rw [List.map_replicate, List.toArray_replicate]
end Go.Proofs.YtoohanojfoichaaGreatDoor
namespace Go.Proofs.YtoohanojfoichaaGreatDoor
open Go.RowKit Go.Maps
open Lz (g)
open Crc (ent more)
open Frm Mtr Dat
theorem wholeOf_any (n : Nat) (w : World) (h : n ≤ 1000000000000) : Calls Tryz.prog 82 #[.int .i64 n] w fun r w' => r = .returned (.int .i64 ((128 * (n / 128) : Nat) : Int)) ∧ w' = w := by
 go_enter Tryz.func82, Tryz.ntmps82
 go_wp2
 go_ret
 exact ⟨ret_int (by omega), rfl⟩
end Go.Proofs.YtoohanojfoichaaGreatDoor

/- What the proof stands on, part 6 of 7: the texts BldJoin, BldRecs, Range, DatChunk, DatBlk, DatFrames, DatWalk, DatAdd, FrgPack, FrgAdd, Mats, FrgBlocks, BldCont, TreAgain, each with what the proof reaches of it. -/
import Derived.Test.YtchcejjoncihkaaGreatDoorJe
import Derived.Laws.CopyOwn
import Derived.RangeFuncNested
import Derived.RangeFuncCalls
import Derived.RangeFuncLeaves
import Derived.RangeFuncBound
import Derived.Sort.BigQuietIn
import Derived.Shelf.Abstract
import Derived.Shelf.RegionOpen
import Derived.WalkKit
import Derived.OwnWalkIn
import Derived.TacticsInMore
import Derived.LoopNIn
import Derived.LoopIn
import Derived.Stop.BytesEq
import Derived.Deep.RegionHeld3
import Derived.Deep.CutBlock
import Derived.Deep.CutRange
import Derived.Deep.Matrix
import Derived.ProofKit

/- Layer 14: an image is put together of its parts: join and its closure; numbers. -/
namespace Go.Proofs.YtchcejjoncihkaaGreatDoor
set_option linter.unusedVariables false
open Go.RowKit Go.Maps
open Lz (g)
open Crc (ent)
open Frm Mtr Tre Nam Tab Bld

/-- What is read of bytes, from a place on. -/
theorem src_of_bs {w : World} {ao : Option Addr} {n : Nat} {zs : List Int} (h : Bs w ao n zs) (hn : n ≠ 0) : ∃ ad, ao = some ad ∧ ∀ j v, (bv zs)[j]? = some v → w.cell? (ad.add j) = some v := by
  obtain ⟨hz, hby, h0 | ⟨b, off, rfl, hb, hs⟩⟩ := h
  · omega
  · refine ⟨_, rfl, ?_⟩
    have := news_seg hs n
    rw [List.take_of_length_le (by omega)] at this
    exact this
/-- Bytes are copied into an own row, from a place on. -/
theorem copy_into {w : World} {gb S off n c dL dC : Nat} {dp bo : Option Addr} {im b : List Int} (hg : w.heap[gb]? = some (.cells (bv im).toArray 5 (0, 0))) (hS : im.length = S) (hB : Bs w bo n b) (hfit : off + n ≤ S) (hdL : n ≤ dL) (hdp : 0 < n → dp = some ⟨gb, off, none⟩) :
    ∃ w', (Builtin.copy_ #[25, 25] 3 #[.slice dp dL dC, .slice bo n c]).run Tryz.prog w = .ok (.int .i64 n) w' ∧ w'.heap[gb]? = some (.cells (bv (im.take off ++ b ++ im.drop (off + n))).toArray 5 (0, 0)) ∧ Fr (One gb) w w' := by
  have hinfo : (Tryz.prog.info? 5).map (·.size) = some 1 := by kernel_rfl
  have hbl := hB.1
  by_cases h0 : n = 0
  · subst h0
    refine ⟨w, run_copy_none w _ _ _ _ _ _ _ _ _ _ Tryz.underlying25 hinfo (by simp), ?_, Fr.refl _ _⟩
    obtain rfl : b = [] := List.eq_nil_of_length_eq_zero hbl
    rw [List.append_nil, Nat.add_zero, List.take_append_drop]
    exact hg
  · obtain ⟨ad, rfl, hsrc⟩ := src_of_bs hB h0
    rw [hdp (by omega)]
    have hl : (bv b).length = n := by rw [bv_length]; exact hbl
    have h := run_copy_row (P := Tryz.prog) w 25 25 3 5 gb off dL dC ad n c (bv im).toArray 5 (bv b) Tryz.underlying25 hinfo hg (by rw [hl]; exact (Nat.min_eq_left hdL).symm) hsrc (by rw [hl]; simp [bv]; omega) (bv_one b)
    have e : ((bv im).toArray.toList.take off ++ bv b ++ (bv im).toArray.toList.drop (off + (bv b).length)) = bv (im.take off ++ b ++ im.drop (off + n)) := by
      rw [hl]; simp [bv, List.map_take, List.map_drop]
    rw [e, hl] at h
    refine ⟨_, h, setRow_heap w gb _ _ _ _ hg, setRow_fr (Fr.refl _ _) _ _ (fun _ => rfl)⟩
/-- A part behind others: what is left of the noughts. -/
theorem laid_part (X z : List Int) (m : Nat) (h : z.length ≤ m) : (X ++ List.replicate m 0).take X.length ++ z ++ (X ++ List.replicate m 0).drop (X.length + z.length) = (X ++ z) ++ List.replicate (m - z.length) 0 := by
  rw [List.take_left', List.drop_append, List.drop_eq_nil_of_le (by omega), List.nil_append, List.drop_replicate]
  · congr 2; omega
  · rfl
set_option maxRecDepth 100000 in
/-- The closure that lays a part. -/
theorem lay1_any (b8 b9 ib S a n c : Nat) (bo : Option Addr) (im z : List Int) (w : World) (h9 : w.heap[b9]? = some (.cells #[.int .i64 (a : Int)] 3 (0, 0))) (h8 : w.heap[b8]? = some (.cells #[.slice (some ⟨ib, 0, none⟩) S S] 25 (0, 0)))
    (hi : w.heap[ib]? = some (.cells (bv im).toArray 5 (0, 0))) (hl : im.length = S) (hB : Bs w bo n z) (hfit : a + n ≤ S) (hS : S ≤ 1048576) :
    Calls Tryz.prog 65 #[.slice bo n c, .pointer (some ⟨b9, 0, none⟩), .pointer (some ⟨b8, 0, none⟩)] w fun e w' => e = .returned (.int .i64 (a : Int)) ∧ w'.heap[b9]? = some (.cells #[.int .i64 ((a + n : Nat) : Int)] 3 (0, 0)) ∧ w'.heap[ib]? = some (.cells (bv (im.take a ++ z ++ im.drop (a + n))).toArray 5 (0, 0)) ∧ Fr (fun k => k = ib ∨ k = b9) w w' := by
  have c9 : w.cell? ⟨b9, 0, none⟩ = some (.int .i64 (a : Int)) := by simp [World.cell?, h9]
  have c8 : w.cell? ⟨b8, 0, none⟩ = some (.slice (some ⟨ib, 0, none⟩) S S) := by simp [World.cell?, h8]
  obtain ⟨w5, hcp, hi5, f5⟩ := copy_into (w := w.drew) (gb := ib) (S := S) (off := a) (n := n) (c := c) (dL := S - a) (dC := S - a) (dp := if S = a then some ⟨ib, 0, none⟩ else some ⟨ib, a, none⟩) (bo := bo) hi hl (show Bs w.drew bo n z from hB) hfit (by omega) (fun h0 => by rw [if_neg (by omega)])
  have hne : b9 ≠ ib := fun e => by rw [e] at h9; rw [h9] at hi; simp at hi
  have h95 : w5.heap[b9]? = some (.cells #[.int .i64 (a : Int)] 3 (0, 0)) := (f5.block b9 (heap_lt h9) hne).trans h9
  have c95 : w5.cell? ⟨b9, 0, none⟩ = some (.int .i64 (a : Int)) := by simp [World.cell?, h95]
  have f95 : w5.frozen? ⟨b9, 0, none⟩ = false := by simp [World.frozen?, h95]
  have f9 : w.frozen? ⟨b9, 0, none⟩ = false := by simp [World.frozen?, h9]
  have HX : Hid ((w5.setCell ⟨b9, 0, none⟩ (.int .i64 ((a : Int) + n))).heap[b9]? = some (.cells #[.int .i64 ((a + n : Nat) : Int)] 3 (0, 0)) ∧ (w5.setCell ⟨b9, 0, none⟩ (.int .i64 ((a : Int) + n))).heap[ib]? = some (.cells (bv (im.take a ++ z ++ im.drop (a + n))).toArray 5 (0, 0)) ∧ Fr (fun k => k = ib ∨ k = b9) w (w5.setCell ⟨b9, 0, none⟩ (.int .i64 ((a : Int) + n)))) := by
    have fs : Fr (One b9) w5 (w5.setCell ⟨b9, 0, none⟩ (.int .i64 ((a : Int) + n))) := (Fr.refl _ _).set _ (fun _ => rfl)
    refine ⟨?_, (fs.block _ (heap_lt hi5) (fun (e : ib = b9) => hne e.symm)).trans hi5, ?_⟩
    · rw [show (((a + n : Nat) : Int)) = (a : Int) + n by omega]
      exact heap_setCell_self h95 _
    · exact ((f5.undrew).mono (fun i _ hi => .inl hi)).trans fs (fun i _ hi => .inr hi)
  have e1 : IntKind.i64.wrap ((a : Int) + n) = (a : Int) + n := by rw [IntKind.wrap_i64]; omega
  have i1 : (0 : Int) ≤ (a : Int) := by omega
  have i2 : (a : Int) ≤ (S : Int) := by omega
  have hSm : (S : Int) ≤ 1048576 := by omega
  clear h9 h8 hi hl hB hfit f5 hi5 hne h95
  by_cases hSa : S = a
  · subst hSa
    rw [if_pos rfl, Nat.sub_self] at hcp
    go_enter Tryz.func65, Tryz.ntmps65
    go_wp2_with fail
    go_region
    all_goals (
      go_wp2
      go_ret
      exact ⟨rfl, HX.out⟩)
  · rw [if_neg hSa] at hcp
    go_enter Tryz.func65, Tryz.ntmps65
    go_wp2_with fail
    go_region
    all_goals (
      go_wp2
      go_ret
      exact ⟨rfl, HX.out⟩)
set_option maxRecDepth 100000 in
theorem size_any (o1 o2 o3 o4 o5 o6 : Option Addr) (n1 n2 n3 n4 n5 n6 c1 c2 c3 c4 c5 c6 : Nat) (w : World) (h1 : n1 ≤ 1000000) (h2 : n2 ≤ 1000000) (h3 : n3 ≤ 1000000) (h4 : n4 ≤ 1000000) (h5 : n5 ≤ 1000000) (h6 : n6 ≤ 1000000) :
    Calls Tryz.prog 64 #[.agg #[.slice o1 n1 c1, .slice o2 n2 c2, .slice o3 n3 c3, .slice o4 n4 c4, .slice o5 n5 c5, .slice o6 n6 c6]] w fun e w' => e = .returned (.int .i64 ((n1 + n2 + n3 + n4 + n5 + n6 : Nat) : Int)) ∧ Below w.heap.size w w' := by
  have e1 : IntKind.i64.wrap ((n1 : Int) + n2) = (n1 : Int) + n2 := by rw [IntKind.wrap_i64]; omega
  have e2 : IntKind.i64.wrap ((n1 : Int) + n2 + n3) = (n1 : Int) + n2 + n3 := by rw [IntKind.wrap_i64]; omega
  have e3 : IntKind.i64.wrap ((n1 : Int) + n2 + n3 + n4) = (n1 : Int) + n2 + n3 + n4 := by rw [IntKind.wrap_i64]; omega
  have e4 : IntKind.i64.wrap ((n1 : Int) + n2 + n3 + n4 + n5) = (n1 : Int) + n2 + n3 + n4 + n5 := by rw [IntKind.wrap_i64]; omega
  have e5 : IntKind.i64.wrap ((n1 : Int) + n2 + n3 + n4 + n5 + n6) = (n1 : Int) + n2 + n3 + n4 + n5 + n6 := by rw [IntKind.wrap_i64]; omega
  rw [show (((n1 + n2 + n3 + n4 + n5 + n6 : Nat)) : Int) = (n1 : Int) + n2 + n3 + n4 + n5 + n6 by omega]
  go_enter Tryz.func64, Tryz.ntmps64
  go_wp2
  go_ret
  exact ⟨rfl, (Below.refl _ w).alloc (Nat.le_refl _) _⟩
/-- An image that is being put together, since the world w0. -/
structure JJ (w0 w : World) (p4 p5 b8 b9 ib S : Nat) (s : Sup.Sb) (C5 : Array Value) (a : Nat) (im : List Int) : Prop where
  bel : Below w0.heap.size w0 w
  k4 : w.heap[p4]? = some (.cells (sbv s) 45 (0, 0))
  k5 : w.heap[p5]? = some (.cells C5 68 (0, 0))
  k8 : w.heap[b8]? = some (.cells #[.slice (some ⟨ib, 0, none⟩) S S] 25 (0, 0))
  k9 : w.heap[b9]? = some (.cells #[.int .i64 (a : Int)] 3 (0, 0))
  ki : w.heap[ib]? = some (.cells (bv im).toArray 5 (0, 0))
  il : im.length = S
  ge : w0.heap.size ≤ p4 ∧ w0.heap.size ≤ b9 ∧ w0.heap.size ≤ ib
section
variable {w0 w w' : World} {p4 p5 b8 b9 ib S a : Nat} {s : Sup.Sb} {C5 : Array Value} {im : List Int}
theorem obj_ne {w : World} {k j : Nat} {C D : Array Value} {t u : TypeId} {x y : Nat × Nat} (h1 : w.heap[k]? = some (.cells C t x)) (h2 : w.heap[j]? = some (.cells D u y)) (hne : t ≠ u) : k ≠ j := fun e => by
  subst e; rw [h1] at h2; simp at h2; exact hne h2.2.1
theorem JJ.below (h : JJ w0 w p4 p5 b8 b9 ib S s C5 a im) (hb : Below w.heap.size w w') : JJ w0 w' p4 p5 b8 b9 ib S s C5 a im :=
  ⟨h.bel.trans (hb.mono h.bel.size), (hb.block _ (heap_lt h.k4)).trans h.k4, (hb.block _ (heap_lt h.k5)).trans h.k5, (hb.block _ (heap_lt h.k8)).trans h.k8, (hb.block _ (heap_lt h.k9)).trans h.k9, (hb.block _ (heap_lt h.ki)).trans h.ki, h.il, h.ge⟩
/-- A part is laid. -/
theorem JJ.laid {X z : List Int} {m n : Nat} (h : JJ w0 w p4 p5 b8 b9 ib S s C5 a (X ++ List.replicate m 0)) (hX : X.length = a) (hz : z.length = n) (hn : n ≤ m) (h9 : w'.heap[b9]? = some (.cells #[.int .i64 ((a + n : Nat) : Int)] 3 (0, 0)))
    (hi : w'.heap[ib]? = some (.cells (bv ((X ++ List.replicate m 0).take a ++ z ++ (X ++ List.replicate m 0).drop (a + n))).toArray 5 (0, 0))) (hf : Fr (fun k => k = ib ∨ k = b9) w w') :
    JJ w0 w' p4 p5 b8 b9 ib S s C5 (a + n) ((X ++ z) ++ List.replicate (m - n) 0) := by
  have ge := h.ge
  have hb : Below w0.heap.size w w' := hf.below _ h.bel.size (fun k hk => by rcases hk with hk | hk <;> omega)
  have e4i := obj_ne h.k4 h.ki (by decide)
  have e49 := obj_ne h.k4 h.k9 (by decide)
  have e5i := obj_ne h.k5 h.ki (by decide)
  have e59 := obj_ne h.k5 h.k9 (by decide)
  have e8i := obj_ne h.k8 h.ki (by decide)
  have e89 := obj_ne h.k8 h.k9 (by decide)
  have e := laid_part X z m (by omega)
  rw [hX, hz] at e
  rw [e] at hi
  refine ⟨h.bel.trans hb, (hf.block _ (heap_lt h.k4) (fun hk => hk.elim e4i e49)).trans h.k4, (hf.block _ (heap_lt h.k5) (fun hk => hk.elim e5i e59)).trans h.k5, (hf.block _ (heap_lt h.k8) (fun hk => hk.elim e8i e89)).trans h.k8, h9, hi, ?_, ge⟩
  have := h.il
  simp only [List.length_append, List.length_replicate] at this ⊢
  omega
/-- A number of the superblock is set. -/
theorem JJ.put (h : JJ w0 w p4 p5 b8 b9 ib S s C5 a im) (i : Nat) (v : Value) (s' : Sup.Sb) (hs : (sbv s).setIfInBounds i v = sbv s') : JJ w0 (w.setCell ⟨p4, i, none⟩ v) p4 p5 b8 b9 ib S s' C5 a im := by
  have fs : Fr (One p4) w (w.setCell ⟨p4, i, none⟩ v) := (Fr.refl _ _).set _ (fun _ => rfl)
  have ge := h.ge
  refine ⟨h.bel.trans (fs.below _ h.bel.size (fun k (hk : k = p4) => by omega)), ?_, (fs.block _ (heap_lt h.k5) (obj_ne h.k5 h.k4 (by decide))).trans h.k5, (fs.block _ (heap_lt h.k8) (obj_ne h.k8 h.k4 (by decide))).trans h.k8, (fs.block _ (heap_lt h.k9) (obj_ne h.k9 h.k4 (by decide))).trans h.k9, (fs.block _ (heap_lt h.ki) (obj_ne h.ki h.k4 (by decide))).trans h.ki, h.il, ge⟩
  rw [← hs]
  exact heap_setCell_self h.k4 v
end
theorem Bld.makeN (S : Nat) (hS : S ≤ 1048576) : ∃ M : Array Value, M = (bv (List.replicate S 0)).toArray ∧ ∀ W : World, (Instr.makeSlice 25 (.int .i64 (S : Int)) (.int .i64 (S : Int))).run Tryz.prog W = .ok (.slice (some ⟨W.heap.size, 0, none⟩) S S) (W.alloc (.cells M 5)) := by
  obtain ⟨i0, hi, hz0, hz1, hz2⟩ := info_parts infoByte
  refine ⟨madeCells (Value.int .u8 0).cells (S * 1), ?_, fun W => ?_⟩
  · rw [← Array.toList_inj, half_zero S 0, show half S 0 0 = List.replicate S 0 by simp [half]]
  · have h := run_make (P := Tryz.prog) W 25 5 i0 (.int .u8 0) Tryz.underlying25 hi hz0 .i64 .i64 (S : Int) (S : Int) (by omega) (by omega) (by rw [hz2]; omega) (by omega)
    rw [hz1] at h
    simpa using h
theorem infoSb : (Tryz.prog.info? 45).map (·.size) = some 10 := by kernel_rfl
theorem wpList_load_sb {ops : Array Oper} {rest : List Oper} {o : Oper} {a : Act} {w : World} {Q : Exit → Act → World → Prop} (hw : Region.wanted o (yielded ops a.tmps) = true) (x : Operand) (ho : o.op = .load 45 x)
    (b : Nat) (hx : a.eval x = .pointer (some ⟨b, 0, none⟩)) (t : TypeId) (cs : Array Value) (fr : Nat × Nat) (hg : w.heap[b]? = some (.cells cs t fr)) (hs : cs.size = 10)
    (h : wpList Tryz.prog ops Q rest (a.put o.dst (.agg cs)) w) : wpList Tryz.prog ops Q (o :: rest) a w :=
  wpList_step fun K hK => by
    rw [if_pos hw]
    exact wp_load_row 45 x ho b hx t cs fr _ hg Tryz.underlying45 rfl (by rw [hs]; exact infoSb) (hK _ _ h)
/-- The bytes of a superblock in a block. -/
theorem bs_blk {w : World} {b : Nat} {z : List Int} {t : TypeId} {fz : Nat × Nat} (hb : Bytes z) (h : w.heap[b]? = some (.cells (bl z) t fz)) : Bs w (some ⟨b, 0, none⟩) z.length z := by
  refine ⟨rfl, Bytes.g hb, .inr ⟨b, 0, rfl, heap_lt h, fun i hi => ?_⟩⟩
  simp [World.cell?, h, bl, bv, g, hi]
/-- The superblock of an image's parts. -/
def Bld.sbl (s : Sup.Sb) (n1 n2 n3 n4 n5 n6 : Nat) : Sup.Sb := ⟨((64 + (n1 + n2 + n3 + n4 + n5 + n6) : Nat) : Int), s.inodes, ((64 + n1 : Nat) : Int), ((64 + n1 + n2 : Nat) : Int), ((64 + n1 + n2 + n3 : Nat) : Int), ((64 + n1 + n2 + n3 + n4 : Nat) : Int), ((64 + n1 + n2 + n3 + n4 + n5 : Nat) : Int), s.ids, s.frags, s.root⟩
/-- An image's beginning: its superblock, or noughts if that may not be. -/
def Bld.fst64 (s : Sup.Sb) : List Int := if s.may = true then Sup.put ent s else List.replicate 64 0
theorem Bld.fst64_bytes (s : Sup.Sb) : Bytes (Bld.fst64 s) := by
  unfold Bld.fst64
  split
  · exact Sup.put_bytes ent s
  · intro x hx
    rw [List.eq_of_mem_replicate hx]; omega
theorem Bld.fst64_length (s : Sup.Sb) : (Bld.fst64 s).length = 64 := by
  unfold Bld.fst64
  split
  · exact Sup.put_length ent s
  · exact List.length_replicate
/-- What join answers. -/
def JAns (s : Sup.Sb) (z1 z2 z3 z4 z5 z6 : List Int) (w : World) (e : Ending) (w' : World) : Prop :=
  (1048576 < 64 + (z1.length + z2.length + z3.length + z4.length + z5.length + z6.length) ∧ e = .returned (.tuple #[.slice none 0 0, .int .i64 3]) ∧ Below w.heap.size w w') ∨
  (64 + (z1.length + z2.length + z3.length + z4.length + z5.length + z6.length) ≤ 1048576 ∧ ∃ ib, e = .returned (.tuple #[.slice (some ⟨ib, 0, none⟩) (64 + (z1.length + z2.length + z3.length + z4.length + z5.length + z6.length)) (64 + (z1.length + z2.length + z3.length + z4.length + z5.length + z6.length)), .int .i64 0]) ∧ w.heap.size ≤ ib ∧
    w'.heap[ib]? = some (.cells (bv (Bld.fst64 (Bld.sbl s z1.length z2.length z3.length z4.length z5.length z6.length) ++ (z1 ++ (z2 ++ (z3 ++ (z4 ++ (z5 ++ z6))))))).toArray 5 (0, 0)) ∧ Bytes (Bld.fst64 (Bld.sbl s z1.length z2.length z3.length z4.length z5.length z6.length) ++ (z1 ++ (z2 ++ (z3 ++ (z4 ++ (z5 ++ z6)))))) ∧ Below w.heap.size w w')
set_option maxRecDepth 100000 in
set_option maxHeartbeats 16000000 in
theorem join_any (tb : Nat) (s : Sup.Sb) (o1 o2 o3 o4 o5 o6 : Option Addr) (n1 n2 n3 n4 n5 n6 c1 c2 c3 c4 c5 c6 : Nat) (z1 z2 z3 z4 z5 z6 : List Int) (w : World) (hT : Tb w tb ent) (htb : tb < w.heap.size) (hW : Wid w)
    (B1 : Bs w o1 n1 z1) (B2 : Bs w o2 n2 z2) (B3 : Bs w o3 n3 z3) (B4 : Bs w o4 n4 z4) (B5 : Bs w o5 n5 z5) (B6 : Bs w o6 n6 z6) (h1 : n1 ≤ 1000000) (h2 : n2 ≤ 1000000) (h3 : n3 ≤ 1000000) (h4 : n4 ≤ 1000000) (h5 : n5 ≤ 1000000) (h6 : n6 ≤ 1000000) :
    Calls Tryz.prog 22 #[.pointer (some ⟨tb, 0, none⟩), .agg (sbv s), .agg #[.slice o1 n1 c1, .slice o2 n2 c2, .slice o3 n3 c3, .slice o4 n4 c4, .slice o5 n5 c5, .slice o6 n6 c6]] w (JAns s z1 z2 z3 z4 z5 z6 w) := by
  have HSz := hide (fun w' : World => size_any o1 o2 o3 o4 o5 o6 n1 n2 n3 n4 n5 n6 c1 c2 c3 c4 c5 c6 w' h1 h2 h3 h4 h5 h6)
  unfold JAns
  rw [B1.1, B2.1, B3.1, B4.1, B5.1, B6.1]
  obtain ⟨b0, bA, bB⟩ := two_boxes w (.cells (sbv s) 45) (.cells #[.slice o1 n1 c1, .slice o2 n2 c2, .slice o3 n3 c3, .slice o4 n4 c4, .slice o5 n5 c5, .slice o6 n6 c6] 68)
  obtain ⟨wA, hwA⟩ : ∃ wA, wA = (w.alloc (.cells (sbv s) 45)).alloc (.cells #[.slice o1 n1 c1, .slice o2 n2 c2, .slice o3 n3 c3, .slice o4 n4 c4, .slice o5 n5 c5, .slice o6 n6 c6] 68) := ⟨_, rfl⟩
  rw [← hwA] at b0 bA bB
  obtain ⟨S, hS⟩ : ∃ S, S = 64 + (n1 + n2 + n3 + n4 + n5 + n6) := ⟨_, rfl⟩
  rw [← hS]
  have e1 : IntKind.i64.wrap (64 + ((n1 + n2 + n3 + n4 + n5 + n6 : Nat) : Int)) = (S : Int) := by rw [IntKind.wrap_i64]; omega
  have HT := hide hT
  have HW := hide hW
  have H1 := hide B1
  have H2 := hide B2
  have H3 := hide B3
  have H4 := hide B4
  have H5 := hide B5
  have H6 := hide B6
  have HB0 := hide b0
  have HA := hide bA
  have HB := hide bB
  have HS := hide hS
  have eA : Hid ((w.alloc (.cells (sbv s) 45)).alloc (.cells #[.slice o1 n1 c1, .slice o2 n2 c2, .slice o3 n3 c3, .slice o4 n4 c4, .slice o5 n5 c5, .slice o6 n6 c6] 68) = wA) := hwA.symm
  generalize hms : n1 + n2 + n3 + n4 + n5 + n6 = ms at HSz e1
  unfold sbv at eA ⊢
  clear hT hW B1 B2 B3 B4 B5 B6 b0 bA bB hwA hS hms
  go_enter Tryz.func22, Tryz.ntmps22
  go_wp2_with fail
  rw [eA.out]
  refine (HSz.out wA).mono ?_
  rintro r w1 ⟨rfl, hb1⟩
  have k4 := (hb1.block _ (heap_lt HA.out)).trans HA.out
  have k5 := (hb1.block _ (heap_lt HB.out)).trans HB.out
  have c40 : w1.cell? ⟨w.heap.size, 0, none⟩ = some (.int .i64 s.size) := by simp [World.cell?, k4, sbv]
  have f40 : w1.frozen? ⟨w.heap.size, 0, none⟩ = false := by simp [World.frozen?, k4]
  obtain ⟨w2, hw2⟩ : ∃ w2, w2 = w1.setCell ⟨w.heap.size, 0, none⟩ (.int .i64 (S : Int)) := ⟨_, rfl⟩
  have fs2 : Fr (One w.heap.size) w1 w2 := by rw [hw2]; exact (Fr.refl _ _).set _ (fun _ => rfl)
  have k42 : w2.heap[w.heap.size]? = some (.cells (sbv { s with size := (S : Int) }) 45 (0, 0)) := by rw [hw2]; exact heap_setCell_self k4 _
  have k52 := (fs2.block _ (heap_lt k5) (obj_ne k5 k4 (by decide))).trans k5
  have b2 : Below w.heap.size w w2 := by
    have b1 := HB0.out.trans (hb1.mono HB0.out.size)
    exact b1.trans (fs2.below _ b1.size (fun k (hk : k = w.heap.size) => by omega))
  have c402 : w2.cell? ⟨w.heap.size, 0, none⟩ = some (.int .i64 (S : Int)) := by simp [World.cell?, k42, sbv]
  have HE2 : Hid (w1.setCell ⟨w.heap.size, 0, none⟩ (.int .i64 (S : Int)) = w2) := hw2.symm
  have K42 := hide k42
  have K52 := hide k52
  have Hb2 := hide b2
  clear hb1 k4 k5 hw2 fs2 k42 k52 b2 HSz eA HA HB HB0
  go_upto_region 2 with fail
  rw [HE2.out]
  clear c40 f40 HE2 e1
  by_cases hbig : 1048576 < S
  · have hgt : decide ((1048576 : Int) < (S : Int)) = true := by simp; omega
    have hgi : (1048576 : Int) < (S : Int) := by omega
    go_wp2
    go_ret2
    exact .inl ⟨hbig, rfl, Hb2.out⟩
  · have hgt : decide ((1048576 : Int) < (S : Int)) = false := by simp; omega
    have hgi : ¬ (1048576 : Int) < (S : Int) := by omega
    obtain ⟨M, hM, hmk⟩ := Bld.makeN S (by omega)
    have HM := hide hM
    clear hM
    obtain ⟨t1, t2, t3⟩ := two_boxes w2 (.cells M 5) (.cells #[.slice (some ⟨w2.heap.size, 0, none⟩) S S] 25)
    obtain ⟨w3, hw3⟩ : ∃ w3, w3 = ((w2.alloc (.cells M 5)).alloc (.cells #[.slice (some ⟨w2.heap.size, 0, none⟩) S S] 25)).alloc (.cells #[.int .i64 64] 3) := ⟨_, rfl⟩
    have t4 : Below w2.heap.size w2 w3 := by rw [hw3]; exact t1.alloc t1.size _
    have b3 : Below w.heap.size w w3 := Hb2.out.trans (t4.mono Hb2.out.size)
    have J0 : JJ w w3 w.heap.size (w.heap.size + 1) (w2.heap.size + 1) (w2.heap.size + 2) w2.heap.size S { s with size := (S : Int) } #[.slice o1 n1 c1, .slice o2 n2 c2, .slice o3 n3 c3, .slice o4 n4 c4, .slice o5 n5 c5, .slice o6 n6 c6] 64 (List.replicate 64 0 ++ List.replicate (n1 + n2 + n3 + n4 + n5 + n6) 0) := by
      have z2 := Hb2.out.size
      refine ⟨b3, (t4.block _ (heap_lt K42.out)).trans K42.out, (t4.block _ (heap_lt K52.out)).trans K52.out, ?_, ?_, ?_, ?_, ⟨Nat.le_refl _, by omega, by omega⟩⟩
      · rw [hw3]; exact (Below.heap_alloc _ _ _ (by simp)).trans t3
      · rw [hw3]; exact heap_new (by simp)
      · rw [hw3, List.replicate_append_replicate, ← HS.out, ← HM.out]; exact (Below.heap_alloc _ _ _ (by simp; omega)).trans t2
      · rw [List.replicate_append_replicate, List.length_replicate]; exact HS.out.symm
    have HE3 : Hid (((w2.alloc (.cells M 5)).alloc (.cells #[.slice (some ⟨w2.heap.size, 0, none⟩) S S] 25)).alloc (.cells #[.int .i64 64] 3) = w3) := hw3.symm
    have HJ0 := hide J0
    have hSl : S ≤ 1048576 := by omega
    clear hw3 J0 t1 t2 t3 t4 b3
    go_upto_region 7 with fail
    rw [HE3.out]
    clear HE3 hmk c402 HM K42 K52 hgt hgi
    have HJ0 : Hid (JJ w w3 w.heap.size (w.heap.size + 1) (w2.heap.size + 1) (w2.heap.size + 1 + 1) w2.heap.size S { s with size := (S : Int) } #[.slice o1 n1 c1, .slice o2 n2 c2, .slice o3 n3 c3, .slice o4 n4 c4, .slice o5 n5 c5, .slice o6 n6 c6] 64 (List.replicate 64 0 ++ List.replicate (n1 + n2 + n3 + n4 + n5 + n6) 0)) := HJ0
    have HIb : Hid (w.heap.size ≤ w2.heap.size) := Hb2.out.size
    generalize w2.heap.size + 1 + 1 = b9 at HJ0 ⊢
    generalize w2.heap.size + 1 = b8 at HJ0 ⊢
    generalize w2.heap.size = ib at HJ0 HIb ⊢
    generalize w.heap.size + 1 = p5 at HJ0 ⊢
    obtain ⟨p4, hp4⟩ : ∃ p4, p4 = w.heap.size := ⟨_, rfl⟩
    rw [← hp4] at HJ0 ⊢
    clear hp4
    obtain ⟨s0, hs0⟩ : ∃ s0 : Sup.Sb, s0 = { s with size := (S : Int) } := ⟨_, rfl⟩
    rw [← hs0] at HJ0
    have HS0 := hide hs0
    obtain ⟨a0, ha0⟩ : ∃ a0, a0 = 64 := ⟨_, rfl⟩
    have HJ0 : Hid (JJ w w3 p4 p5 b8 b9 ib S s0 #[.slice o1 n1 c1, .slice o2 n2 c2, .slice o3 n3 c3, .slice o4 n4 c4, .slice o5 n5 c5, .slice o6 n6 c6] a0 (List.replicate 64 0 ++ List.replicate (n1 + n2 + n3 + n4 + n5 + n6) 0)) := by rw [ha0]; exact HJ0.out
    obtain ⟨X0, hX0⟩ : ∃ X0 : List Int, X0 = List.replicate 64 0 := ⟨_, rfl⟩
    rw [← hX0] at HJ0
    obtain ⟨m0, hm0⟩ : ∃ m0, m0 = n1 + n2 + n3 + n4 + n5 + n6 := ⟨_, rfl⟩
    rw [← hm0] at HJ0
    have HM0 : Hid (a0 + m0 = S ∧ X0.length = a0 ∧ a0 = 64 ∧ X0 = List.replicate 64 0) := ⟨by rw [ha0, hm0]; exact HS.out.symm, by rw [hX0, ha0]; exact List.length_replicate, ha0, hX0⟩
    clear hs0 ha0 hX0 hm0
    have q1 : w3.cell? ⟨p5, 0, none⟩ = some (.slice o1 n1 c1) := by simp [World.cell?, HJ0.out.k5]
    have HL1 := hide (lay1_any b8 b9 ib S a0 n1 c1 o1 (X0 ++ List.replicate m0 0) z1 w3 HJ0.out.k9 HJ0.out.k8 HJ0.out.ki HJ0.out.il (H1.out.below HJ0.out.bel) (by have h1 := HM0.out; have h2 := HS.out; omega) hSl)
    go_wp2_with fail
    refine HL1.out.mono ?_
    rintro r v1 ⟨rfl, k9, ki, fY⟩
    have hJY := HJ0.out.laid HM0.out.2.1 H1.out.1 (by have h1 := HM0.out; have h2 := HS.out; omega) k9 ki fY
    obtain ⟨a1, ha⟩ : ∃ a, a = a0 + n1 := ⟨_, rfl⟩
    obtain ⟨m1, hm⟩ : ∃ m, m = m0 - n1 := ⟨_, rfl⟩
    obtain ⟨X1, hX⟩ : ∃ X, X = X0 ++ z1 := ⟨_, rfl⟩
    rw [← ha, ← hm, ← hX] at hJY
    have HM1 : Hid (a1 + m1 = S ∧ X1.length = a1 ∧ a1 = 64 + n1 ∧ X1 = (List.replicate 64 0) ++ z1) := by
      obtain ⟨g1, g2, g3, g4⟩ := HM0.out
      have g5 := HS.out
      have g6 := H1.out.1
      refine ⟨by omega, by rw [hX, List.length_append]; omega, by omega, by rw [hX, g4]⟩
    clear ha hm hX k9 ki fY HL1 q1
    have HJ1 := hide hJY
    clear hJY HJ0
    go_upto_region 8 with fail
    have q2 : v1.cell? ⟨p5, 1, none⟩ = some (.slice o2 n2 c2) := by simp [World.cell?, HJ1.out.k5]
    have HL2 := hide (lay1_any b8 b9 ib S a1 n2 c2 o2 (X1 ++ List.replicate m1 0) z2 v1 HJ1.out.k9 HJ1.out.k8 HJ1.out.ki HJ1.out.il (H2.out.below HJ1.out.bel) (by have h1 := HM1.out; have h2 := HS.out; omega) hSl)
    go_wp2_with fail
    refine HL2.out.mono ?_
    rintro r v2 ⟨rfl, k9, ki, fY⟩
    have hJY := HJ1.out.laid HM1.out.2.1 H2.out.1 (by have h1 := HM1.out; have h2 := HS.out; omega) k9 ki fY
    obtain ⟨a2, ha⟩ : ∃ a, a = a1 + n2 := ⟨_, rfl⟩
    obtain ⟨m2, hm⟩ : ∃ m, m = m1 - n2 := ⟨_, rfl⟩
    obtain ⟨X2, hX⟩ : ∃ X, X = X1 ++ z2 := ⟨_, rfl⟩
    rw [← ha, ← hm, ← hX] at hJY
    have HM2 : Hid (a2 + m2 = S ∧ X2.length = a2 ∧ a2 = 64 + n1 + n2 ∧ X2 = ((List.replicate 64 0) ++ z1) ++ z2) := by
      obtain ⟨g1, g2, g3, g4⟩ := HM1.out
      have g5 := HS.out
      have g6 := H2.out.1
      refine ⟨by omega, by rw [hX, List.length_append]; omega, by omega, by rw [hX, g4]⟩
    clear ha hm hX k9 ki fY HL2 q2
    have c4 : v2.cell? ⟨p4, 2, none⟩ = some (.int .i64 s0.inodeAt) := by simp [World.cell?, hJY.k4, sbv]
    have f4 : v2.frozen? ⟨p4, 2, none⟩ = false := by simp [World.frozen?, hJY.k4]
    obtain ⟨s1, hsn⟩ : ∃ s' : Sup.Sb, s' = { s0 with inodeAt := (a1 : Int) } := ⟨_, rfl⟩
    have hJZ := hJY.put 2 (.int .i64 (a1 : Int)) s1 (by rw [hsn]; rfl)
    obtain ⟨u2, hu⟩ : ∃ u, v2.setCell ⟨p4, 2, none⟩ (.int .i64 (a1 : Int)) = u := ⟨_, rfl⟩
    rw [hu] at hJZ
    have HJ2 := hide hJZ
    have HU := hide hu
    have HS1 := hide hsn
    clear hJY hJZ hu hsn HJ1
    go_upto_region 9 with fail
    rw [HU.out]
    clear c4 f4 HU
    have q3 : u2.cell? ⟨p5, 2, none⟩ = some (.slice o3 n3 c3) := by simp [World.cell?, HJ2.out.k5]
    have HL3 := hide (lay1_any b8 b9 ib S a2 n3 c3 o3 (X2 ++ List.replicate m2 0) z3 u2 HJ2.out.k9 HJ2.out.k8 HJ2.out.ki HJ2.out.il (H3.out.below HJ2.out.bel) (by have h1 := HM2.out; have h2 := HS.out; omega) hSl)
    go_wp2_with fail
    refine HL3.out.mono ?_
    rintro r v3 ⟨rfl, k9, ki, fY⟩
    have hJY := HJ2.out.laid HM2.out.2.1 H3.out.1 (by have h1 := HM2.out; have h2 := HS.out; omega) k9 ki fY
    obtain ⟨a3, ha⟩ : ∃ a, a = a2 + n3 := ⟨_, rfl⟩
    obtain ⟨m3, hm⟩ : ∃ m, m = m2 - n3 := ⟨_, rfl⟩
    obtain ⟨X3, hX⟩ : ∃ X, X = X2 ++ z3 := ⟨_, rfl⟩
    rw [← ha, ← hm, ← hX] at hJY
    have HM3 : Hid (a3 + m3 = S ∧ X3.length = a3 ∧ a3 = 64 + n1 + n2 + n3 ∧ X3 = (((List.replicate 64 0) ++ z1) ++ z2) ++ z3) := by
      obtain ⟨g1, g2, g3, g4⟩ := HM2.out
      have g5 := HS.out
      have g6 := H3.out.1
      refine ⟨by omega, by rw [hX, List.length_append]; omega, by omega, by rw [hX, g4]⟩
    clear ha hm hX k9 ki fY HL3 q3
    have c4 : v3.cell? ⟨p4, 3, none⟩ = some (.int .i64 s1.dirAt) := by simp [World.cell?, hJY.k4, sbv]
    have f4 : v3.frozen? ⟨p4, 3, none⟩ = false := by simp [World.frozen?, hJY.k4]
    obtain ⟨s2, hsn⟩ : ∃ s' : Sup.Sb, s' = { s1 with dirAt := (a2 : Int) } := ⟨_, rfl⟩
    have hJZ := hJY.put 3 (.int .i64 (a2 : Int)) s2 (by rw [hsn]; rfl)
    obtain ⟨u3, hu⟩ : ∃ u, v3.setCell ⟨p4, 3, none⟩ (.int .i64 (a2 : Int)) = u := ⟨_, rfl⟩
    rw [hu] at hJZ
    have HJ3 := hide hJZ
    have HU := hide hu
    have HS2 := hide hsn
    clear hJY hJZ hu hsn HJ2
    go_upto_region 10 with fail
    rw [HU.out]
    clear c4 f4 HU
    have q4 : u3.cell? ⟨p5, 3, none⟩ = some (.slice o4 n4 c4) := by simp [World.cell?, HJ3.out.k5]
    have HL4 := hide (lay1_any b8 b9 ib S a3 n4 c4 o4 (X3 ++ List.replicate m3 0) z4 u3 HJ3.out.k9 HJ3.out.k8 HJ3.out.ki HJ3.out.il (H4.out.below HJ3.out.bel) (by have h1 := HM3.out; have h2 := HS.out; omega) hSl)
    go_wp2_with fail
    refine HL4.out.mono ?_
    rintro r v4 ⟨rfl, k9, ki, fY⟩
    have hJY := HJ3.out.laid HM3.out.2.1 H4.out.1 (by have h1 := HM3.out; have h2 := HS.out; omega) k9 ki fY
    obtain ⟨a4, ha⟩ : ∃ a, a = a3 + n4 := ⟨_, rfl⟩
    obtain ⟨m4, hm⟩ : ∃ m, m = m3 - n4 := ⟨_, rfl⟩
    obtain ⟨X4, hX⟩ : ∃ X, X = X3 ++ z4 := ⟨_, rfl⟩
    rw [← ha, ← hm, ← hX] at hJY
    have HM4 : Hid (a4 + m4 = S ∧ X4.length = a4 ∧ a4 = 64 + n1 + n2 + n3 + n4 ∧ X4 = ((((List.replicate 64 0) ++ z1) ++ z2) ++ z3) ++ z4) := by
      obtain ⟨g1, g2, g3, g4⟩ := HM3.out
      have g5 := HS.out
      have g6 := H4.out.1
      refine ⟨by omega, by rw [hX, List.length_append]; omega, by omega, by rw [hX, g4]⟩
    clear ha hm hX k9 ki fY HL4 q4
    have c4 : v4.cell? ⟨p4, 4, none⟩ = some (.int .i64 s2.fragAt) := by simp [World.cell?, hJY.k4, sbv]
    have f4 : v4.frozen? ⟨p4, 4, none⟩ = false := by simp [World.frozen?, hJY.k4]
    obtain ⟨s3, hsn⟩ : ∃ s' : Sup.Sb, s' = { s2 with fragAt := (a3 : Int) } := ⟨_, rfl⟩
    have hJZ := hJY.put 4 (.int .i64 (a3 : Int)) s3 (by rw [hsn]; rfl)
    obtain ⟨u4, hu⟩ : ∃ u, v4.setCell ⟨p4, 4, none⟩ (.int .i64 (a3 : Int)) = u := ⟨_, rfl⟩
    rw [hu] at hJZ
    have HJ4 := hide hJZ
    have HU := hide hu
    have HS3 := hide hsn
    clear hJY hJZ hu hsn HJ3
    go_upto_region 11 with fail
    rw [HU.out]
    clear c4 f4 HU
    have q5 : u4.cell? ⟨p5, 4, none⟩ = some (.slice o5 n5 c5) := by simp [World.cell?, HJ4.out.k5]
    have HL5 := hide (lay1_any b8 b9 ib S a4 n5 c5 o5 (X4 ++ List.replicate m4 0) z5 u4 HJ4.out.k9 HJ4.out.k8 HJ4.out.ki HJ4.out.il (H5.out.below HJ4.out.bel) (by have h1 := HM4.out; have h2 := HS.out; omega) hSl)
    go_wp2_with fail
    refine HL5.out.mono ?_
    rintro r v5 ⟨rfl, k9, ki, fY⟩
    have hJY := HJ4.out.laid HM4.out.2.1 H5.out.1 (by have h1 := HM4.out; have h2 := HS.out; omega) k9 ki fY
    obtain ⟨a5, ha⟩ : ∃ a, a = a4 + n5 := ⟨_, rfl⟩
    obtain ⟨m5, hm⟩ : ∃ m, m = m4 - n5 := ⟨_, rfl⟩
    obtain ⟨X5, hX⟩ : ∃ X, X = X4 ++ z5 := ⟨_, rfl⟩
    rw [← ha, ← hm, ← hX] at hJY
    have HM5 : Hid (a5 + m5 = S ∧ X5.length = a5 ∧ a5 = 64 + n1 + n2 + n3 + n4 + n5 ∧ X5 = (((((List.replicate 64 0) ++ z1) ++ z2) ++ z3) ++ z4) ++ z5) := by
      obtain ⟨g1, g2, g3, g4⟩ := HM4.out
      have g5 := HS.out
      have g6 := H5.out.1
      refine ⟨by omega, by rw [hX, List.length_append]; omega, by omega, by rw [hX, g4]⟩
    clear ha hm hX k9 ki fY HL5 q5
    have c4 : v5.cell? ⟨p4, 5, none⟩ = some (.int .i64 s3.idAt) := by simp [World.cell?, hJY.k4, sbv]
    have f4 : v5.frozen? ⟨p4, 5, none⟩ = false := by simp [World.frozen?, hJY.k4]
    obtain ⟨s4, hsn⟩ : ∃ s' : Sup.Sb, s' = { s3 with idAt := (a4 : Int) } := ⟨_, rfl⟩
    have hJZ := hJY.put 5 (.int .i64 (a4 : Int)) s4 (by rw [hsn]; rfl)
    obtain ⟨u5, hu⟩ : ∃ u, v5.setCell ⟨p4, 5, none⟩ (.int .i64 (a4 : Int)) = u := ⟨_, rfl⟩
    rw [hu] at hJZ
    have HJ5 := hide hJZ
    have HU := hide hu
    have HS4 := hide hsn
    clear hJY hJZ hu hsn HJ4
    go_upto_region 12 with fail
    rw [HU.out]
    clear c4 f4 HU
    have q6 : u5.cell? ⟨p5, 5, none⟩ = some (.slice o6 n6 c6) := by simp [World.cell?, HJ5.out.k5]
    have HL6 := hide (lay1_any b8 b9 ib S a5 n6 c6 o6 (X5 ++ List.replicate m5 0) z6 u5 HJ5.out.k9 HJ5.out.k8 HJ5.out.ki HJ5.out.il (H6.out.below HJ5.out.bel) (by have h1 := HM5.out; have h2 := HS.out; omega) hSl)
    go_wp2_with fail
    refine HL6.out.mono ?_
    rintro r v6 ⟨rfl, k9, ki, fY⟩
    have hJY := HJ5.out.laid HM5.out.2.1 H6.out.1 (by have h1 := HM5.out; have h2 := HS.out; omega) k9 ki fY
    obtain ⟨a6, ha⟩ : ∃ a, a = a5 + n6 := ⟨_, rfl⟩
    obtain ⟨m6, hm⟩ : ∃ m, m = m5 - n6 := ⟨_, rfl⟩
    obtain ⟨X6, hX⟩ : ∃ X, X = X5 ++ z6 := ⟨_, rfl⟩
    rw [← ha, ← hm, ← hX] at hJY
    have HM6 : Hid (a6 + m6 = S ∧ X6.length = a6 ∧ a6 = 64 + n1 + n2 + n3 + n4 + n5 + n6 ∧ X6 = ((((((List.replicate 64 0) ++ z1) ++ z2) ++ z3) ++ z4) ++ z5) ++ z6) := by
      obtain ⟨g1, g2, g3, g4⟩ := HM5.out
      have g5 := HS.out
      have g6 := H6.out.1
      refine ⟨by omega, by rw [hX, List.length_append]; omega, by omega, by rw [hX, g4]⟩
    clear ha hm hX k9 ki fY HL6 q6
    have c4 : v6.cell? ⟨p4, 6, none⟩ = some (.int .i64 s4.xattrAt) := by simp [World.cell?, hJY.k4, sbv]
    have f4 : v6.frozen? ⟨p4, 6, none⟩ = false := by simp [World.frozen?, hJY.k4]
    obtain ⟨s5, hsn⟩ : ∃ s' : Sup.Sb, s' = { s4 with xattrAt := (a5 : Int) } := ⟨_, rfl⟩
    have hJZ := hJY.put 6 (.int .i64 (a5 : Int)) s5 (by rw [hsn]; rfl)
    obtain ⟨u6, hu⟩ : ∃ u, v6.setCell ⟨p4, 6, none⟩ (.int .i64 (a5 : Int)) = u := ⟨_, rfl⟩
    rw [hu] at hJZ
    have HJ6 := hide hJZ
    have HU := hide hu
    have HS5 := hide hsn
    clear hJY hJZ hu hsn HJ5
    go_upto_region 13 with fail
    rw [HU.out]
    clear c4 f4 HU
    have HSb : Hid (s5 = Bld.sbl s n1 n2 n3 n4 n5 n6) := by
      have h0 := HS.out
      have e1 := HM1.out.2.2.1
      have e2 := HM2.out.2.2.1
      have e3 := HM3.out.2.2.1
      have e4 := HM4.out.2.2.1
      have e5 := HM5.out.2.2.1
      show _ = _
      rw [HS5.out, HS4.out, HS3.out, HS2.out, HS1.out, HS0.out, e1, e2, e3, e4, e5]
      unfold Bld.sbl
      rw [h0]
    have HXe : Hid (X6 = List.replicate 64 0 ++ (z1 ++ (z2 ++ (z3 ++ (z4 ++ (z5 ++ z6)))))) := by
      show _ = _
      rw [HM6.out.2.2.2]; simp only [List.append_assoc]
    have hm6 : m6 = 0 := by
      have h0 := HS.out; have h1 := HM6.out.1; have h2 := HM6.out.2.2.1; omega
    subst hm6
    have HJ6 : Hid (JJ w u6 p4 p5 b8 b9 ib S s5 #[.slice o1 n1 c1, .slice o2 n2 c2, .slice o3 n3 c3, .slice o4 n4 c4, .slice o5 n5 c5, .slice o6 n6 c6] a6 X6) := by have := HJ6.out; rw [List.replicate_zero, List.append_nil] at this; exact this
    have hpos := HW.out.pos
    have HPut := hide (sPut_any tb ent s5 u6 small_ent (HT.out.below HJ6.out.bel htb) (Nat.lt_of_lt_of_le htb HJ6.out.bel.size) (HW.out.below HJ6.out.bel hpos))
    have hX6 := HJ6.out.il
    have HX6 := hide hX6
    have h64 : 64 ≤ S := by have := HS.out; omega
    clear hX6
    go_wp2_with (refine wpList_load_sb rfl _ rfl p4 rfl 45 (sbv s5) (0, 0) HJ6.out.k4 rfl ?_)
    refine HPut.out.mono ?_
    rintro r w8 ⟨(⟨hok, fb, rfl, hfb, hfh⟩ | ⟨hok, rfl⟩), hb8⟩
    · have hJ8 := HJ6.out.below hb8
      have hpl : (Sup.put ent s5).length = 64 := Sup.put_length ent s5
      have hBf := bs_blk (Sup.put_bytes ent s5) hfh
      rw [hpl] at hBf
      obtain ⟨w9, hcp, hi9, f9⟩ := copy_into (gb := ib) (S := S) (off := 0) (n := 64) (c := 64) (dL := S) (dC := S) (dp := some ⟨ib, 0, none⟩) hJ8.ki hJ8.il hBf (by omega) (by omega) (fun _ => rfl)
      have c8 : w8.cell? ⟨b8, 0, none⟩ = some (.slice (some ⟨ib, 0, none⟩) S S) := by simp [World.cell?, hJ8.k8]
      have k89 := (f9.block _ (heap_lt hJ8.k8) (obj_ne hJ8.k8 hJ8.ki (by decide))).trans hJ8.k8
      have c89 : w9.cell? ⟨b8, 0, none⟩ = some (.slice (some ⟨ib, 0, none⟩) S S) := by simp [World.cell?, k89]
      have HF : Hid (w9.heap[ib]? = some (.cells (bv (Bld.fst64 (Bld.sbl s n1 n2 n3 n4 n5 n6) ++ (z1 ++ (z2 ++ (z3 ++ (z4 ++ (z5 ++ z6))))))).toArray 5 (0, 0)) ∧ Bytes (Bld.fst64 (Bld.sbl s n1 n2 n3 n4 n5 n6) ++ (z1 ++ (z2 ++ (z3 ++ (z4 ++ (z5 ++ z6)))))) ∧ Below w.heap.size w w9) := by
        refine ⟨?_, (Bld.fst64_bytes _).append (H1.out.bytes.append (H2.out.bytes.append (H3.out.bytes.append (H4.out.bytes.append (H5.out.bytes.append H6.out.bytes))))), hJ8.bel.trans (f9.below _ hJ8.bel.size (fun k (hk : k = ib) => by rw [hk]; exact HIb.out))⟩
        rw [hi9, HXe.out, ← HSb.out]
        unfold Bld.fst64
        rw [if_pos (Sup.may_iff.2 hok), List.take_zero, List.nil_append, Nat.zero_add, List.drop_left' List.length_replicate]
      clear hJ8 hBf hpl hi9 f9 k89 hfh hb8 hfb hok HPut
      go_wp2
      go_ret2
      exact .inr ⟨hSl, ib, rfl, HIb.out, HF.out⟩
    · have hJ8 := HJ6.out.below hb8
      have c8 : w8.cell? ⟨b8, 0, none⟩ = some (.slice (some ⟨ib, 0, none⟩) S S) := by simp [World.cell?, hJ8.k8]
      obtain ⟨w9, hcp, hi9, f9⟩ := copy_into (gb := ib) (S := S) (off := 0) (n := 0) (c := 0) (dL := S) (dC := S) (dp := some ⟨ib, 0, none⟩) (bo := none) (b := []) hJ8.ki hJ8.il ⟨rfl, fun i => by simp [g], .inl rfl⟩ (by omega) (by omega) (fun _ => rfl)
      have k89 := (f9.block _ (heap_lt hJ8.k8) (obj_ne hJ8.k8 hJ8.ki (by decide))).trans hJ8.k8
      have c89 : w9.cell? ⟨b8, 0, none⟩ = some (.slice (some ⟨ib, 0, none⟩) S S) := by simp [World.cell?, k89]
      have HF : Hid (w9.heap[ib]? = some (.cells (bv (Bld.fst64 (Bld.sbl s n1 n2 n3 n4 n5 n6) ++ (z1 ++ (z2 ++ (z3 ++ (z4 ++ (z5 ++ z6))))))).toArray 5 (0, 0)) ∧ Bytes (Bld.fst64 (Bld.sbl s n1 n2 n3 n4 n5 n6) ++ (z1 ++ (z2 ++ (z3 ++ (z4 ++ (z5 ++ z6)))))) ∧ Below w.heap.size w w9) := by
        refine ⟨?_, (Bld.fst64_bytes _).append (H1.out.bytes.append (H2.out.bytes.append (H3.out.bytes.append (H4.out.bytes.append (H5.out.bytes.append H6.out.bytes))))), hJ8.bel.trans (f9.below _ hJ8.bel.size (fun k (hk : k = ib) => by rw [hk]; exact HIb.out))⟩
        rw [hi9, HXe.out, ← HSb.out]
        unfold Bld.fst64
        rw [if_neg (fun h => hok (Sup.may_iff.1 h)), List.take_zero, List.nil_append, List.nil_append, Nat.zero_add, List.drop_zero]
      clear hJ8 hi9 f9 k89 hb8 hok HPut
      go_wp2
      go_ret2
      exact .inr ⟨hSl, ib, rfl, HIb.out, HF.out⟩
end Go.Proofs.YtchcejjoncihkaaGreatDoor

/- Layer 14: the records at their beginning: numbers, onceInto, newRecords. -/
namespace Go.Proofs.YtchcejjoncihkaaGreatDoor
set_option linter.unusedVariables false
open Go.RowKit Go.Maps
open Lz (g)
open Crc (ent)
open Frm Mtr Tre Nam Tab Bld

theorem putN_len (wide : Int) (l : List Int) : (putN wide l).1.length ≤ 4 * l.length := by
  unfold putN
  split
  · exact pn_length wide l
  · simp
set_option maxRecDepth 100000 in
theorem numbers_any (tb : Nat) (a : Option Addr) (n c : Nat) (l : List Int) (wide : Int) (w : World) (hT : Tb w tb ent) (htb : tb < w.heap.size) (h : Zs w a n l) (hn : n ≤ 10000) (hl : ∀ x ∈ l, In64 x) (hw : In64 wide) :
    Calls Tryz.prog 24 #[.pointer (some ⟨tb, 0, none⟩), .slice a n c, .int .i64 wide] w fun r w' => ∃ ao cc, r = .returned (.slice ao (done ent (putN wide l).1).length cc) ∧ Fresh w w' ao (done ent (putN wide l).1).length cc (done ent (putN wide l).1) := by
  have HP := hide (PutNums_any a n c l wide w h hn hl hw)
  have hlen := putN_len wide l
  have hll := h.1
  have HT := hide hT
  obtain ⟨A, hA⟩ : ∃ A, A = putN wide l := ⟨_, rfl⟩
  rw [← hA] at HP hlen ⊢
  have hAl : A.1.length ≤ 100000 := by omega
  obtain ⟨dl, hdl⟩ : ∃ dl, (done ent A.1).length = dl := ⟨_, rfl⟩
  rw [hdl]
  have HDl := hide hdl
  clear h hT hA hlen hll hdl
  go_enter Tryz.func24, Tryz.ntmps24
  go_wp2_with fail
  refine HP.out.mono ?_
  rintro r w1 ⟨ao, c1, rfl, hN⟩
  have HN := hide hN
  clear hN HP
  have HNw := hide (metaNew_any tb w1)
  generalize hal : A.1.length = al at *
  generalize A.2 = a2 at *
  go_wp2_with fail
  refine HNw.out.mono ?_
  rintro r w2 ⟨rfl, hM2, hb2, hs2⟩
  obtain ⟨p, hp⟩ : ∃ p, p = w1.heap.size := ⟨_, rfl⟩
  rw [← hp] at hM2 ⊢
  have b02 : Below w.heap.size w w2 := HN.out.bel.trans (hb2.mono HN.out.bel.size)
  have hT2 := HT.out.below b02 htb
  have htb2 : tb < w2.heap.size := Nat.lt_of_lt_of_le htb b02.size
  have HAd := hide (Add_any p tb al c1 (fun k => k = p) ao ent [] A.1 w2 (by simpa [Mtr.fr, Mtr.rest] using hM2) hT2 htb2 (fun e => by have := HN.out.bel.size; omega) small_ent (HN.out.bs.below hb2) HN.out.nil (by simp) (by omega))
  have HB02 := hide b02
  have HPg : Hid (w.heap.size ≤ p) := by rw [hp]; exact HN.out.bel.size
  rw [List.nil_append] at HAd
  clear hM2 hb2 hs2 hT2 b02 HNw hp
  go_wp2_with fail
  refine HAd.out.mono ?_
  rintro r w3 ⟨rfl, O3, hM3, hF3, hG3⟩
  have b03 : Below w.heap.size w w3 := HB02.out.trans (hF3.below _ HB02.out.size (fun k (hk : k = p) => by rw [hk]; exact HPg.out))
  have HDn := hide (metaDone_any p tb O3 ent A.1 w3 hM3 (HT.out.below b03 htb) (Nat.lt_of_lt_of_le htb b03.size) small_ent (by omega))
  have HB03 := hide b03
  rw [HDl.out] at HDn
  clear hM3 hF3 hG3 b03 HAd
  go_wp2_with fail
  refine HDn.out.mono ?_
  rintro r w4 ⟨ao4, c4, rfl, hF4⟩
  have HX := hide (hF4.from HB03.out)
  clear hF4 HDn
  go_wp2
  go_ret
  exact ⟨_, _, rfl, HX.out⟩
set_option maxRecDepth 100000 in
theorem onceInto_any (px : Nat) (w : World) :
    Calls Tryz.prog 57 #[.pointer (some ⟨px, 0, none⟩)] w fun r w' => r = .returned (.func (.func 117) #[] #[.pointer (some ⟨w.heap.size + 2, 0, none⟩), .pointer (some ⟨w.heap.size, 0, none⟩)]) ∧ Below w.heap.size w w' ∧ w'.heap.size = w.heap.size + 3 ∧
      w'.heap[w.heap.size + 2]? = some (.cells #[.map (some (w.heap.size + 1))] 160 (0, 0)) ∧ w'.heap[w.heap.size]? = some (.cells #[.pointer (some ⟨px, 0, none⟩)] 59 (0, 0)) ∧ MpD w' (w.heap.size + 1) [] := by
  have mk := Dat.make
  go_enter Tryz.func57, Tryz.ntmps57
  go_wp2
  go_ret
  have b1 : Below w.heap.size w (w.alloc (.cells #[.pointer (some ⟨px, 0, none⟩)] 59)) := (Below.refl _ w).alloc (Nat.le_refl _) _
  have b2 := b1.alloc b1.size (.map #[] 0)
  have b3 := b2.alloc b2.size (.cells #[.map (some (w.heap.size + 1))] 160)
  refine ⟨rfl, b3, by simp, heap_new (by simp), ?_, ?_⟩
  · exact (Below.heap_alloc _ _ _ (by simp; omega)).trans ((Below.heap_alloc _ _ _ (by simp)).trans (heap_new (by simp)))
  · have h1 := MpD.new (w.alloc (.cells #[.pointer (some ⟨px, 0, none⟩)] 59))
    have e : (w.alloc (.cells #[.pointer (some ⟨px, 0, none⟩)] 59)).heap.size = w.heap.size + 1 := by simp
    rw [e] at h1
    exact h1.same (Below.heap_alloc _ _ _ (by simp))
/-- The owners of nodes, by themselves. -/
def Bld.OwnN (l : List Nod) (own : List Int) : Prop := own.Pairwise (· < ·) ∧ ∀ x, x ∈ own ↔ ∃ n ∈ l, x = n.uid ∨ x = n.gid
theorem own_of {L : List (Nv × Nod)} {R : List Int} (hw : Wf L) (hr : ∀ p ∈ L, p.2.uid = p.1.uid ∧ p.2.gid = p.1.gid) (h : OwnersOf L R) : OwnN (nds L) R := by
  refine ⟨h.1, fun x => ?_⟩
  rw [h.2 x]
  unfold us nds
  constructor
  · intro hx
    obtain ⟨y, hy, rfl⟩ := List.mem_map.1 hx
    obtain ⟨p, hp, hy⟩ := List.mem_flatMap.1 hy
    refine ⟨p.2, List.mem_map.2 ⟨p, hp, rfl⟩, ?_⟩
    simp only [List.mem_cons, List.not_mem_nil, or_false] at hy
    rcases hy with rfl | rfl
    · rw [i64_val (hw p hp).1, (hr p hp).1]; exact .inl rfl
    · rw [i64_val (hw p hp).2, (hr p hp).2]; exact .inr rfl
  · rintro ⟨n, hn, hx⟩
    obtain ⟨p, hp, rfl⟩ := List.mem_map.1 hn
    rcases hx with rfl | rfl
    · exact List.mem_map.2 ⟨i64 p.1.uid, List.mem_flatMap.2 ⟨p, hp, by simp⟩, by rw [i64_val (hw p hp).1, (hr p hp).1]⟩
    · exact List.mem_map.2 ⟨i64 p.1.gid, List.mem_flatMap.2 ⟨p, hp, by simp⟩, by rw [i64_val (hw p hp).2, (hr p hp).2]⟩
theorem nodup_le : ∀ (xs ys : List Int), xs.Nodup → (∀ x ∈ xs, x ∈ ys) → xs.length ≤ ys.length
  | [], _, _, _ => Nat.zero_le _
  | x :: xs, ys, hnd, hs => by
    rw [List.nodup_cons] at hnd
    have hx : x ∈ ys := hs x (List.mem_cons_self ..)
    have h1 := nodup_le xs (ys.erase x) hnd.2 (fun y hy => (List.mem_erase_of_ne (fun (e : y = x) => hnd.1 (by rw [← e]; exact hy))).2 (hs y (List.mem_cons_of_mem _ hy)))
    rw [List.length_erase_of_mem hx] at h1
    have h2 : 0 < ys.length := List.length_pos_of_mem hx
    rw [List.length_cons]; omega
/-- Owners are at most two a node. -/
theorem own_len {l : List Nod} {own : List Int} (h : OwnN l own) : own.length ≤ 2 * l.length := by
  have hd : own.Nodup := h.1.imp (fun hx => by omega)
  have hs : ∀ x ∈ own, x ∈ l.flatMap (fun n => [n.uid, n.gid]) := fun x hx => by
    obtain ⟨n, hn, e⟩ := (h.2 x).1 hx
    exact List.mem_flatMap.2 ⟨n, hn, by simpa using e⟩
  have h1 := nodup_le _ _ hd hs
  have h2 : (l.flatMap (fun n => [n.uid, n.gid])).length = 2 * l.length := by
    clear h hd hs h1
    induction l with
    | nil => rfl
    | cons n l ih => rw [List.flatMap_cons, List.length_append, ih]; simp; omega
  omega
/-- What holds of a canonical row's nodes, for an image of them. -/
structure Tn (L : List (Nv × Nod)) : Prop where
  pos : 0 < L.length
  n40 : L.length ≤ 40
  ino : ∀ i, i < L.length → (Lit.int .i64 (gn (nds L) i).ino).wf = true
  uno : Uno (nds L)
  nod : ((nds L).map Nod.names).Nodup
  can : CanP L
  may : ∀ n ∈ nds L, Tre.may n = true
  deep : ∀ n ∈ nds L, n.names.length ≤ 16
  long : ∀ n ∈ nds L, ∀ s ∈ n.names, s.size ≤ 255
/-- What newRecords answers. -/
def RAns (a : Option Addr) (n c tb fb : Nat) (L : List (Nv × Nod)) (fm : Fm) (w : World) (e : Ending) (w' : World) : Prop :=
  ∃ (x : Cx) (O : Nat → Prop), e = .returned (.pointer (some ⟨x.rp, 0, none⟩)) ∧ x.L = L ∧ x.fm = fm ∧ x.n = n ∧ x.tb = tb ∧ OwnN (nds L) x.own ∧ Sta x w ∧ RS x w w' O ws0 ∧ (∀ k, O k → w.heap.size ≤ k) ∧ Below w.heap.size w w'
set_option maxRecDepth 100000 in
set_option maxHeartbeats 4000000 in
theorem newRecords_any (a : Option Addr) (n c tb fb : Nat) (L : List (Nv × Nod)) (fm : Fm) (w : World) (hN : Ns w a n L) (hc : n ≤ c) (hcm : c ≤ 9223372036854775807) (hT : Tb w tb ent) (htb : tb < w.heap.size) (hF : MpF w fb fm) (ht : Tn L) :
    Calls Tryz.prog 20 #[.pointer (some ⟨tb, 0, none⟩), .slice a n c, .map (some fb)] w (RAns a n c tb fb L fm w) := by
  have hl := hN.1
  have hwf : ∀ p ∈ L, (0 ≤ p.2.uid ∧ p.2.uid ≤ 65535) ∧ (0 ≤ p.2.gid ∧ p.2.gid ≤ 65535) := fun p hp => by
    have h1 := ht.may p.2 (List.mem_map.2 ⟨p, hp, rfl⟩)
    unfold Tre.may at h1
    simp only [Bool.and_eq_true] at h1
    have h2 := h1.1.1.2
    unfold attrOk at h2
    simp only [decide_eq_true_eq] at h2
    exact h2.2
  have hWf : Wf L := fun p hp => by
    have h1 := hwf p hp
    have h2 := hN.2.1 p hp
    rw [h2.uid, h2.gid] at h1
    exact ⟨WalkArith.wf_i64 (by omega), WalkArith.wf_i64 (by omega)⟩
  have HID := hide (fun (w' : World) (h' : Below w.heap.size w w') => IDs_any a n c L w' (hN.below h') (by have := ht.n40; omega) hWf)
  have HN := hide hN
  have HT := hide hT
  have HF := hide hF
  have Ht := hide ht
  have HWf := hide hWf
  have Hwf := hide hwf
  have mk : ∀ w' : World, (Instr.makeMap 61 none).run Tryz.prog w' = .ok (.map (some w'.heap.size)) (w'.alloc (.map #[] 0)) := fun w' => by simp [Instr.makeMap, Result.andThen]
  have HNew := hide (metaNew_any tb)
  clear hN hT hF ht hwf hWf
  go_enter Tryz.func20, Tryz.ntmps20
  go_wp2_with fail
  refine (HNew.out w).mono ?_
  rintro r w1 ⟨rfl, hM1, hb1, hs1⟩
  obtain ⟨px, hpx⟩ : ∃ px, px = w.heap.size := ⟨_, rfl⟩
  rw [← hpx] at hM1 ⊢
  have HM1 := hide hM1
  have HB1 := hide hb1
  have HPx := hide hpx
  clear hM1 hb1 hpx hs1
  go_wp2_with fail
  refine (HID.out w1 HB1.out).mono ?_
  rintro r w2 ⟨v, R, rfl, hO2, hR2, hb2⟩
  obtain ⟨oa, oc, rfl⟩ := owns_shape hO2
  have HO2 := hide hO2
  have HR2 := hide hR2
  have HB2 := hide hb2
  generalize hRl : R.length = rl at *
  have HRl := hide hRl
  clear hO2 hR2 hb2 HID hRl
  go_wp2_with fail
  refine (HNew.out w2).mono ?_
  rintro r w3 ⟨rfl, hM3, hb3, hs3⟩
  obtain ⟨pi, hpi⟩ : ∃ pi, pi = w2.heap.size := ⟨_, rfl⟩
  rw [← hpi] at hM3 ⊢
  have HM3 := hide hM3
  have HB3 := hide hb3
  have HPi := hide hpi
  have HS3 := hide hs3
  clear hM3 hb3 hpi hs3
  go_wp2_with fail
  refine (HNew.out w3).mono ?_
  rintro r w4 ⟨rfl, hM4, hb4, hs4⟩
  obtain ⟨pd, hpd⟩ : ∃ pd, pd = w3.heap.size := ⟨_, rfl⟩
  rw [← hpd] at hM4 ⊢
  have HM4 := hide hM4
  have HB4 := hide hb4
  have HPd := hide hpd
  clear hM4 hb4 hpd hs4
  have HOn := hide (onceInto_any px w4)
  go_wp2_with fail
  refine HOn.out.mono ?_
  rintro r w5 ⟨rfl, hb5, hs5, k1, k2, k3⟩
  obtain ⟨b1, hb1⟩ : ∃ b1, b1 = w4.heap.size + 2 := ⟨_, rfl⟩
  obtain ⟨b2, hb2⟩ : ∃ b2, b2 = w4.heap.size := ⟨_, rfl⟩
  obtain ⟨mx, hmx⟩ : ∃ mx, mx = w4.heap.size + 1 := ⟨_, rfl⟩
  rw [← hb1, ← hmx] at k1
  rw [← hb2] at k2
  rw [← hmx] at k3
  rw [← hb1, ← hb2]
  have K1 := hide k1
  have K2 := hide k2
  have K3 := hide k3
  have HB5 := hide hb5
  have HEq : Hid (b1 = w4.heap.size + 2 ∧ b2 = w4.heap.size ∧ mx = w4.heap.size + 1 ∧ w5.heap.size = w4.heap.size + 3) := ⟨hb1, hb2, hmx, hs5⟩
  clear k1 k2 k3 hb5 hs5 hb1 hb2 hmx HOn
  go_wp2
  go_ret
  obtain ⟨e1, e2, e3, e4⟩ := HEq.out
  have f1 := HPx.out
  have f2 := HPi.out
  have f3 := HPd.out
  have z1 := HB1.out.size
  have z2 := HB2.out.size
  have z3 := HS3.out
  have z4 := HB4.out.size
  have hp1 := HM1.out.lt.1
  have hp3 := HM3.out.lt.1
  have hp4 := HM4.out.lt.1
  obtain ⟨t1, t2, t3⟩ := two_boxes w5 (.map #[] 0) (.cells (rcv ⟨a, n, c, fb, oa, rl, oc, pi, pd, px, w5.heap.size, mx, b1, b2, w5.heap.size + 1, tb, L, R, fm⟩) 63)
  obtain ⟨w6, hw6⟩ : ∃ w6, w6 = (w5.alloc (.map #[] 0)).alloc (.cells (rcv ⟨a, n, c, fb, oa, rl, oc, pi, pd, px, w5.heap.size, mx, b1, b2, w5.heap.size + 1, tb, L, R, fm⟩) 63) := ⟨_, rfl⟩
  have hMr : MpR w6 w5.heap.size (nds L) [] := (MpR.new w5 (nds L)).same (by rw [hw6]; exact Below.heap_alloc _ _ _ (by simp))
  rw [← hw6] at t1 t2 t3
  have eW : (w5.alloc (.map #[] 0)).alloc (Obj.cells #[.slice a n c, .map (some fb), .slice oa rl oc, .pointer (some ⟨pi, 0, none⟩), .pointer (some ⟨pd, 0, none⟩), .pointer (some ⟨px, 0, none⟩), .func (.func 117) #[] #[.pointer (some ⟨b1, 0, none⟩), .pointer (some ⟨b2, 0, none⟩)], .map (some w5.heap.size)] 63) = w6 := by rw [hw6]; rfl
  rw [eW]
  have hRn := own_of HWf.out (fun p hp => ⟨(HN.out.2.1 p hp).uid, (HN.out.2.1 p hp).gid⟩) HR2.out
  have hRln := own_len hRn
  rw [nds_length] at hRln
  have hR64 : ∀ y ∈ R, In64 y := fun y hy => by
    obtain ⟨m, hm, hx⟩ := (hRn.2 y).1 hy
    obtain ⟨p, hp, rfl⟩ := List.mem_map.1 hm
    have := Hwf.out p hp
    rcases hx with rfl | rfl <;> exact ⟨by omega, by omega⟩
  have b46 : Below w4.heap.size w4 w6 := HB5.out.trans (t1.mono HB5.out.size)
  have b36 : Below w3.heap.size w3 w6 := HB4.out.trans (b46.mono HB4.out.size)
  have b26 : Below w2.heap.size w2 w6 := HB3.out.trans (b36.mono HB3.out.size)
  have b16 : Below w1.heap.size w1 w6 := HB2.out.trans (b26.mono HB2.out.size)
  have b06 : Below w.heap.size w w6 := HB1.out.trans (b16.mono HB1.out.size)
  have hO6 := owns_below HO2.out b26
  have hcap := Dir.cap_own hO6
  have hob : ∀ a', oa = some a' → w1.heap.size ≤ a'.block ∧ a'.block < w2.heap.size ∧ (∃ cur, w2.heap[a'.block]? = some (.cells cur 3 (0, 0))) := fun a' ha => by
    have hk : (Value.slice oa rl oc).ownBlock = some a'.block := by rw [ha]; rfl
    exact ⟨(HO2.out.lt _ hk).1, (HO2.out.lt _ hk).2, owns_obj HO2.out hk⟩
  refine ⟨⟨a, n, c, fb, oa, rl, oc, pi, pd, px, w5.heap.size, mx, b1, b2, w5.heap.size + 1, tb, L, R, fm⟩, Ou ⟨a, n, c, fb, oa, rl, oc, pi, pd, px, w5.heap.size, mx, b1, b2, w5.heap.size + 1, tb, L, R, fm⟩ (fun k => k = pi) (fun k => k = pd) (fun k => k = px), rfl, rfl, rfl, rfl, rfl, hRn, ?_, ⟨_, _, _, rfl, ?_⟩, ?_, ?_⟩
  · exact ⟨HN.out, hc, hcm, by have := Ht.out.n40; show n ≤ 40; omega, HF.out, HT.out, htb, fun i (hi : i < n) => Ht.out.ino i (by omega), Ht.out.uno, Ht.out.nod, Ht.out.can, Ht.out.may, Ht.out.deep, Ht.out.long, hRn.1, fun m hm => ⟨(hRn.2 _).2 ⟨m, hm, .inl rfl⟩, (hRn.2 _).2 ⟨m, hm, .inr rfl⟩⟩, HRl.out, hcap.1, hcap.2.1, by have h1 := Ht.out.n40; have h2 := HRl.out; show rl ≤ 80; omega, hR64⟩
  · have nst : ∀ k, w.heap.size ≤ k → k ≠ w5.heap.size + 1 → k ≠ b1 → k ≠ b2 → (∀ a', oa = some a' → k ≠ a'.block) → ¬ Stc ⟨a, n, c, fb, oa, rl, oc, pi, pd, px, w5.heap.size, mx, b1, b2, w5.heap.size + 1, tb, L, R, fm⟩ w k := by
      rintro k h0 h1 h2 h3 h4 (hk | hk | hk | hk | ⟨a', ha, hk⟩)
      · omega
      · exact h1 hk
      · exact h2 hk
      · exact h3 hk
      · exact h4 a' ha hk
    have g1 : ∀ a', oa = some a' → px ≠ a'.block ∧ pi ≠ a'.block ∧ pd ≠ a'.block ∧ w5.heap.size ≠ a'.block ∧ mx ≠ a'.block := fun a' ha => by
      obtain ⟨h1, h2, _⟩ := hob a' ha
      exact ⟨by omega, by omega, by omega, by omega, by omega⟩
    refine ⟨b06, t3, (t1.block _ (heap_lt K1.out)).trans K1.out, (t1.block _ (heap_lt K2.out)).trans K2.out, Zs.of hO6, fun a' ha => ?_, ?_, ?_, ?_, hMr, K3.out.same (t1.block _ K3.out.lt), ?_, ?_, ?_, ?_, ?_, ?_⟩
    · have := (hob a' ha).2.1; have := b26.size; omega
    · exact HM3.out.below b36
    · exact HM4.out.below b46
    · exact HM1.out.below b16
    · rintro k rfl
      exact ⟨nst _ (by omega) (by omega) (by omega) (by omega) (fun a' ha => (g1 a' ha).2.1), fun (h : k = pd) => by omega, fun (h : k = px) => by omega, by show k ≠ w5.heap.size; omega, by show k ≠ mx; omega⟩
    · rintro k rfl
      exact ⟨nst _ (by omega) (by omega) (by omega) (by omega) (fun a' ha => (g1 a' ha).2.2.1), fun (h : k = px) => by omega, by show k ≠ w5.heap.size; omega, by show k ≠ mx; omega⟩
    · rintro k rfl
      exact ⟨nst _ (by omega) (by omega) (by omega) (by omega) (fun a' ha => (g1 a' ha).1), by show k ≠ w5.heap.size; omega, by show k ≠ mx; omega⟩
    · exact nst w5.heap.size (by omega) (by omega) (by omega) (by omega) (fun a' ha => (g1 a' ha).2.2.2.1)
    · exact nst mx (by omega) (by omega) (by omega) (by omega) (fun a' ha => (g1 a' ha).2.2.2.2)
    · show w5.heap.size ≠ mx; omega
  · rintro k (hk | hk | hk | hk | hk)
    · have : k = pi := hk; omega
    · have : k = pd := hk; omega
    · have : k = px := hk; omega
    · have : k = w5.heap.size := hk; omega
    · have : k = mx := hk; omega
  · exact b06
end Go.Proofs.YtchcejjoncihkaaGreatDoor

/- A range over a function whose iterator keeps a state of its own: the statement, and a round. Nothing here speaks of the program. -/
namespace Go.Proofs.YtchcejjoncihkaaGreatDoor
set_option linter.unusedVariables false
open Go.RowKit Go.Maps

/-- The loop's record. -/
def recOf (fn : FuncId) (tmps : Array Value) (ps : Array Tmp) (assign body : Code) (D : Nat) (st : LoopState) (pe : Option Code) : Loop :=
  { state := st, pending := pe, fn, tmps, params := ps, assign, body, defers := D }
/-- The statement, where no round leaves it: the iterator is called, with the record laid; behind it the record lies as it lay. -/
theorem wpIn_range {F : Fence} {n : Nat} {P : Program} {g : Operand} {ps : Array Tmp} {assign body : Code} {Q : Exit → Act → World → Prop} {a : Act} {w : World}
    (hro : F.round = none) (h1 : 1 ≤ n) {gf : Nat} {lb : Array Value} (hg : a.eval g = .func (.func gf) #[] lb) (hFg : F.fn gf) (eg : ∀ args w, (callFunc gf args).run P w = .ok (.enter gf args) w)
    (h : ∀ fn, F.fn fn → CallsIn F (n - 1) P gf (#[.func (.yield (w.heap.size + 1)) #[] #[]] ++ lb) ((w.alloc (.deferred (some []))).alloc (.loop (recOf fn a.tmps ps assign body w.heap.size .ready none))) fun e W =>
      (∃ v, e = .returned v) ∧ W.heap[w.heap.size + 1]? = some (.loop (recOf fn a.tmps ps assign body w.heap.size .ready none)) ∧
      Q .normal { a with defers := { target := .collected w.heap.size, args := #[] } :: a.defers } (W.putObj (w.heap.size + 1) (.loop (recOf fn a.tmps ps assign body w.heap.size .exhausted none)))) :
    (Code.rangeFunc g ps assign body).wpIn F n P Q a w := by
  refine wpIn_rangeFunc ?_
  intro fn hfn
  rw [hro]
  refine ⟨w.heap.size + 1, [{ target := .collected w.heap.size, args := #[] }], (w.alloc (.deferred (some []))).alloc (.loop (recOf fn a.tmps ps assign body w.heap.size .ready none)), { target := .fn (.func gf) lb, args := #[.func (.yield (w.heap.size + 1)) #[] #[]] }, (w.alloc (.deferred (some []))).alloc (.loop (recOf fn a.tmps ps assign body w.heap.size .ready none)), gf,
    #[.func (.yield (w.heap.size + 1)) #[] #[]] ++ lb, (w.alloc (.deferred (some []))).alloc (.loop (recOf fn a.tmps ps assign body w.heap.size .ready none)), ?_, ?_, ?_, ?_, fun _ => h1, ?_⟩
  · exact run_enterLoop_outer _ _ _ _ _
  · simp only [resolve, hg]
    simp [go_sem]
  · intro f' hf'
    simp [Target.leads] at hf'
    subst hf'
    exact hFg
  · simp [invoke, go_sem, eg]
  · refine (h fn hfn).mono ?_
    rintro e W ⟨⟨v, rfl⟩, hl, hq⟩
    exact ⟨none, _, run_endLoop hl (by simp [recOf]), hq⟩
/-- A round that goes on. -/
theorem yield_round {F : Fence} {m : Nat} {P : Program} {l D : Nat} {fn : FuncId} {tmps args : Array Value} {ps : Array Tmp} {assign body : Code} {W : World} {Post : World → Prop}
    (hfn : F.fn fn) (hl : W.heap[l]? = some (.loop (recOf fn tmps ps assign body D .ready none))) (hps : args.size = ps.size)
    (h : assign.wpIn (F.inRound l) m P (Exit.then (fun a₁ W₁ => W₁.heap[l]? = some (.loop (recOf fn tmps ps assign body D .ready none)) ∧
      body.wpIn (F.inRound l) m P (Exit.then (fun _ W₂ => W₂.heap[l]? = some (.loop (recOf fn tmps ps assign body D .busy none)) ∧ Post (W₂.putObj l (.loop (recOf fn tmps ps assign body D .ready none)))) (fun _ _ _ => False)) a₁ (W₁.putObj l (.loop (recOf fn tmps ps assign body D .busy none)))) (fun _ _ _ => False))
      { tmps := (ps.zip args).foldl (fun t (p, v) => t.setIfInBounds p v) tmps, defers := [] } W) :
    YieldAt F m P l args W fun e W' => e = .returned (.bool true) ∧ Post W' := by
  have hy := run_yield (P := P) (args := args) hl hps
  refine ⟨fn, _, assign, body, hy, roundIn_of_wpIn hfn (wpIn_mono h ?_)⟩
  rintro e a1 W1 hp
  cases e with
  | normal =>
    obtain ⟨hl1, hb⟩ := hp
    refine ⟨_, run_beginRound hl1 rfl, wpIn_mono hb ?_⟩
    rintro e2 a2 W2 hp2
    cases e2 with
    | normal =>
      obtain ⟨hl2, hP⟩ := hp2
      exact ⟨_, _, run_endRound none hl2, rfl, hP⟩
    | ret => exact hp2.elim
    | exit id => exact hp2.elim
    | goto t => exact hp2.elim
    | panic ch => exact hp2.elim
    | outgrown => exact hp2.elim
  | ret => exact hp.elim
  | exit id => exact hp.elim
  | goto t => exact hp.elim
  | panic ch => exact hp.elim
  | outgrown => exact hp.elim
/-- The statement, where no round leaves it, with the record as a thing of its own: rc while it waits, bc while a round is under way. -/
theorem wpIn_range_st {F : Fence} {n : Nat} {P : Program} {g : Operand} {ps : Array Tmp} {assign body : Code} {Q : Exit → Act → World → Prop} {a : Act} {w : World}
    (hro : F.round = none) (h1 : 1 ≤ n) {gf : Nat} {lb : Array Value} (hg : a.eval g = .func (.func gf) #[] lb) (hFg : F.fn gf) (eg : ∀ args w, (callFunc gf args).run P w = .ok (.enter gf args) w)
    (h : ∀ (rc bc : Loop), (∀ (W : World) (args : Array Value) (Post : World → Prop), W.heap[w.heap.size + 1]? = some (.loop rc) → args.size = ps.size →
        assign.wpIn (F.inRound (w.heap.size + 1)) (n - 1 - 1) P (Exit.then (fun a₁ W₁ => W₁.heap[w.heap.size + 1]? = some (.loop rc) ∧
          body.wpIn (F.inRound (w.heap.size + 1)) (n - 1 - 1) P (Exit.then (fun _ W₂ => W₂.heap[w.heap.size + 1]? = some (.loop bc) ∧ Post (W₂.putObj (w.heap.size + 1) (.loop rc))) (fun _ _ _ => False)) a₁ (W₁.putObj (w.heap.size + 1) (.loop bc))) (fun _ _ _ => False))
          { tmps := (ps.zip args).foldl (fun t (p, v) => t.setIfInBounds p v) a.tmps, defers := [] } W →
        YieldAt F (n - 1 - 1) P (w.heap.size + 1) args W fun e W' => e = .returned (.bool true) ∧ Post W') →
      CallsIn F (n - 1) P gf (#[.func (.yield (w.heap.size + 1)) #[] #[]] ++ lb) ((w.alloc (.deferred (some []))).alloc (.loop rc)) fun e W =>
        (∃ v, e = .returned v) ∧ W.heap[w.heap.size + 1]? = some (.loop rc) ∧ ∀ xc, Q .normal { a with defers := { target := .collected w.heap.size, args := #[] } :: a.defers } (W.putObj (w.heap.size + 1) (.loop xc))) :
    (Code.rangeFunc g ps assign body).wpIn F n P Q a w := by
  refine wpIn_range hro h1 hg hFg eg (fun fn hfn => ?_)
  refine (h (recOf fn a.tmps ps assign body w.heap.size .ready none) (recOf fn a.tmps ps assign body w.heap.size .busy none) (fun W args Post hl hps hw => yield_round hfn hl hps hw)).mono ?_
  rintro e W ⟨hv, hl, hq⟩
  exact ⟨hv, hl, hq _⟩
end Go.Proofs.YtchcejjoncihkaaGreatDoor

/- Layer 12: slices.Chunk, at bytes: the iterator over a row's parts of 128 bytes. -/
namespace Go.Proofs.YtchcejjoncihkaaGreatDoor
set_option linter.unusedVariables false
open Go.RowKit Go.Maps Go.Shelf
open Lz (g)
attribute [local go_sem] Oper.semAt_some

set_option maxRecDepth 100000 in
theorem chunk_in (n len cap : Nat) (ao : Option Addr) (w : World) : CallsIn Fence.wide n Tryz.prog 164 #[.slice ao len cap, .int .i64 128] w fun e w' => e = .returned (.func (.func 208) #[] #[.pointer (some ⟨w.heap.size, 0, none⟩), .pointer (some ⟨w.heap.size + 1, 0, none⟩)]) ∧ w' = (w.alloc (.cells #[.slice ao len cap] 25)).alloc (.cells #[.int .i64 128] 3) := by
  refine callsIn_of_wp Tryz.func164 rfl trivial ?_ rfl
  simp only [Tryz.ntmps164, List.size_toArray, List.length_cons, List.length_nil, Nat.reduceAdd, Nat.reduceSub, Array.replicate_succ, Array.replicate_zero, List.push_toArray, List.append_toArray, List.nil_append, List.cons_append]
  gi_wp2
  go_ret
  exact ⟨rfl, rfl⟩
set_option maxRecDepth 100000 in
set_option maxHeartbeats 8000000 in
theorem chunk1_in (n l B1 B2 b off len cap K : Nat) (hn : 2 ≤ n) (hl : len = 128 * K) (hc : len ≤ cap) (hcm : cap ≤ 9223372036854775807) (hK : K ≤ 1000000) (W0 : World) (J : Nat → World → Prop)
    (h1 : ∀ j W, J j W → W.cell? ⟨B1, 0, none⟩ = some (.slice (some ⟨b, off, none⟩) len cap)) (h2 : ∀ j W, J j W → W.cell? ⟨B2, 0, none⟩ = some (.int .i64 128)) (hd : ∀ j W q, J j W → J j (W.drewN q))
    (hY : ∀ j W, j < K → J j W → YieldAt Fence.wide (n - 1) Tryz.prog l #[.slice (some ⟨b, off + 128 * j, none⟩) 128 128] W fun e W' => e = .returned (.bool true) ∧ J (j + 1) W')
    (h0 : J 0 W0) :
    CallsIn Fence.wide n Tryz.prog 208 #[.func (.yield l) #[] #[], .pointer (some ⟨B1, 0, none⟩), .pointer (some ⟨B2, 0, none⟩)] W0 fun e W' => (∃ v, e = .returned v) ∧ J K W' := by
  have h1n : 1 ≤ n := by omega
  have HY := hide hY
  have H1 := hide h1
  have H2 := hide h2
  have HD := hide hd
  have HL := hide hl
  have hlb : len ≤ 128000000 := by omega
  clear hY h1 h2 hd hl
  refine callsIn_of_wp Tryz.func208 rfl trivial ?_ rfl
  simp only [Tryz.ntmps208, List.size_toArray, List.length_cons, List.length_nil, Nat.reduceAdd, Nat.reduceSub, Array.replicate_succ, Array.replicate_zero, List.push_toArray, List.append_toArray, List.nil_append, List.cons_append]
  gi_wp2
  gi_loopw [4] (fun s4 wr => ∃ (j i : Nat), s4 = .int .i64 i ∧ Hid (i = 128 * j) ∧ j ≤ K ∧ J j wr) (fun s4 _ => len - (intOf s4).toNat)
  case atStart => exact ⟨0, 0, rfl, rfl, Nat.zero_le _, h0⟩
  case round =>
    clear h0
    obtain ⟨j, i, rfl, HI, hj, hJ⟩ := hrel
    have c1 := H1.out _ _ hJ
    have c2 := H2.out _ _ hJ
    have HJ := hide hJ
    clear hJ
    by_cases hp : j < K
    · have hd : (i : Int) < (len : Int) := by have := HI.out; have := HL.out; omega
      have h3 : (i : Int) ≤ (cap : Int) := by omega
      have h4 : (128 : Int) ≤ (len : Int) - (i : Int) := by have := HI.out; have := HL.out; omega
      have h5 : (i : Int) + 128 ≤ (cap : Int) := by have := HI.out; have := HL.out; omega
      gi_wp2
      gi_big_quiet_th (fail)
      have HJq := hide (HD.out j wr nq HJ.out)
      have c1q := H1.out _ _ HJq.out
      have c2q := H2.out _ _ HJq.out
      obtain ⟨fn, tmps, assign, body, hy, hR⟩ := HY.out j (wr.drewN nq) hp HJq.out
      rw [← HI.out] at hy
      clear c1 c2 HJ HJq
      gi_wp2
      refine hR.mono ?_
      rintro e W3 ⟨rfl, hJ3⟩
      have c2r := H2.out _ _ hJ3
      have HJ3 := hide hJ3
      clear hJ3 hR hy
      gi_wp2
      go_roundw
      case rel => exact ⟨j + 1, i + 128, by go_num, (by have := HI.out; show _ = _; omega), by omega, HJ3.out⟩
      case measure => simp [intOf]; omega
    · obtain rfl : j = K := by omega
      have hd : ¬ (i : Int) < (len : Int) := by have := HI.out; have := HL.out; omega
      gi_wp2
      go_end0
      exact ⟨⟨_, rfl⟩, HJ.out⟩
end Go.Proofs.YtchcejjoncihkaaGreatDoor

/- Layer 12: a block of 128 bytes as an array's cells. -/
namespace Go.Proofs.YtchcejjoncihkaaGreatDoor
set_option linter.unusedVariables false
open Go.RowKit Go.Maps
open Lz (g)
open Frm Mtr Dat

/-- Bytes as a block's cells. -/
def blc (zs : List Int) : Array Value := (bv zs).toArray
theorem info128 : (Tryz.prog.info? 225).map (·.size) = some 128 := by kernel_rfl
theorem zeros_blc : Array.replicate 128 (Value.int .u8 0) = blc (List.replicate 128 0) := by unfold blc bv; rw [List.map_replicate, List.toArray_replicate]
end Go.Proofs.YtchcejjoncihkaaGreatDoor

/- Layer 12: a file's frames, by the program: framesOf. -/
namespace Go.Proofs.YtchcejjoncihkaaGreatDoor
set_option linter.unusedVariables false
open Go.RowKit Go.Maps Go.Shelf
open Lz (g)
open Crc (ent more)
open Frm Mtr Dat
attribute [local go_sem] Oper.semAt_some

namespace Dat
/-- Numbers as bytes. -/
def u8 (zs : List Int) : List UInt8 := zs.map fun n => UInt8.ofNat n.toNat
theorem u8_length (zs : List Int) : (u8 zs).length = zs.length := by simp [u8]
theorem bv_u8 : ∀ {zs : List Int}, Bytes zs → bv zs = (u8 zs).map Extern.Stop.cell
  | [], _ => rfl
  | z :: zs, h => by
    have h0 := h z (by simp)
    have ih := bv_u8 (zs := zs) (fun x hx => h x (by simp [hx]))
    simp only [bv, u8, List.map_cons, List.cons.injEq] at ih ⊢
    refine ⟨?_, ih⟩
    show Value.int .u8 z = .int .u8 (((UInt8.ofNat z.toNat).toNat : Nat) : Int)
    rw [UInt8.toNat_ofNat_of_lt' (by show z.toNat < 256; omega), Int.toNat_of_nonneg h0.1]
theorem u8_inj {xs ys : List Int} (hx : Bytes xs) (hy : Bytes ys) (h : u8 xs = u8 ys) : xs = ys := by
  refine str_inj hx hy ?_
  unfold u8 at h
  simp only [strOfNums]
  rw [h]
theorem hol_iff {b : List Int} (h : b.length = 128) : hol b = true ↔ b = List.replicate 128 0 := by
  refine ⟨fun hh => by have := hol_all hh; rw [h] at this; exact this, fun hh => by rw [hh]; decide⟩
end Dat
set_option maxRecDepth 100000 in
theorem equalIn_blks (w : World) {F Z : List Int} (hF : F.length = 128) (hb : Bytes F) (hZ : Z.length = 128) (hz : Bytes Z) : (Op.equalIn 10000 225 (.agg (blc F)) (.agg (blc Z))).run Tryz.prog w = .ok (decide (F = Z)) w := by
  have := run_equalIn_bytes (P := Tryz.prog) w 9998 225 5 128 Tryz.underlying225 Tryz.underlying5 (fun w => by simp [Tryz.sizeOf5]) (Dat.u8 F) (Dat.u8 Z) (by rw [Dat.u8_length, hF]) (by rw [Dat.u8_length, hZ])
  rw [← Dat.bv_u8 hb, ← Dat.bv_u8 hz] at this
  unfold blc
  rw [this]
  congr 1
  rw [Bool.eq_iff_iff, beq_iff_eq, decide_eq_true_eq]
  exact ⟨Dat.u8_inj hb hz, fun h => by rw [h]⟩
theorem equalIn_blk (w : World) {F : List Int} (hF : F.length = 128) (hb : Bytes F) : (Op.equalIn 10000 225 (.agg (blc F)) (.agg (Array.replicate 128 (.int .u8 0)))).run Tryz.prog w = .ok (hol F) w := by
  have e : decide (F = List.replicate 128 0) = hol F := by rw [Bool.eq_iff_iff, decide_eq_true_eq, Dat.hol_iff hF]
  rw [zeros_blc, ← e]
  exact equalIn_blks w hF hb (by simp) (fun y hy => by simp at hy; omega)
theorem arrayAt_blk (W : World) (a : Option Addr) (cap : Nat) : (Instr.arrayAt 225 (.slice a 128 cap)).run Tryz.prog W = .ok (.pointer a) W := by
  simp [Instr.arrayAt, run_underlying Tryz.underlying225]
/-- A block loaded out of a row's midst, within a round. -/
theorem wpListIn_load_blk {F : Fence} {nF : Nat} {w : World} {ops : Array Oper} {rest : List Oper} {o : Oper} {a : Act} {Q : Exit → Act → World → Prop} (hgd : o.guard = none) (x : Operand) (ho : o.op = .load 225 x)
    (b off : Nat) (X : Array Value) (hx : a.eval x = .pointer (some ⟨b, off, none⟩)) (hr : (Instr.loadAt 225 (.pointer (some ⟨b, off, none⟩))).run Tryz.prog w = .ok (.agg X) w)
    (h : wpListIn F nF Tryz.prog ops Q rest (a.put o.dst (.agg X)) w) : wpListIn F nF Tryz.prog ops Q (o :: rest) a w := by
  refine wpListIn_plain hgd fun K hK' => ?_
  unfold Oper.wpIn
  refine ⟨?_, ?_⟩
  · simp [Oper.about, ho]
  · rw [Oper.semAt_plain F _ _ (by rw [ho]; intro c hc'; cases hc')]
    unfold execOp
    simp only [ho, hx, Sem.run_bind, Sem.run_pure, Result.andThen_ok, hr]
    exact hK' _ _ h
/-- 'append' to a row of the call's own, within a round. -/
theorem wpListIn_append_rw {F : Fence} {nF : Nat} (w : World) {ops : Array Oper} {rest : List Oper} {o : Oper} {a : Act} {Q : Exit → Act → World → Prop} (hgd : o.guard = none) (s x : Operand)
    (ho : o.op = .call { callee := .builtin .append, args := #[s, x], argTypes := #[25, 25] })
    (B : Nat) (vo : Option Addr) (n vc : Nat) (xs : List Int) (hs : a.eval s = .slice vo n vc) (hR : Rw w B vo n vc xs)
    (ao : Option Addr) (m c : Nat) (zs : List Int) (hx : a.eval x = .slice ao m c) (hb : Bs w ao m zs) (hnil : ao = none → c = 0)
    (hbd : n + m ≤ 100000000) (hB : B ≤ w.heap.size)
    (h : ∀ ao' c' w', Rw w' B ao' (n + m) c' (xs ++ zs) → w.grownBy w' (Value.slice vo n vc).ownBlock → Lie w (.slice vo n vc) (.slice ao' (n + m) c') → wpListIn F nF Tryz.prog ops Q rest (a.put o.dst (.slice ao' (n + m) c')) w') :
    wpListIn F nF Tryz.prog ops Q (o :: rest) a w := by
  refine wpListIn_plain hgd fun K hK' => ?_
  obtain ⟨ao', c', w', hrun, r1, r2, r3⟩ := run_append_rw w o.type hR hB hb hnil hbd
  unfold Oper.wpIn
  refine ⟨?_, ?_⟩
  · simp [Oper.about, ho, resolve, Target.leads, Sem.run_pure]
  · rw [Oper.semAt_plain F _ _ (by rw [ho]; intro c hc'; cases hc')]
    simp [execOp, ho, resolve, invoke, builtin, hs, hx, hrun, Result.andThen]
    exact hK' _ _ (h ao' c' w' r1 r2 r3)
theorem Dat.fr_put (W : World) (k : Nat) (o : Obj) : Fr (One k) W (W.putObj k o) := ⟨rfl, rfl, rfl, by simp, fun i _ hn => World.putObj_heap_other (fun e => hn e)⟩
/-- What the loop holds: the frames so far, in the variable at Bl; the boxes at Bw, B1, B2; the record at l, the block for deferred calls at D. -/
structure FJ (w : World) (p Bl Bw B1 B2 D l : Nat) (sl : Value) (rc : Loop) (F : List Int) (W : World) : Prop where
  ex : ∃ fo fn fc, W.heap[Bl]? = some (.cells #[.slice fo fn fc] 25 (0, 0)) ∧ Rw W w.heap.size fo fn fc F
  bx : W.heap[Bw]? = some (.cells #[.pointer (some ⟨p, 0, none⟩)] 105 (0, 0))
  k1 : W.heap[B1]? = some (.cells #[sl] 25 (0, 0))
  k2 : W.heap[B2]? = some (.cells #[.int .i64 128] 3 (0, 0))
  rl : W.heap[l]? = some (.loop rc)
  rd : W.heap[D]? = some (.deferred (some []))
  bel : Below w.heap.size w W
section
variable {w W : World} {p Bl Bw B1 B2 D l : Nat} {sl : Value} {rc bc : Loop} {F : List Int}
theorem FJ.below {W' : World} (h : FJ w p Bl Bw B1 B2 D l sl rc F W) (hb : Below W.heap.size W W') : FJ w p Bl Bw B1 B2 D l sl rc F W' := by
  obtain ⟨fo, fn, fc, e1, e2⟩ := h.ex
  have hf : Fr (fun _ => False) W W' := Fr.of_below hb
  exact ⟨⟨fo, fn, fc, (hb.block _ (heap_lt e1)).trans e1, e2.fr hf (fun _ _ => id)⟩, (hb.block _ (heap_lt h.bx)).trans h.bx, (hb.block _ (heap_lt h.k1)).trans h.k1, (hb.block _ (heap_lt h.k2)).trans h.k2, (hb.block _ (heap_lt h.rl)).trans h.rl, (hb.block _ (heap_lt h.rd)).trans h.rd, h.bel.trans (hb.mono h.bel.size)⟩
theorem FJ.drewN (h : FJ w p Bl Bw B1 B2 D l sl rc F W) (q : Nat) : FJ w p Bl Bw B1 B2 D l sl rc F (W.drewN q) := h.below (below_drewN (Below.refl _ _) q)
theorem ne_loop {W : World} {k l : Nat} {o : Obj} {rc : Loop} (h : W.heap[k]? = some o) (hl : W.heap[l]? = some (.loop rc)) (ho : ∀ r, o ≠ .loop r) : k ≠ l := fun e => by
  subst e
  rw [hl] at h
  exact ho rc (Option.some.inj h).symm
theorem FJ.put (h : FJ w p Bl Bw B1 B2 D l sl rc F W) (hl : w.heap.size ≤ l) (bc : Loop) : FJ w p Bl Bw B1 B2 D l sl bc F (W.putObj l (.loop bc)) := by
  obtain ⟨fo, fn, fc, e1, e2⟩ := h.ex
  have hf := Dat.fr_put W l (.loop bc)
  have hc : ∀ {k : Nat} {cs : Array Value} {t : TypeId} {fz : Nat × Nat}, W.heap[k]? = some (.cells cs t fz) → (W.putObj l (.loop bc)).heap[k]? = some (.cells cs t fz) := fun hk => (hf.block _ (heap_lt hk) (ne_loop hk h.rl (fun r e => by cases e))).trans hk
  refine ⟨⟨fo, fn, fc, hc e1, e2.fr hf (fun k hk => ?_)⟩, hc h.bx, hc h.k1, hc h.k2, World.putObj_heap_same (heap_lt h.rl), (hf.block _ (heap_lt h.rd) (ne_loop h.rd h.rl (fun r e => by cases e))).trans h.rd, h.bel.trans (hf.below _ h.bel.size (fun k hk => by have : k = l := hk; omega))⟩
  obtain ⟨_, _, cur, hcur⟩ := e2.own hk
  exact ne_loop hcur h.rl (fun r e => by cases e)
/-- One frame more. -/
theorem FJ.add {w2 : World} {fo fo' : Option Addr} {fn fc m fc' : Nat} {P : List Int} (h : FJ w p Bl Bw B1 B2 D l sl rc F W) (e1 : W.heap[Bl]? = some (.cells #[.slice fo fn fc] 25 (0, 0))) (e2 : Rw W w.heap.size fo fn fc F) (h1 : Bl ≠ B1) (h2 : w.heap.size ≤ Bl)
    (hA : Rw w2 w.heap.size fo' (fn + m) fc' (F ++ P)) (hg : W.grownBy w2 (Value.slice fo fn fc).ownBlock) (hl : Lie W (.slice fo fn fc) (.slice fo' (fn + m) fc')) :
    w2.heap[Bl]? = some (.cells #[.slice fo fn fc] 25 (0, 0)) ∧ FJ w p Bl Bw B1 B2 D l sl rc (F ++ P) (w2.setCell ⟨Bl, 0, none⟩ (.slice fo' (fn + m) fc')) := by
  have f2 : Fr (fun k => (Value.slice fo fn fc).ownBlock = some k) W w2 := Fr.of_grown hg (fun k hk => hk)
  have fs : Fr (One Bl) w2 (w2.setCell ⟨Bl, 0, none⟩ (.slice fo' (fn + m) fc')) := (Fr.refl (One Bl) _).set (p := ⟨Bl, 0, none⟩) _ (fun _ => rfl)
  have hc : ∀ {k : Nat} {cs : Array Value} {t : TypeId}, W.heap[k]? = some (.cells cs t (0, 0)) → t ≠ 5 → w2.heap[k]? = some (.cells cs t (0, 0)) := fun hk ht => (f2.block _ (heap_lt hk) (fun ho => by
    obtain ⟨_, _, cur, hcur⟩ := e2.own ho
    exact ne_obj hk hcur ht rfl)).trans hk
  have hB := hc e1 (by decide)
  have hc2 : ∀ {k : Nat} {cs : Array Value} {t : TypeId}, W.heap[k]? = some (.cells cs t (0, 0)) → t ≠ 5 → k ≠ Bl → (w2.setCell ⟨Bl, 0, none⟩ (.slice fo' (fn + m) fc')).heap[k]? = some (.cells cs t (0, 0)) := fun hk ht hn => (fs.block _ (heap_lt (hc hk ht)) hn).trans (hc hk ht)
  have hL : w2.heap[l]? = some (.loop rc) := (f2.block _ (heap_lt h.rl) (fun ho => by
    obtain ⟨_, _, cur, hcur⟩ := e2.own ho
    exact ne_loop hcur h.rl (fun r e => by cases e) rfl)).trans h.rl
  have hD : w2.heap[D]? = some (.deferred (some [])) := (f2.block _ (heap_lt h.rd) (fun ho => by
    obtain ⟨_, _, cur, hcur⟩ := e2.own ho
    have := h.rd
    rw [hcur] at this
    cases this)).trans h.rd
  refine ⟨hB, ⟨⟨fo', fn + m, fc', ?_, hA.fr fs (fun k hk hx => ?_)⟩, hc2 h.bx (by decide) ?_, hc2 h.k1 (by decide) (fun e => h1 e.symm), hc2 h.k2 (by decide) ?_, (fs.block _ (heap_lt hL) (fun e => ?_)).trans hL, (fs.block _ (heap_lt hD) (fun e => ?_)).trans hD, ?_⟩⟩
  · rw [heap_setCell_self hB]; rfl
  · obtain ⟨_, _, cur, hcur⟩ := hA.own hk
    exact ne_obj hcur hB (by decide) hx
  · exact ne_obj h.bx e1 (by decide)
  · exact ne_obj h.k2 e1 (by decide)
  · exact ne_loop hB hL (fun r e => by cases e) (Eq.symm e)
  · have e : D = Bl := e
    rw [e, hB] at hD; cases hD
  · refine (h.bel.trans (f2.below _ h.bel.size (fun k hk => (e2.own hk).1))).trans (fs.below _ (Nat.le_trans h.bel.size hg.size) (fun k hk => ?_))
    have : k = Bl := hk
    omega
end
set_option maxRecDepth 100000 in
set_option maxHeartbeats 16000000 in
theorem framesOf_any (p tb n c K b off : Nat) (T : Nat → Nat) (z : List Int) (w : World) (c0 : w.cell? ⟨p, 0, none⟩ = some (.pointer (some ⟨tb, 0, none⟩))) (hpl : p < w.heap.size) (hT : Tb w tb T) (htb : tb < w.heap.size) (hS : Small T) (hB : Bs w (some ⟨b, off, none⟩) n z) (hn : n = 128 * K) (hK1 : 1 ≤ K) (hK : K ≤ 1000) (hc : n ≤ c) (hcm : c ≤ 9223372036854775807) :
    Calls Tryz.prog 110 #[.pointer (some ⟨p, 0, none⟩), .slice (some ⟨b, off, none⟩) n c] w fun r w' => ∃ ao' c', r = .returned (.slice ao' (frs T z K).length c') ∧ Rw w' w.heap.size ao' (frs T z K).length c' (frs T z K) ∧ Below w.heap.size w w' := by
  have hfx : Fence.wide.fn 164 := trivial
  have hfp : Fence.wide.fn 113 := trivial
  obtain ⟨b', o', hbo, hbl, hseg⟩ : ∃ b' o', some (⟨b, off, none⟩ : Addr) = some ⟨b', o', none⟩ ∧ b' < w.heap.size ∧ Seg w b' o' z := by
    rcases hB.2.2 with h | h
    · omega
    · exact h
  obtain ⟨rfl, rfl⟩ : b = b' ∧ off = o' := by simpa using hbo
  have hz := hB.1
  have hzb := hB.bytes
  have HT := hide hT
  have HSeg := hide hseg
  have HZB := hide hzb
  have HZ := hide hz
  have HN := hide hn
  have HC0 := hide c0
  clear hbo hT hB hseg hzb c0 hz hn
  refine (callsIn_wide (n := 12)).1 ?_
  refine callsIn_of_wp_marks Tryz.func110 rfl trivial ?_ rfl
  simp only [Tryz.ntmps110, List.size_toArray, List.length_cons, List.length_nil, Nat.reduceAdd, Nat.reduceSub, Array.replicate_succ, Array.replicate_zero, List.push_toArray, List.append_toArray, List.nil_append, List.cons_append]
  gi_wp2_with (gi_at_call 164; refine (chunk_in _ _ _ _ _).mono ?_; rintro e w' ⟨rfl, rfl⟩)
  obtain ⟨W4, hW4⟩ : ∃ W4, W4 = (((w.alloc (.cells #[.pointer (some ⟨p, 0, none⟩)] 105)).alloc (.cells #[.slice none 0 0] 25)).alloc (.cells #[.slice (some ⟨b, off, none⟩) n c] 25)).alloc (.cells #[.int .i64 128] 3) := ⟨_, rfl⟩
  have hs4 : W4.heap.size = w.heap.size + 1 + 1 + 1 + 1 := by rw [hW4]; simp
  have b4 : Below w.heap.size w W4 := by rw [hW4]; exact (((below_one _ _).alloc (by simp) _).alloc (by simp; omega) _).alloc (by simp; omega) _
  have k0 : W4.heap[w.heap.size]? = some (.cells #[.pointer (some ⟨p, 0, none⟩)] 105 (0, 0)) := by
    rw [hW4]
    exact (((Go.Boxed.new w 105 (.pointer (some ⟨p, 0, none⟩))).alloc _).alloc _).alloc _
  have k1 : W4.heap[w.heap.size + 1]? = some (.cells #[.slice none 0 0] 25 (0, 0)) := by
    rw [hW4]
    have := ((Go.Boxed.new (w.alloc (.cells #[.pointer (some ⟨p, 0, none⟩)] 105)) 25 (.slice none 0 0)).alloc (.cells #[.slice (some ⟨b, off, none⟩) n c] 25)).alloc (.cells #[.int .i64 128] 3)
    rw [World.size_alloc] at this
    exact this
  have k2 : W4.heap[w.heap.size + 1 + 1]? = some (.cells #[.slice (some ⟨b, off, none⟩) n c] 25 (0, 0)) := by
    rw [hW4]
    have := (Go.Boxed.new ((w.alloc (.cells #[.pointer (some ⟨p, 0, none⟩)] 105)).alloc (.cells #[.slice none 0 0] 25)) 25 (.slice (some ⟨b, off, none⟩) n c)).alloc (.cells #[.int .i64 128] 3)
    rw [World.size_alloc, World.size_alloc] at this
    exact this
  have k3 : W4.heap[w.heap.size + 1 + 1 + 1]? = some (.cells #[.int .i64 128] 3 (0, 0)) := by
    rw [hW4]
    have := Go.Boxed.new (((w.alloc (.cells #[.pointer (some ⟨p, 0, none⟩)] 105)).alloc (.cells #[.slice none 0 0] 25)).alloc (.cells #[.slice (some ⟨b, off, none⟩) n c] 25)) 3 (.int .i64 128)
    rw [World.size_alloc, World.size_alloc, World.size_alloc] at this
    exact this
  rw [← hW4]
  have HS4 := hide hs4
  clear hW4 hs4
  refine wpIn_range_st rfl (by omega) (gf := 208) (lb := #[.pointer (some ⟨w.heap.size + 1 + 1, 0, none⟩), .pointer (some ⟨w.heap.size + 1 + 1 + 1, 0, none⟩)]) rfl trivial (enters_of Tryz.func208 (by kernel_rfl) rfl) ?_
  intro rc bc hround
  obtain ⟨W6, hW6⟩ : ∃ W6, W6 = (W4.alloc (.deferred (some []))).alloc (.loop rc) := ⟨_, rfl⟩
  have b6 : Below W4.heap.size W4 W6 := by rw [hW6]; exact (below_one _ _).alloc (by simp) _
  have kD : W6.heap[W4.heap.size]? = some (.deferred (some [])) := by rw [hW6]; exact (Below.heap_alloc _ _ _ (by simp)).trans (World.alloc_heap_new W4 _)
  have kl : W6.heap[W4.heap.size + 1]? = some (.loop rc) := by rw [hW6]; have := World.alloc_heap_new (W4.alloc (.deferred (some []))) (.loop rc); rwa [World.size_alloc] at this
  rw [← hW6]
  have hF0 : FJ w p (w.heap.size + 1) w.heap.size (w.heap.size + 1 + 1) (w.heap.size + 1 + 1 + 1) W4.heap.size (W4.heap.size + 1) (.slice (some ⟨b, off, none⟩) n c) rc (frs T z 0) W6 :=
    ⟨⟨none, 0, 0, (b6.block _ (heap_lt k1)).trans k1, Rw.none _ _⟩, (b6.block _ (heap_lt k0)).trans k0, (b6.block _ (heap_lt k2)).trans k2, (b6.block _ (heap_lt k3)).trans k3, kl, kD, b4.trans (b6.mono b4.size)⟩
  have hwl : w.heap.size ≤ W4.heap.size + 1 := Nat.le_trans b4.size (Nat.le_succ _)
  refine (chunk1_in 11 (W4.heap.size + 1) (w.heap.size + 1 + 1) (w.heap.size + 1 + 1 + 1) b off n c K (by omega) HN.out hc hcm (by omega) W6 (fun j W => FJ w p (w.heap.size + 1) w.heap.size (w.heap.size + 1 + 1) (w.heap.size + 1 + 1 + 1) W4.heap.size (W4.heap.size + 1) (.slice (some ⟨b, off, none⟩) n c) rc (frs T z j) W)
    (fun j W h => by have := h.k1; simp [World.cell?, this]) (fun j W h => by have := h.k2; simp [World.cell?, this]) (fun j W q h => h.drewN q) ?_ hF0).mono ?_
  · intro j W hj hJ
    refine (hround W #[.slice (some ⟨b, off + 128 * j, none⟩) 128 128] (fun W' => Hid (FJ w p (w.heap.size + 1) w.heap.size (w.heap.size + 1 + 1) (w.heap.size + 1 + 1 + 1) W4.heap.size (W4.heap.size + 1) (.slice (some ⟨b, off, none⟩) n c) rc (frs T z (j + 1)) W')) hJ.rl rfl ?_).mono (fun e W' hh => ⟨hh.1, hh.2.out⟩)
    clear hround
    have hrl := hJ.rl
    have HRl := hide hrl
    have hJ2 := hJ.put hwl bc
    obtain ⟨Wb, hWb⟩ : ∃ Wb, Wb = W.putObj (W4.heap.size + 1) (.loop bc) := ⟨_, rfl⟩
    have HWb := hide hWb
    rw [← hWb] at hJ2
    clear hrl hWb hJ
    have bb := hJ2.bel
    -- the block, its cells, and what is framed of it
    have hbl8 : (blk z j).length = 128 := blk_full (by have := HZ.out; have := HN.out; omega)
    have hbby := blk_bytes HZB.out j
    have hsg : Seg Wb b (off + 128 * j) (blk z j) := by
      have hsg := (HSeg.out.below bb hbl).cut (128 * j) (128 * j + 128)
      rw [List.drop_take, show 128 * j + 128 - 128 * j = 128 by omega] at hsg
      exact hsg
    have hbs : Bs Wb (some ⟨b, off + 128 * j, none⟩) 128 (blk z j) := ⟨hbl8, hbby.g, .inr ⟨b, off + 128 * j, rfl, Nat.lt_of_lt_of_le hbl bb.size, hsg⟩⟩
    obtain ⟨X, hX⟩ : ∃ X, X = blc (blk z j) := ⟨_, rfl⟩
    have hld : (Instr.loadAt 225 (.pointer (some ⟨b, off + 128 * j, none⟩))).run Tryz.prog Wb = .ok (.agg X) Wb := by
      have hra : Wb.rangeAt b (off + 128 * j) (bv (blk z j)) := fun i v hv => by
        have := news_seg hsg 128
        rw [List.take_of_length_le (by omega)] at this
        have := this i v hv
        rw [Addr.add_lit] at this
        exact this
      have := run_loadAt_mid (P := Tryz.prog) Wb b (off + 128 * j) 225 (bv (blk z j)) _ hra Tryz.underlying225 rfl (by rw [bv_length, hbl8]; exact info128)
      rw [hX]; exact this
    have har := arrayAt_blk
    have hzc : Tryz.zeroCells225 = Array.replicate 128 (.int .u8 0) := by kernel_rfl
    have heq : ∀ W', (Op.equalIn 10000 225 (.agg X) (.agg Tryz.zeroCells225)).run Tryz.prog W' = .ok (hol (blk z j)) W' := fun W' => by rw [hX, hzc]; exact equalIn_blk W' hbl8 hbby
    clear hX hzc
    obtain ⟨hh, hhe⟩ : ∃ hh, hol (blk z j) = hh := ⟨_, rfl⟩
    rw [hhe] at heq
    have HHe := hide hhe
    clear hhe
    have c0b : Wb.cell? ⟨p, 0, none⟩ = some (.pointer (some ⟨tb, 0, none⟩)) := (bb.cell (p := ⟨p, 0, none⟩) hpl).trans HC0.out
    have cwb : Wb.cell? ⟨w.heap.size, 0, none⟩ = some (.pointer (some ⟨p, 0, none⟩)) := by have := hJ2.bx; simp [World.cell?, this]
    gi_wp2
    rw [← HWb.out]
    refine ⟨HRl.out, ?_⟩
    have HJ2 := hide hJ2
    have hTb := HT.out.below bb htb
    have htb2 := Nat.lt_of_lt_of_le htb bb.size
    clear hJ2 k0 k1 k2 k3 b6 kD kl hF0 hW6
    cases hh with
    | true =>
      have HE : Hid (([] : List Int) = eb (blk z j)) := by show _ = _; unfold eb; rw [if_pos HHe.out]
      have HP := hide (Put_any tb 0 0 T none [] Wb hTb htb2 hS ⟨rfl, fun i => by simp [g], .inl rfl⟩ (by omega) (fun _ => rfl) (by omega))
      gi_wp2_with (first | refine wpListIn_load_blk rfl _ rfl b (off + 128 * j) X rfl hld ?_ | fail)
      refine (CallsIn.inRound _ (callsIn_wide.2 HP.out)).mono ?_
      rintro e w1 (⟨h1, _⟩ | ⟨_, ao1, c1, rfl, hN⟩)
      · rw [HE.out] at h1; have := eb_le (b := blk z j) (by omega); omega
      rw [HE.out] at hN ⊢
      have hN' : New Wb w1 ao1 (bf T (blk z j)).length c1 (bf T (blk z j)) := hN
      have hJ3 := HJ2.out.below hN'.bel
      obtain ⟨fo, fn, fc, e1, e2⟩ := hJ3.ex
      have hfl := (frs_length T z j).2
      have hbf := (bf_length T (b := blk z j) (by omega)).2
      have hfn := e2.1
      have HFr := hide (frs_succ T z j)
      have HN1 := hide hN'
      have cB : w1.cell? ⟨w.heap.size + 1, 0, none⟩ = some (.slice fo fn fc) := by simp [World.cell?, e1]
      have HA := hide (fun (w2 : World) (fo' : Option Addr) (fc' : Nat) (hA : Rw w2 w.heap.size fo' (fn + (bf T (blk z j)).length) fc' (frs T z j ++ bf T (blk z j))) hg hl => hJ3.add (w2 := w2) e1 e2 (by omega) (by omega) hA hg hl)
      have hsz3 := hJ3.bel.size
      have HE2 := hide e2
      clear hN hN' hJ3 e1 e2 HJ2 c0b cwb hld har heq HP
      obtain ⟨pl, hpl2⟩ : ∃ pl, (bf T (blk z j)).length = pl := ⟨_, rfl⟩
      rw [show (put T (eb (blk z j))).length = pl from hpl2]
      rw [hpl2] at HN1 HA hbf
      have hfb : fn ≤ 200000 := by omega
      clear hfl hfn hpl2
      gi_wp2_with (gi_at_builtin; refine wpListIn_append_rw _ rfl (.tmp 26) (.tmp 27) rfl w.heap.size fo fn fc (frs T z j) rfl HE2.out ao1 pl c1 (bf T (blk z j)) rfl HN1.out.bs HN1.out.nil (by omega) hsz3 ?_; intro ao3 k3 w3 hA hg hl; obtain ⟨t1, t2⟩ := HA.out w3 ao3 k3 hA hg hl; have d0 : w3.cell? ⟨w.heap.size + 1, 0, none⟩ = some (.slice fo fn fc) := (by simp [World.cell?, t1]); have d1 : w3.frozen? ⟨w.heap.size + 1, 0, none⟩ = false := (by simp [World.frozen?, t1]); have HT2 := hide t2; clear t1 t2 hA hg hl)
      exact ⟨HT2.out.rl, by show FJ _ _ _ _ _ _ _ _ _ _ _ _; rw [HFr.out]; exact HT2.out.put hwl rc⟩
    | false =>
      have hE : blk z j = eb (blk z j) := by unfold eb; rw [if_neg (by rw [HHe.out]; simp)]
      have HP := hide (Put_any tb 128 128 T (some ⟨b, off + 128 * j, none⟩) (blk z j) Wb hTb htb2 hS hbs (by omega) (fun h => by simp at h) (by omega))
      obtain ⟨Y, hY⟩ : ∃ Y, Y = blk z j := ⟨_, rfl⟩
      have HE : Hid (Y = eb (blk z j)) := hY.trans hE
      rw [← hY] at HP
      clear hY hE
      gi_wp2_with (first | refine wpListIn_load_blk rfl _ rfl b (off + 128 * j) X rfl hld ?_ | fail)
      refine (CallsIn.inRound _ (callsIn_wide.2 HP.out)).mono ?_
      rintro e w1 (⟨h1, _⟩ | ⟨_, ao1, c1, rfl, hN⟩)
      · rw [HE.out] at h1; have := eb_le (b := blk z j) (by omega); omega
      rw [HE.out] at hN ⊢
      have hN' : New Wb w1 ao1 (bf T (blk z j)).length c1 (bf T (blk z j)) := hN
      have hJ3 := HJ2.out.below hN'.bel
      obtain ⟨fo, fn, fc, e1, e2⟩ := hJ3.ex
      have hfl := (frs_length T z j).2
      have hbf := (bf_length T (b := blk z j) (by omega)).2
      have hfn := e2.1
      have HFr := hide (frs_succ T z j)
      have HN1 := hide hN'
      have cB : w1.cell? ⟨w.heap.size + 1, 0, none⟩ = some (.slice fo fn fc) := by simp [World.cell?, e1]
      have HA := hide (fun (w2 : World) (fo' : Option Addr) (fc' : Nat) (hA : Rw w2 w.heap.size fo' (fn + (bf T (blk z j)).length) fc' (frs T z j ++ bf T (blk z j))) hg hl => hJ3.add (w2 := w2) e1 e2 (by omega) (by omega) hA hg hl)
      have hsz3 := hJ3.bel.size
      have HE2 := hide e2
      clear hN hN' hJ3 e1 e2 HJ2 c0b cwb hld har heq HP
      obtain ⟨pl, hpl2⟩ : ∃ pl, (bf T (blk z j)).length = pl := ⟨_, rfl⟩
      rw [show (put T (eb (blk z j))).length = pl from hpl2]
      rw [hpl2] at HN1 HA hbf
      have hfb : fn ≤ 200000 := by omega
      clear hfl hfn hpl2
      gi_wp2_with (gi_at_builtin; refine wpListIn_append_rw _ rfl (.tmp 26) (.tmp 27) rfl w.heap.size fo fn fc (frs T z j) rfl HE2.out ao1 pl c1 (bf T (blk z j)) rfl HN1.out.bs HN1.out.nil (by omega) hsz3 ?_; intro ao3 k3 w3 hA hg hl; obtain ⟨t1, t2⟩ := HA.out w3 ao3 k3 hA hg hl; have d0 : w3.cell? ⟨w.heap.size + 1, 0, none⟩ = some (.slice fo fn fc) := (by simp [World.cell?, t1]); have d1 : w3.frozen? ⟨w.heap.size + 1, 0, none⟩ = false := (by simp [World.frozen?, t1]); have HT2 := hide t2; clear t1 t2 hA hg hl)
      exact ⟨HT2.out.rl, by show FJ _ _ _ _ _ _ _ _ _ _ _ _; rw [HFr.out]; exact HT2.out.put hwl rc⟩
  · clear hround kD kl k0 k1 k2 k3 b6 hW6 hF0
    rintro e W ⟨hv, hJ⟩
    refine ⟨hv, hJ.rl, fun xc => ?_⟩
    have hJ7 := hJ.put hwl xc
    obtain ⟨W7, hW7⟩ : ∃ W7, W7 = W.putObj (W4.heap.size + 1) (.loop xc) := ⟨_, rfl⟩
    rw [← hW7] at hJ7 ⊢
    obtain ⟨fo, fn, fc, e1, e2⟩ := hJ7.ex
    have cB : W7.cell? ⟨w.heap.size + 1, 0, none⟩ = some (.slice fo fn fc) := by simp [World.cell?, e1]
    have hfn := e2.1
    have hrd := hJ7.rd
    have hf := Dat.fr_put W7 W4.heap.size (.deferred none)
    have hwD : w.heap.size ≤ W4.heap.size := b4.size
    have HX : Hid (Rw (W7.putObj W4.heap.size (.deferred none)) w.heap.size fo fn fc (frs T z K) ∧ Below w.heap.size w (W7.putObj W4.heap.size (.deferred none))) := by
      refine ⟨e2.fr hf (fun k hk hx => ?_), hJ7.bel.trans (hf.below _ hJ7.bel.size (fun k hk => by have : k = W4.heap.size := hk; omega))⟩
      obtain ⟨_, _, cur, hcur⟩ := e2.own hk
      have hx : k = W4.heap.size := hx
      rw [hx, hrd] at hcur
      cases hcur
    have HRd := hide hrd
    have HFn := hide hfn
    clear hJ hJ7 hW7 e1 e2 hrd hf hfn
    gi_wp2
    refine ⟨by simp, .inl ⟨_, _, rfl, run_takeDeferred HRd.out, ?_⟩⟩
    refine ⟨_, results_tmp rfl _ _ _, ?_⟩
    refine ⟨fo, fc, by rw [HFn.out]; rfl, ?_⟩
    rw [HFn.out]
    exact HX.out
end Go.Proofs.YtchcejjoncihkaaGreatDoor

/- Layer 12: frames that are passed, by the program: wholeOf, maySize, pass, Walk. -/
namespace Go.Proofs.YtchcejjoncihkaaGreatDoor
set_option linter.unusedVariables false
open Go.RowKit Go.Maps
open Lz (g)
open Crc (ent more)
open Frm Mtr Dat

theorem wholeOf_any (n : Nat) (w : World) (h : n ≤ 1000000000000) : Calls Tryz.prog 109 #[.int .i64 n] w fun r w' => r = .returned (.int .i64 ((128 * (n / 128) : Nat) : Int)) ∧ w' = w := by
  go_enter Tryz.func109, Tryz.ntmps109
  go_wp2
  go_ret
  exact ⟨ret_int (by omega), rfl⟩
end Go.Proofs.YtchcejjoncihkaaGreatDoor

/- Layer 12: Add, by the program. -/
namespace Go.Proofs.YtchcejjoncihkaaGreatDoor
set_option linter.unusedVariables false
open Go.RowKit Go.Maps
open Lz (g)
open Crc (ent more)
open Frm Mtr Dat

/-- What Add answers, and leaves. -/
def DAdds (first : Nat) (s : Ws) (r z : List Int) (p tb : Nat) (O : Nat → Prop) (w w' : World) (e : Ending) : Prop :=
  ∃ ao c, e = .returned (.tuple #[.int .i64 (addA first s r : Nat), .slice ao (tl z).length c]) ∧ Bs w' ao (tl z).length (tl z) ∧ ((∀ a, ao = some a → w.heap.size ≤ a.block) ∧ (ao = none → c = 0)) ∧ ∃ O', WrD w' p O' tb first (addS first s r) ∧ Fr O w w' ∧ Gr O O' w ∧ ∀ a, ao = some a → 0 < (tl z).length → ¬ O' a.block
theorem run_frs (T : Nat → Nat) (z : List Int) (K : Nat) (h : z.length / 128 = K) : frs T (z.take (128 * K)) K = run T z := by
  have e := List.take_append_drop (128 * K) z
  have hl : 128 * K ≤ (z.take (128 * K)).length := by rw [List.length_take]; omega
  have := frs_append T (z.take (128 * K)) (z.drop (128 * K)) K hl
  rw [e] at this
  unfold run
  rw [h, this]
theorem Bs_blt {w : World} {ao : Option Addr} {n : Nat} {z : List Int} (h : Bs w ao n z) {a : Addr} (ha : ao = some a) (hn : 0 < n) : a.block < w.heap.size := by
  rcases h.2.2 with h0 | ⟨b, off, h1, h2, _⟩
  · omega
  · rw [ha] at h1
    obtain rfl := Option.some.inj h1
    exact h2
/-- What the writer's map tells. -/
theorem WrD.looks {w : World} {p tb first : Nat} {O : Nat → Prop} {s : Ws} (h : WrD w p O tb first s) {r : List Int} (hr : Bytes r) (hl : r.length ≤ 1000000) :
    ∃ mb, w.cell? ⟨p, 3, none⟩ = some (.map (some mb)) ∧ ∀ q, (Instr.lookup 160 (.map (some mb)) (.string (strOfNums r)) true).run Tryz.prog (w.drewN q) = .ok (.tuple #[.int .i64 (((Dat.look s.2 r).getD 0 : Nat) : Int), .bool (Dat.look s.2 r).isSome]) (w.drewN q) := by
  obtain ⟨lo, ln, lc, mb, h1, h2, h3, h4, h5, h6, h7⟩ := h
  exact ⟨mb, h1.c3, fun q => (show MpD (w.drewN q) mb s.2 from h4.same rfl).look hr hl⟩
/-- A file's frames more. -/
theorem WrD.puts {w : World} {p tb first : Nat} {O : Nat → Prop} {s : Ws} (h : WrD w p O tb first s) {r : List Int} (hr : Bytes r) (hl : r.length ≤ 1000000) (hM : s.2.length ≤ 1000000) (hn : Dat.look s.2 r = none) (a : Nat) :
    ∃ mb, w.cell? ⟨p, 3, none⟩ = some (.map (some mb)) ∧ ∃ w', (Instr.mapUpdate 160 (.map (some mb)) (.string (strOfNums r)) (.int .i64 (a : Int))).run Tryz.prog w = .ok () w' ∧ WrD w' p O tb first (s.1, s.2 ++ [(r, a)]) ∧ Fr O w w' := by
  obtain ⟨lo, ln, lc, mb, h1, h2, h3, h4, h5, h6, h7⟩ := h
  obtain ⟨w', k1, k2, k3⟩ := h4.store hr hl hM hn a
  have hf : Fr (One mb) w w' := Fr.of_grown k3 (fun k hk => by cases hk; rfl)
  refine ⟨mb, h1.c3, w', k1, ⟨lo, ln, lc, mb, h1.fr hf (fun e => ?_), h2, h3.fr hf (fun k hk e => ?_), k2, h5, h6, fun k hk => Nat.lt_of_lt_of_le (h7 k hk) hf.size⟩, hf.mono (fun i _ hi => ?_)⟩
  · exact h4.ne (show w.heap[p]? = _ from h1) e
  · obtain ⟨_, _, cur, hcur⟩ := h3.own hk
    exact h4.ne hcur e
  · have : i = mb := hi
    rw [this]; exact h5
set_option maxRecDepth 100000 in
set_option maxHeartbeats 8000000 in
theorem dAdd_any (p tb first n c : Nat) (O : Nat → Prop) (ao : Option Addr) (T : Nat → Nat) (s : Ws) (z : List Int) (w : World) (h : WrD w p O tb first s) (hT : Tb w tb T) (htb : tb < w.heap.size) (hS : Small T) (hb : Bs w ao n z) (hc : n ≤ c) (hcm : c ≤ 9223372036854775807) (hnil : ao = none → c = 0) (hf : first ≤ 1000000) (hL : s.1.length ≤ 500000) (hM : s.2.length ≤ 500000) (hn : n ≤ 100000) :
    Calls Tryz.prog 50 #[.pointer (some ⟨p, 0, none⟩), .slice ao n c] w fun e w' => DAdds first s (run T z) z p tb O w w' e := by
  have hz := hb.1
  obtain ⟨K, hK⟩ : ∃ K, n / 128 = K := ⟨_, rfl⟩
  have hKb : K ≤ 1000 := by omega
  have HWh := hide (wholeOf_any n w (by omega))
  rw [hK] at HWh
  have hKn : 128 * K ≤ n := by omega
  have hKi : ((128 * K : Nat) : Int) = 128 * (K : Int) := by omega
  obtain ⟨KK, hKK⟩ : ∃ KK, 128 * K = KK := ⟨_, rfl⟩
  rw [hKK] at HWh hKn
  have HTl : Hid (tl z = z.drop KK) := by show _ = _; unfold tl; rw [hz, hK, hKK]
  have hR := hb.toB.rest (cap := c) KK hKn hc
  have HTN : Hid ((if c = KK then ao else Option.map (fun x : Addr => x.add KK) ao) = none → c - KK = 0) := fun e => by
    by_cases e4 : c = KK
    · omega
    · rw [if_neg e4] at e
      cases ao with
      | none => have := hnil rfl; omega
      | some a => simp at e
  have HCl := hide (CloneNew_any (n - KK) (c - KK) (if c = KK then ao else Option.map (fun x : Addr => x.add KK) ao) (z.drop KK) w hR (by omega) HTN.out (by omega))
  have HW := hide h
  have HB := hide hb
  have HTb := hide hT
  have hKi2 : (KK : Int) ≤ (n : Int) := by omega
  have hKi3 : (KK : Int) ≤ (c : Int) := by omega
  obtain ⟨rl, hrl⟩ : ∃ rl, (run T z).length = rl := ⟨_, rfl⟩
  have hrlb : rl ≤ 150000 := by have := (run_length T z).2; rw [hz, hK] at this; omega
  have HRB := hide (run_bytes T hb.bytes)
  have HFO : Hid (∀ w2, Below w.heap.size w w2 → ¬ KK = 0 → Calls Tryz.prog 110 #[.pointer (some ⟨p, 0, none⟩), .slice ao KK c] w2 fun r w' => ∃ ao' c', r = .returned (.slice ao' rl c') ∧ Rw w' w2.heap.size ao' rl c' (run T z) ∧ Below w2.heap.size w2 w') := fun w2 hb2 hk0 => by
    obtain ⟨b, off, rfl, hbl, hseg⟩ : ∃ b off, ao = some ⟨b, off, none⟩ ∧ b < w.heap.size ∧ Seg w b off z := by
      rcases hb.2.2 with h0 | h0
      · omega
      · exact h0
    have c0 : w2.cell? ⟨p, 0, none⟩ = some (.pointer (some ⟨tb, 0, none⟩)) ∧ p < w2.heap.size := by
      have h2 := h.below hb2
      obtain ⟨lo, ln, lc, mb, hd, _⟩ := h2
      exact ⟨hd.c0, hd.lt⟩
    have hB2 : Bs w2 (some ⟨b, off, none⟩) KK (z.take KK) := (hb.below hb2).take KK hKn
    have := framesOf_any p tb KK c K b off T (z.take KK) w2 c0.1 c0.2 (hT.below hb2 htb) (Nat.lt_of_lt_of_le htb hb2.size) hS hB2 hKK.symm (by omega) hKb (by omega) hcm
    rw [← hKK, run_frs T z K (by rw [hz, hK]), hrl] at this
    rw [← hKK]
    exact this
  have HLk := hide (fun (w3 : World) O3 (h3 : WrD w3 p O3 tb first s) => h3.looks (run_bytes T hb.bytes) (by rw [hrl]; omega))
  have HSt := hide (fun (w3 : World) O3 (h3 : WrD w3 p O3 tb first (s.1 ++ run T z, s.2)) hno => h3.puts (run_bytes T hb.bytes) (by rw [hrl]; omega) (by show s.2.length ≤ _; omega) hno (first + s.1.length))
  have Hrl := hide hrl
  clear hrl
  clear hT hR hKi h
  have HRn := hide (run_nil T z)
  rw [hz, hK] at HRn
  have HKK := hide hKK
  have HK := hide hK
  have HNil := hide hnil
  clear hKK hK hnil hb
  obtain ⟨m, hm⟩ : ∃ m, n - KK = m := ⟨_, rfl⟩
  have HCl2 : Hid (Calls Tryz.prog 67 #[.slice (if c = KK then ao else Option.map (fun x : Addr => x.add KK) ao) (n - KK) (c - KK)] w fun r w' => ∃ ao' c', r = .returned (.slice ao' m c') ∧ New w w' ao' m c' (z.drop KK)) := by rw [hm] at HCl ⊢; exact HCl
  have Hm := hide hm
  have hmb : m ≤ 100000 := by omega
  clear HCl hm
  by_cases e4 : c = KK
  · rw [if_pos e4] at HCl2
    obtain rfl : KK = c := e4.symm
    obtain rfl : KK = n := by omega
    rw [Nat.sub_self] at HCl2
    obtain ⟨n, hnK⟩ : ∃ n, n = KK := ⟨_, rfl⟩
    rw [← hnK] at hz
    have Hm : Hid (n - KK = m) := by rw [hnK]; exact Hm
    clear hnK
    clear HTN
    go_enter Tryz.func50, Tryz.ntmps50
    go_wp2_with (first | (go_at_call 109; refine HWh.out.mono ?_; rintro r w1 ⟨rfl, rfl⟩) | fail)
    obtain ⟨w, rfl⟩ : ∃ w, w = w1 := ⟨_, rfl⟩
    refine HCl2.out.mono ?_
    rintro r w2 ⟨tlo, tc, rfl, hN⟩
    have HN := hide hN
    have Hb2 := hide hN.bel
    clear hN HCl2 HWh
    by_cases hK0 : KK = 0
    · have h0' : ((KK : Int) == 0) = true := by simp; omega
      have HA : Hid (DAdds first s (run T z) z p tb O w w2 (.returned (.tuple #[.int .i64 0, .slice tlo m tc]))) := by
        have hr : run T z = [] := HRn.out.2 (by have := HKK.out; omega)
        have htl : (tl z).length = m := by rw [HTl.out, List.length_drop, hz]; exact Hm.out
        refine ⟨tlo, tc, by rw [hr, (add_nil first s).1, htl]; rfl, ?_, ⟨fun a ha => (HN.out.own a ha).1, HN.out.nil⟩, O, ?_, Fr.of_below Hb2.out, Gr.refl _ _, fun a ha _ hx => by have := (HN.out.own a ha).1; have := HW.out.olt _ hx; omega⟩
        · rw [htl, HTl.out]; exact HN.out.bs
        · rw [hr, (add_nil first s).2]; exact HW.out.below Hb2.out
      clear hK0
      go_wp2
      go_ret2
      exact HA.out
    · have h0' : ((KK : Int) == 0) = false := by simp; omega
      have HF := hide (HFO.out w2 Hb2.out hK0)
      have hrne : run T z ≠ [] := fun e => hK0 (by have := HRn.out.1 e; have := HKK.out; omega)
      have HRne := hide hrne
      clear HFO hrne
      go_wp2_with fail
      refine HF.out.mono ?_
      rintro r w3 ⟨fo, fc, rfl, hR3, hb3⟩
      have HW3 := hide ((HW.out.below Hb2.out).below hb3)
      have Hb3 := hide (Hb2.out.trans (hb3.mono Hb2.out.size))
      have HR3 := hide hR3
      have HT3 := hide (HN.out.bs.below hb3)
      obtain ⟨mb, c3, hlk⟩ := HLk.out w3 O HW3.out
      have hst : ∀ q, (convert 25 9 (.slice fo rl fc)).run Tryz.prog (w3.drewN q) = .ok (.string (strOfNums (run T z))) (w3.drewN q) := fun q => str_any (show Bs (w3.drewN q) fo rl (run T z) from HR3.out.bs) fc
      clear hR3 hb3 HF HLk
      have htl : (tl z).length = m := by rw [HTl.out, List.length_drop, hz]; exact Hm.out
      have HTLL := hide htl
      clear htl
      cases hlo : Dat.look s.2 (run T z) with
      | some a =>
        rw [hlo] at hlk
        simp only [Option.getD_some, Option.isSome_some] at hlk
        have HA : Hid (∀ q, DAdds first s (run T z) z p tb O w (w3.drewN q) (.returned (.tuple #[.int .i64 (a : Nat), .slice tlo m tc]))) := fun q => by
          obtain ⟨a1, a2⟩ := add_some (first := first) HRne.out hlo
          refine ⟨tlo, tc, by rw [a1, HTLL.out], ?_, ⟨fun a ha => (HN.out.own a ha).1, HN.out.nil⟩, O, ?_, (Fr.of_below Hb3.out).drewN q, Gr.refl _ _, fun a ha _ hx => by have := (HN.out.own a ha).1; have := HW.out.olt _ hx; omega⟩
          · rw [HTLL.out, HTl.out]; exact HT3.out
          · rw [a2]; exact HW3.out
        clear hlo HSt
        go_wp2_with fail
        go_quiet (fail)
        go_wp2
        go_ret2
        exact HA.out _
      | none =>
        rw [hlo] at hlk
        simp only [Option.getD_none, Option.isSome_none] at hlk
        have HLo := hide hlo
        have HLay := hide (fun q => lay_any p tb first rl fc O fo s (run T z) (w3.drewN q) (show WrD (w3.drewN q) p O tb first s from HW3.out) (show Bs (w3.drewN q) fo rl (run T z) from HR3.out.bs) HR3.out.nil hf (by omega) (by omega))
        obtain ⟨A, hA⟩ : ∃ A, A = first + s.1.length := ⟨_, rfl⟩
        rw [← hA] at HLay HSt
        have HAe := hide hA
        clear hlo hA
        go_wp2_with fail
        go_quiet (fail)
        go_wp2_with fail
        refine (HLay.out nq).mono ?_
        rintro r w4 ⟨rfl, O4, hW4, hF4, hG4⟩
        have hF4' : Fr O w3 w4 := ⟨hF4.os, hF4.tape, hF4.output, hF4.size, hF4.block⟩
        have hG4' : Gr O O4 w3 := hG4
        clear hF4 hG4 HLay
        have hOlt := HW.out.olt
        have hw2 := Hb2.out.size
        have hR4 : Rw w4 w2.heap.size fo rl fc (run T z) := HR3.out.fr hF4' (fun k hk hx => by have := (HR3.out.own hk).1; have := hOlt k hx; omega)
        have hT4 : Bs w4 tlo m (z.drop KK) := HT3.out.fr hF4' (fun a ha _ hx => by have := (HN.out.own a ha).1; have := hOlt _ hx; omega)
        obtain ⟨mb4, c34, w5, hup, hW5, hF5⟩ := HSt.out w4.drew O4 (show WrD w4.drew p O4 tb first (s.1 ++ run T z, s.2) from hW4) HLo.out
        have hst4 : ∀ W : World, W = w4.drew → (convert 25 9 (.slice fo rl fc)).run Tryz.prog W = .ok (.string (strOfNums (run T z))) W := fun W e => by rw [e]; exact str_any (show Bs w4.drew fo rl (run T z) from hR4.bs) fc
        have hst5 := hst4 w4.drew rfl
        have HA : Hid (DAdds first s (run T z) z p tb O w w5 (.returned (.tuple #[.int .i64 (A : Nat), .slice tlo m tc]))) := by
          obtain ⟨a1, a2⟩ := add_none (first := first) HRne.out HLo.out
          have hF45 : Fr O4 w4 w5 := ⟨hF5.os, hF5.tape, hF5.output, hF5.size, hF5.block⟩
          have hno : ∀ a, tlo = some a → 0 < m → ¬ O4 a.block := fun a ha hm hx => by
            have h1 := (HN.out.own a ha).1
            rcases hG4' _ hx with h2 | h2
            · have := hOlt _ h2; omega
            · have := Bs_blt HT3.out ha hm; omega
          have hT5 : Bs w5 tlo m (z.drop KK) := hT4.fr hF45 hno
          have hF : Fr O w w5 := ((Fr.of_below Hb3.out).then hF4').gr (fun k hk => (hG4' k hk).imp id (fun h => Nat.le_trans Hb3.out.size h)) hF45
          refine ⟨tlo, tc, by rw [a1, HTLL.out, HAe.out], ?_, ⟨fun a ha => (HN.out.own a ha).1, HN.out.nil⟩, O4, ?_, hF, fun k hk => (hG4' k hk).imp id (fun h => Nat.le_trans Hb3.out.size h), by rw [HTLL.out]; exact hno⟩
          · rw [HTLL.out, HTl.out]; exact hT5
          · rw [a2, ← HAe.out]; exact hW5
        clear hF4' hG4' hOlt hR4 hT4 hW5 hF5 hW4 hst4 hst hlk c3
        go_wp2_with fail
        go_region
        all_goals (
          go_wp2
          go_ret2
          exact HA.out)
  · rw [if_neg e4] at HCl2
    clear HTN
    go_enter Tryz.func50, Tryz.ntmps50
    go_wp2_with (first | (go_at_call 109; refine HWh.out.mono ?_; rintro r w1 ⟨rfl, rfl⟩) | fail)
    obtain ⟨w, rfl⟩ : ∃ w, w = w1 := ⟨_, rfl⟩
    refine HCl2.out.mono ?_
    rintro r w2 ⟨tlo, tc, rfl, hN⟩
    have HN := hide hN
    have Hb2 := hide hN.bel
    clear hN HCl2 HWh
    by_cases hK0 : KK = 0
    · have h0' : ((KK : Int) == 0) = true := by simp; omega
      have HA : Hid (DAdds first s (run T z) z p tb O w w2 (.returned (.tuple #[.int .i64 0, .slice tlo m tc]))) := by
        have hr : run T z = [] := HRn.out.2 (by have := HKK.out; omega)
        have htl : (tl z).length = m := by rw [HTl.out, List.length_drop, hz]; exact Hm.out
        refine ⟨tlo, tc, by rw [hr, (add_nil first s).1, htl]; rfl, ?_, ⟨fun a ha => (HN.out.own a ha).1, HN.out.nil⟩, O, ?_, Fr.of_below Hb2.out, Gr.refl _ _, fun a ha _ hx => by have := (HN.out.own a ha).1; have := HW.out.olt _ hx; omega⟩
        · rw [htl, HTl.out]; exact HN.out.bs
        · rw [hr, (add_nil first s).2]; exact HW.out.below Hb2.out
      clear hK0
      go_wp2
      go_ret2
      exact HA.out
    · have h0' : ((KK : Int) == 0) = false := by simp; omega
      have HF := hide (HFO.out w2 Hb2.out hK0)
      have hrne : run T z ≠ [] := fun e => hK0 (by have := HRn.out.1 e; have := HKK.out; omega)
      have HRne := hide hrne
      clear HFO hrne
      go_wp2_with fail
      refine HF.out.mono ?_
      rintro r w3 ⟨fo, fc, rfl, hR3, hb3⟩
      have HW3 := hide ((HW.out.below Hb2.out).below hb3)
      have Hb3 := hide (Hb2.out.trans (hb3.mono Hb2.out.size))
      have HR3 := hide hR3
      have HT3 := hide (HN.out.bs.below hb3)
      obtain ⟨mb, c3, hlk⟩ := HLk.out w3 O HW3.out
      have hst : ∀ q, (convert 25 9 (.slice fo rl fc)).run Tryz.prog (w3.drewN q) = .ok (.string (strOfNums (run T z))) (w3.drewN q) := fun q => str_any (show Bs (w3.drewN q) fo rl (run T z) from HR3.out.bs) fc
      clear hR3 hb3 HF HLk
      have htl : (tl z).length = m := by rw [HTl.out, List.length_drop, hz]; exact Hm.out
      have HTLL := hide htl
      clear htl
      cases hlo : Dat.look s.2 (run T z) with
      | some a =>
        rw [hlo] at hlk
        simp only [Option.getD_some, Option.isSome_some] at hlk
        have HA : Hid (∀ q, DAdds first s (run T z) z p tb O w (w3.drewN q) (.returned (.tuple #[.int .i64 (a : Nat), .slice tlo m tc]))) := fun q => by
          obtain ⟨a1, a2⟩ := add_some (first := first) HRne.out hlo
          refine ⟨tlo, tc, by rw [a1, HTLL.out], ?_, ⟨fun a ha => (HN.out.own a ha).1, HN.out.nil⟩, O, ?_, (Fr.of_below Hb3.out).drewN q, Gr.refl _ _, fun a ha _ hx => by have := (HN.out.own a ha).1; have := HW.out.olt _ hx; omega⟩
          · rw [HTLL.out, HTl.out]; exact HT3.out
          · rw [a2]; exact HW3.out
        clear hlo HSt
        go_wp2_with fail
        go_quiet (fail)
        go_wp2
        go_ret2
        exact HA.out _
      | none =>
        rw [hlo] at hlk
        simp only [Option.getD_none, Option.isSome_none] at hlk
        have HLo := hide hlo
        have HLay := hide (fun q => lay_any p tb first rl fc O fo s (run T z) (w3.drewN q) (show WrD (w3.drewN q) p O tb first s from HW3.out) (show Bs (w3.drewN q) fo rl (run T z) from HR3.out.bs) HR3.out.nil hf (by omega) (by omega))
        obtain ⟨A, hA⟩ : ∃ A, A = first + s.1.length := ⟨_, rfl⟩
        rw [← hA] at HLay HSt
        have HAe := hide hA
        clear hlo hA
        go_wp2_with fail
        go_quiet (fail)
        go_wp2_with fail
        refine (HLay.out nq).mono ?_
        rintro r w4 ⟨rfl, O4, hW4, hF4, hG4⟩
        have hF4' : Fr O w3 w4 := ⟨hF4.os, hF4.tape, hF4.output, hF4.size, hF4.block⟩
        have hG4' : Gr O O4 w3 := hG4
        clear hF4 hG4 HLay
        have hOlt := HW.out.olt
        have hw2 := Hb2.out.size
        have hR4 : Rw w4 w2.heap.size fo rl fc (run T z) := HR3.out.fr hF4' (fun k hk hx => by have := (HR3.out.own hk).1; have := hOlt k hx; omega)
        have hT4 : Bs w4 tlo m (z.drop KK) := HT3.out.fr hF4' (fun a ha _ hx => by have := (HN.out.own a ha).1; have := hOlt _ hx; omega)
        obtain ⟨mb4, c34, w5, hup, hW5, hF5⟩ := HSt.out w4.drew O4 (show WrD w4.drew p O4 tb first (s.1 ++ run T z, s.2) from hW4) HLo.out
        have hst4 : ∀ W : World, W = w4.drew → (convert 25 9 (.slice fo rl fc)).run Tryz.prog W = .ok (.string (strOfNums (run T z))) W := fun W e => by rw [e]; exact str_any (show Bs w4.drew fo rl (run T z) from hR4.bs) fc
        have hst5 := hst4 w4.drew rfl
        have HA : Hid (DAdds first s (run T z) z p tb O w w5 (.returned (.tuple #[.int .i64 (A : Nat), .slice tlo m tc]))) := by
          obtain ⟨a1, a2⟩ := add_none (first := first) HRne.out HLo.out
          have hF45 : Fr O4 w4 w5 := ⟨hF5.os, hF5.tape, hF5.output, hF5.size, hF5.block⟩
          have hno : ∀ a, tlo = some a → 0 < m → ¬ O4 a.block := fun a ha hm hx => by
            have h1 := (HN.out.own a ha).1
            rcases hG4' _ hx with h2 | h2
            · have := hOlt _ h2; omega
            · have := Bs_blt HT3.out ha hm; omega
          have hT5 : Bs w5 tlo m (z.drop KK) := hT4.fr hF45 hno
          have hF : Fr O w w5 := ((Fr.of_below Hb3.out).then hF4').gr (fun k hk => (hG4' k hk).imp id (fun h => Nat.le_trans Hb3.out.size h)) hF45
          refine ⟨tlo, tc, by rw [a1, HTLL.out, HAe.out], ?_, ⟨fun a ha => (HN.out.own a ha).1, HN.out.nil⟩, O4, ?_, hF, fun k hk => (hG4' k hk).imp id (fun h => Nat.le_trans Hb3.out.size h), by rw [HTLL.out]; exact hno⟩
          · rw [HTLL.out, HTl.out]; exact hT5
          · rw [a2, ← HAe.out]; exact hW5
        clear hF4' hG4' hOlt hR4 hT4 hW5 hF5 hW4 hst4 hst hlk c3
        go_wp2_with fail
        go_region
        all_goals (
          go_wp2
          go_ret2
          exact HA.out)
end Go.Proofs.YtchcejjoncihkaaGreatDoor

/- Layer 13: the program's packer: its state in memory; New, room, Add. -/
namespace Go.Proofs.YtchcejjoncihkaaGreatDoor
set_option linter.unusedVariables false
open Go.RowKit Go.Maps
open Lz (g)
open Frm Mtr

/-- The packer's block. -/
def Fpk (w : World) (p : Nat) (ro : Option Addr) (rn rc : Nat) (so : Option Addr) (sn sc : Nat) : Prop := w.heap[p]? = some (.cells #[.slice ro rn rc, .slice so sn sc] 169 (0, 0))
section
variable {w w' : World} {p rn rc sn sc : Nat} {ro so : Option Addr}
theorem Fpk.lt (h : Fpk w p ro rn rc so sn sc) : p < w.heap.size := heap_lt h
theorem Fpk.c0 (h : Fpk w p ro rn rc so sn sc) : w.cell? ⟨p, 0, none⟩ = some (.slice ro rn rc) := by unfold Fpk at h; simp [World.cell?, h]
theorem Fpk.c1 (h : Fpk w p ro rn rc so sn sc) : w.cell? ⟨p, 1, none⟩ = some (.slice so sn sc) := by unfold Fpk at h; simp [World.cell?, h]
theorem Fpk.f (h : Fpk w p ro rn rc so sn sc) (i : Nat) : w.frozen? ⟨p, i, none⟩ = false := by unfold Fpk at h; simp [World.frozen?, h]
theorem Fpk.set0 (h : Fpk w p ro rn rc so sn sc) (ro' : Option Addr) (rn' rc' : Nat) : Fpk (w.setCell ⟨p, 0, none⟩ (.slice ro' rn' rc')) p ro' rn' rc' so sn sc := by
  unfold Fpk; rw [heap_setCell_self h]; rfl
theorem Fpk.set1 (h : Fpk w p ro rn rc so sn sc) (so' : Option Addr) (sn' sc' : Nat) : Fpk (w.setCell ⟨p, 1, none⟩ (.slice so' sn' sc')) p ro rn rc so' sn' sc' := by
  unfold Fpk; rw [heap_setCell_self h]; rfl
theorem Fpk.fr {S : Nat → Prop} (h : Fpk w p ro rn rc so sn sc) (hf : Fr S w w') (hn : ¬ S p) : Fpk w' p ro rn rc so sn sc := (hf.block p h.lt hn).trans h
theorem Fpk.ne {t : TypeId} {cur : Array Value} {k : Nat} (h : Fpk w p ro rn rc so sn sc) (hk : w.heap[k]? = some (.cells cur t (0, 0))) (ht : t ≠ 169) : k ≠ p := fun e => by
  subst e; unfold Fpk at h; rw [h] at hk; simp at hk; exact ht hk.2.symm
end
theorem owns_blockF {w : World} {B e size n k : Nat} {v : Value} {xs : List Value} (h : w.ownsRow B e size v n xs) (hk : v.ownBlock = some k) : k < w.heap.size ∧ ∃ cur, w.heap[k]? = some (.cells cur e (0, 0)) := ⟨(h.lt k hk).2, owns_obj h hk⟩
/-- The packer: a row of bytes R, and numbers S; O: the blocks that are its own. -/
structure PkQ (w : World) (p : Nat) (O : Nat → Prop) (R S : List Int) (ro : Option Addr) (rn rc : Nat) (so : Option Addr) (sn sc : Nat) : Prop where
  pk : Fpk w p ro rn rc so sn sc
  op : O p
  r : Rw w 0 ro rn rc R
  s : w.ownsRow 0 3 1 (.slice so sn sc) sn (zv S)
  orow : ∀ k, (Value.slice ro rn rc).ownBlock = some k → O k
  osiz : ∀ k, (Value.slice so sn sc).ownBlock = some k → O k
  lt : ∀ k, O k → k < w.heap.size
def PkP (w : World) (p : Nat) (O : Nat → Prop) (L : Frg.Bl) : Prop := ∃ ro rn rc so sn sc, PkQ w p O L.flatten (Frg.szs L) ro rn rc so sn sc
section
variable {w w' : World} {p rn rc sn sc : Nat} {ro so : Option Addr} {O : Nat → Prop} {R S : List Int} {L : Frg.Bl}
theorem PkQ.fr {X : Nat → Prop} (h : PkQ w p O R S ro rn rc so sn sc) (hf : Fr X w w') (hn : ∀ k, O k → ¬ X k) : PkQ w' p O R S ro rn rc so sn sc :=
  ⟨h.pk.fr hf (hn _ h.op), h.op, h.r.fr hf (fun k hk => hn _ (h.orow k hk)), owns_fr h.s hf (fun k hk => hn _ (h.osiz k hk)), h.orow, h.osiz, fun k hk => Nat.lt_of_lt_of_le (h.lt k hk) hf.size⟩
theorem PkP.fr {X : Nat → Prop} (h : PkP w p O L) (hf : Fr X w w') (hn : ∀ k, O k → ¬ X k) : PkP w' p O L := by
  obtain ⟨ro, rn, rc, so, sn, sc, h⟩ := h
  exact ⟨ro, rn, rc, so, sn, sc, h.fr hf hn⟩
theorem PkP.below (h : PkP w p O L) (hb : Below w.heap.size w w') : PkP w' p O L := h.fr (Fr.of_below (S := fun _ => False) hb) (fun _ _ h => h)
theorem PkP.olt (h : PkP w p O L) : ∀ k, O k → k < w.heap.size := by
  obtain ⟨ro, rn, rc, so, sn, sc, h⟩ := h
  exact h.lt
theorem PkQ.len (h : PkQ w p O R S ro rn rc so sn sc) : R.length = rn ∧ S.length = sn := ⟨h.r.1, by have := h.s.1; rw [zv_length] at this; omega⟩
/-- A number more. -/
theorem PkQ.push {o : Obj} {w1 : World} {sb c' : Nat} {x : Int} (h : PkQ w p O R S ro rn rc so sn sc) (hA : w1.ownsRow 0 3 1 (.slice (some ⟨sb, 0, none⟩) (sn + 1) c') (sn + 1) (zv (S ++ [x])))
    (hg : (w.alloc o).grownBy w1 (Value.slice so sn sc).ownBlock) (hl : (Value.slice so sn sc).ownBlock = some sb ∨ sb = (w.alloc o).heap.size) :
    Fpk w1 p ro rn rc so sn sc ∧ ∃ O', PkQ (w1.setCell ⟨p, 1, none⟩ (.slice (some ⟨sb, 0, none⟩) (sn + 1) c')) p O' R (S ++ [x]) ro rn rc (some ⟨sb, 0, none⟩) (sn + 1) c' ∧ Fr O w (w1.setCell ⟨p, 1, none⟩ (.slice (some ⟨sb, 0, none⟩) (sn + 1) c')) ∧ Gr O O' w := by
  have ha := h.fr (Fr.of_below (S := fun _ => False) (below_one w o)) (fun _ _ h => h)
  have f2 : Fr (fun k => (Value.slice so sn sc).ownBlock = some k) (w.alloc o) w1 := Fr.of_grown hg (fun k hk => hk)
  have hd2 : Fpk w1 p ro rn rc so sn sc := ha.pk.fr f2 (fun hk => by
    obtain ⟨_, cur, hc⟩ := owns_blockF ha.s hk
    exact ha.pk.ne hc (by decide) rfl)
  have hr2 : Rw w1 0 ro rn rc R := ha.r.fr f2 (fun k hk hx => by
    obtain ⟨_, c1, e1⟩ := owns_blockF ha.s hx
    obtain ⟨_, _, c2, e2⟩ := ha.r.own hk
    rw [e1] at e2; simp at e2)
  have fs : Fr (One p) w1 (w1.setCell ⟨p, 1, none⟩ (.slice (some ⟨sb, 0, none⟩) (sn + 1) c')) := (Fr.refl (One p) _).set (p := ⟨p, 1, none⟩) _ (fun _ => rfl)
  have hs2 := hg.size
  have hs4 := fs.size
  have hs0 : (w.alloc o).heap.size = w.heap.size + 1 := by simp
  refine ⟨hd2, fun k => O k ∨ (w.heap.size ≤ k ∧ k < w1.heap.size), ⟨hd2.set1 _ _ _, .inl h.op, hr2.fr fs (fun k hk hx => ?_), owns_fr hA fs (fun k hk hx => ?_), fun k hk => .inl (h.orow k hk), fun k hk => ?_, fun k hk => ?_⟩, ?_, fun k hk => hk.imp id (fun h => h.1)⟩
  · obtain ⟨_, _, cur, hc⟩ := hr2.own hk
    exact hd2.ne hc (by decide) hx
  · obtain ⟨_, cur, hc⟩ := owns_blockF hA hk
    exact hd2.ne hc (by decide) hx
  · obtain rfl : sb = k := by simpa [Value.ownBlock] using hk
    rcases hl with h' | h'
    · exact .inl (h.osiz _ h')
    · exact .inr ⟨by omega, (owns_blockF hA (by simp [Value.ownBlock])).1⟩
  · rcases hk with hk | hk
    · have := h.lt k hk; omega
    · omega
  · have fO : Fr O w w1 := ((Fr.refl O w).alloc o).trans f2 (fun i _ hi => h.osiz i hi)
    exact fO.trans fs (fun i _ (hi : i = p) => by rw [hi]; exact h.op)
/-- Bytes more. -/
theorem PkQ.more {w1 : World} {ro' : Option Addr} {m rc' : Nat} {z : List Int} (h : PkQ w p O R S ro rn rc so sn sc) (hA : Rw w1 0 ro' (rn + m) rc' (R ++ z))
    (hg : w.grownBy w1 (Value.slice ro rn rc).ownBlock) (hl : Lie w (.slice ro rn rc) (.slice ro' (rn + m) rc')) :
    Fpk w1 p ro rn rc so sn sc ∧ ∃ O', PkQ (w1.setCell ⟨p, 0, none⟩ (.slice ro' (rn + m) rc')) p O' (R ++ z) S ro' (rn + m) rc' so sn sc ∧ Fr O w (w1.setCell ⟨p, 0, none⟩ (.slice ro' (rn + m) rc')) ∧ Gr O O' w := by
  have f2 : Fr (fun k => (Value.slice ro rn rc).ownBlock = some k) w w1 := Fr.of_grown hg (fun k hk => hk)
  have hd2 : Fpk w1 p ro rn rc so sn sc := h.pk.fr f2 (fun hk => by
    obtain ⟨_, _, cur, hc⟩ := h.r.own hk
    exact h.pk.ne hc (by decide) rfl)
  have hr2 : w1.ownsRow 0 3 1 (.slice so sn sc) sn (zv S) := owns_fr h.s f2 (fun k hk hx => by
    obtain ⟨_, c1, e1⟩ := owns_blockF h.s hk
    obtain ⟨_, _, c2, e2⟩ := h.r.own hx
    rw [e1] at e2; simp at e2)
  have fs : Fr (One p) w1 (w1.setCell ⟨p, 0, none⟩ (.slice ro' (rn + m) rc')) := (Fr.refl (One p) _).set (p := ⟨p, 0, none⟩) _ (fun _ => rfl)
  have hs2 := hg.size
  have hs4 := fs.size
  refine ⟨hd2, fun k => O k ∨ (w.heap.size ≤ k ∧ k < w1.heap.size), ⟨hd2.set0 _ _ _, .inl h.op, hA.fr fs (fun k hk hx => ?_), owns_fr hr2 fs (fun k hk hx => ?_), fun k hk => ?_, fun k hk => .inl (h.osiz k hk), fun k hk => ?_⟩, ?_, fun k hk => hk.imp id (fun h => h.1)⟩
  · obtain ⟨_, _, cur, hc⟩ := hA.own hk
    exact hd2.ne hc (by decide) hx
  · obtain ⟨_, cur, hc⟩ := owns_blockF hr2 hk
    exact hd2.ne hc (by decide) hx
  · rcases hl k hk with h' | h'
    · exact .inl (h.orow k h')
    · exact .inr ⟨h', (hA.own hk).2.1⟩
  · rcases hk with hk | hk
    · have := h.lt k hk; omega
    · omega
  · have fO : Fr O w w1 := f2.mono (fun i _ hi => h.orow i hi)
    exact fO.trans fs (fun i _ (hi : i = p) => by rw [hi]; exact h.op)
/-- A number turned. -/
theorem PkQ.turn {sb : Nat} (h : PkQ w p O R S ro rn rc (some ⟨sb, 0, none⟩) sn sc) (i : Nat) (x : Int) (hi : i < sn) :
    PkQ (w.setCell ⟨sb, i, none⟩ (.int .i64 x)) p O R (S.set i x) ro rn rc (some ⟨sb, 0, none⟩) sn sc ∧ Fr O w (w.setCell ⟨sb, i, none⟩ (.int .i64 x)) := by
  have hsb : O sb := h.osiz sb (by simp [Value.ownBlock])
  have fs : Fr (One sb) w (w.setCell ⟨sb, i, none⟩ (.int .i64 x)) := (Fr.refl (One sb) _).set (p := ⟨sb, i, none⟩) _ (fun _ => rfl)
  obtain ⟨_, cur, hc⟩ := owns_blockF h.s (by simp [Value.ownBlock] : (Value.slice (some ⟨sb, 0, none⟩) sn sc).ownBlock = some sb)
  refine ⟨⟨h.pk.fr fs (fun e => ?_), h.op, h.r.fr fs (fun k hk hx => ?_), ?_, h.orow, h.osiz, fun k hk => Nat.lt_of_lt_of_le (h.lt k hk) fs.size⟩, fs.mono (fun k _ (hk : k = sb) => by rw [hk]; exact hsb)⟩
  · exact h.pk.ne hc (by decide) (show sb = p from (show p = sb from e).symm)
  · obtain ⟨_, _, c2, e2⟩ := h.r.own hk
    have hx : k = sb := hx
    rw [hx, hc] at e2; simp at e2
  · have := h.s.stored i (.int .i64 x)
    rw [zv_set] at this
    exact this.1
end
set_option maxRecDepth 100000 in
theorem fNew_any (w : World) : Calls Tryz.prog 49 #[] w fun r w' => r = .returned (.pointer (some ⟨w.heap.size, 0, none⟩)) ∧ PkP w' w.heap.size (One w.heap.size) [] ∧ Below w.heap.size w w' ∧ w'.heap.size = w.heap.size + 1 := by
  go_enter Tryz.func49, Tryz.ntmps49
  go_wp2
  go_ret
  exact ⟨rfl, ⟨none, 0, 0, none, 0, 0, heap_alloc_new w _, rfl, Rw.none _ _, World.ownsRow_nil _ _ _ _, fun k hk => by simp [Value.ownBlock] at hk, fun k hk => by simp [Value.ownBlock] at hk, fun k hk => by rw [show k = w.heap.size from hk]; simp⟩, below_one _ _, by simp⟩
/-- The room that is left. -/
def Frg.room (S : List Int) : Int := if S.length = 0 then 0 else 128 - g S (S.length - 1)
set_option maxRecDepth 100000 in
theorem room_any (p : Nat) (w : World) (O : Nat → Prop) (R S : List Int) (ro so : Option Addr) (rn rc sn sc : Nat) (h : PkQ w p O R S ro rn rc so sn sc) (hn : sn ≤ 1000000) (hS : ∀ x ∈ S, 0 ≤ x ∧ x ≤ 128) :
    Calls Tryz.prog 112 #[.pointer (some ⟨p, 0, none⟩)] w fun r w' => r = .returned (.int .i64 (Frg.room S)) ∧ ∃ k, w' = w.drewN k := by
  have c1 := h.pk.c1
  have hl := h.len.2
  by_cases h0 : sn = 0
  · subst h0
    have e : Frg.room S = 0 := by unfold Frg.room; rw [if_pos hl]
    rw [e]
    clear e h hS hl
    go_enter Tryz.func112, Tryz.ntmps112
    go_wp2
    go_ret
    exact ⟨rfl, 0, rfl⟩
  · obtain ⟨b, off, rfl, hlt, hc⟩ := (Zs.of h.s).at (by omega)
    have hcell := hc (sn - 1) (by omega)
    have e : Frg.room S = 128 - g S (sn - 1) := by unfold Frg.room; rw [if_neg (by omega), hl]
    have hx : 0 ≤ g S (sn - 1) ∧ g S (sn - 1) ≤ 128 := by
      rw [g_get _ _ (by omega)]; exact hS _ (List.getElem_mem _)
    rw [e]
    generalize g S (sn - 1) = x at *
    obtain ⟨t, ht⟩ : ∃ t, sn - 1 = t := ⟨_, rfl⟩
    rw [ht] at hcell
    have h0' : ((sn : Int) == 0) = false := by simp; omega
    have e1 : IntKind.i64.wrap ((sn : Int) - 1) = (t : Int) := by rw [IntKind.wrap_i64]; omega
    have e2 : IntKind.i64.wrap (128 - x) = 128 - x := by rw [IntKind.wrap_i64]; omega
    have e3 : (t : Int) < (sn : Int) := by omega
    clear e h hS hl hc ht
    go_enter Tryz.func112, Tryz.ntmps112
    go_wp2_with fail
    go_quiet (fail)
    go_wp2
    go_ret
    exact ⟨rfl, _, rfl⟩
end Go.Proofs.YtchcejjoncihkaaGreatDoor

/- Layer 13: Add, by the program. -/
namespace Go.Proofs.YtchcejjoncihkaaGreatDoor
set_option linter.unusedVariables false
open Go.RowKit Go.Maps
open Lz (g)
open Frm Mtr

namespace Frg
theorem room_app (K : Bl) (t : List Int) : room (szs (K ++ [t])) = 128 - (t.length : Int) := by
  unfold room
  rw [if_neg (by rw [szs_length]; simp), szs_length, szs_at _ _ (by simp)]
  simp
theorem room_nil : room (szs []) = 0 := rfl
/-- Where a tail comes to stand. -/
theorem add_good {L : Bl} {z : List Int} (h : ¬ (z.length < 1 ∨ 128 ≤ z.length)) : ∃ K t, add L z = (K ++ [t ++ z], K.length + 1, t.length) ∧ L.flatten = (K ++ [t]).flatten ∧ t.length + z.length ≤ 128 ∧
    ((L = K ∧ t = [] ∧ room (szs L) < (z.length : Int)) ∨ (L = K ++ [t] ∧ (z.length : Int) ≤ room (szs L))) := by
  rcases add_cases L z with ⟨h1, e⟩ | ⟨h1, h2, e⟩ | ⟨h1, K, t, rfl, h2, e⟩
  · exact absurd h1 h
  · refine ⟨L, [], by rw [e]; simp, by simp, by simp; omega, .inl ⟨rfl, rfl, ?_⟩⟩
    rcases h2 with rfl | ⟨K, t, rfl, h3⟩
    · rw [room_nil]; omega
    · rw [room_app]; omega
  · exact ⟨K, t, e, rfl, h2, .inr ⟨rfl, by rw [room_app]; omega⟩⟩
theorem szs_set (K : Bl) (t z : List Int) (n : Nat) (h : z.length = n) : (szs (K ++ [t])).set K.length ((t.length : Int) + n) = szs (K ++ [t ++ z]) := by
  rw [szs_append, szs_append, szs_one, szs_one, List.set_append_right _ _ (by rw [szs_length]; exact Nat.le_refl _), szs_length, Nat.sub_self]
  simp [h]
theorem szs_bd {L : Bl} (h : Ok L) : ∀ x ∈ szs L, 0 ≤ x ∧ x ≤ 128 := fun x hx => by
  unfold szs at hx
  rw [List.mem_map] at hx
  obtain ⟨b, hb, rfl⟩ := hx
  have := h b hb
  omega
theorem szs_last (K : Bl) (t : List Int) : g (szs (K ++ [t])) K.length = (t.length : Int) := by
  rw [szs_at _ _ (by simp)]; simp
end Frg
open Frg
theorem PkQ.last {w : World} {p rn rc n1 sc sb kn x : Nat} {ro : Option Addr} {O : Nat → Prop} {R : List Int} {K : Bl} {t : List Int} (h : PkQ w p O R (szs (K ++ [t])) ro rn rc (some ⟨sb, 0, none⟩) n1 sc) (h1 : K.length = kn) (h2 : kn + 1 = n1) (h3 : t.length = x) :
    w.cell? ⟨sb, kn, none⟩ = some (.int .i64 (x : Int)) ∧ w.frozen? ⟨sb, kn, none⟩ = false := by
  obtain ⟨b, off, e, _, hc⟩ := (Zs.of h.s).at (by omega)
  obtain ⟨rfl, rfl⟩ : sb = b ∧ 0 = off := by simpa using e
  have := hc kn (by omega)
  rw [Nat.zero_add] at this
  exact ⟨by rw [this, ← h1, szs_last, h3], h.s.frozenAt kn⟩
/-- What Add answers, and leaves. -/
def FAdds (L : Bl) (z : List Int) (p : Nat) (O : Nat → Prop) (w w' : World) (e : Ending) : Prop :=
  e = .returned (.tuple #[.int .i64 ((add L z).2.1 : Nat), .int .i64 ((add L z).2.2 : Nat)]) ∧ ∃ O', PkP w' p O' (add L z).1 ∧ Fr O w w' ∧ Gr O O' w
set_option maxRecDepth 100000 in
set_option maxHeartbeats 4000000 in
theorem fAdd_any (p n c : Nat) (O : Nat → Prop) (ao : Option Addr) (L : Bl) (z : List Int) (w : World) (h : PkP w p O L) (hk : Ok L) (hb : Bs w ao n z) (hnil : ao = none → c = 0) (hno : ∀ a, ao = some a → 0 < n → ¬ O a.block) (hL : L.length ≤ 100000) (hR : L.flatten.length ≤ 10000000) (hn : n ≤ 9223372036854775807) :
    Calls Tryz.prog 51 #[.pointer (some ⟨p, 0, none⟩), .slice ao n c] w fun e w' => FAdds L z p O w w' e := by
  have hz := hb.1
  by_cases hbad : z.length < 1 ∨ 128 ≤ z.length
  · have HA : Hid (FAdds L z p O w w (.returned (.tuple #[.int .i64 0, .int .i64 0]))) := by
      show FAdds L z p O w w _
      unfold FAdds
      rw [add_bad hbad]
      exact ⟨rfl, O, h, Fr.refl _ _, Gr.refl _ _⟩
    have hc : n = 0 ∨ (((n : Int) == 0) = false ∧ (128 : Int) ≤ (n : Int)) := by
      by_cases e : n = 0
      · exact .inl e
      · exact .inr ⟨by simp; omega, by omega⟩
    clear h hb hz hbad
    rcases hc with rfl | ⟨h1, h2⟩
    all_goals
      go_enter Tryz.func51, Tryz.ntmps51
      go_wp2
      go_ret2
      exact HA.out
  · obtain ⟨ro, rn, rc, so, sn, sc, hq⟩ := h
    obtain ⟨hlR, hlS⟩ := hq.len
    rw [szs_length] at hlS
    obtain ⟨K, t, hadd, hflat, htz, hcase⟩ := add_good (L := L) hbad
    have HRm := hide (room_any p w O L.flatten (szs L) ro so rn rc sn sc hq (by omega) (szs_bd hk))
    have HQ := hide hq
    have h0' : ((n : Int) == 0) = false := by simp; omega
    have h128 : ¬ (128 : Int) ≤ (n : Int) := by omega
    have h128' : decide ((128 : Int) ≤ (n : Int)) = false := by simp; omega
    have HB := hide hb
    have HN := hide hnil
    have HNo := hide hno
    have HAdd := hide hadd
    have HFl := hide hflat
    obtain ⟨kn, hkn⟩ : ∃ kn, K.length = kn := ⟨_, rfl⟩
    obtain ⟨n1, hn1⟩ : ∃ n1, kn + 1 = n1 := ⟨_, rfl⟩
    obtain ⟨x, hx⟩ : ∃ x, t.length = x := ⟨_, rfl⟩
    have HKN := hide hkn
    have HX := hide hx
    have hkl : kn ≤ 100000 := by
      rcases hcase with ⟨e, _⟩ | ⟨e, _⟩
      · rw [e] at hL; omega
      · rw [e] at hL; simp at hL; omega
    have htb : x + n ≤ 128 := by omega
    have HC : Hid ((L = K ∧ t = [] ∧ room (szs L) < (n : Int)) ∨ (L = K ++ [t] ∧ (n : Int) ≤ room (szs L))) := by rw [← hz]; exact hcase
    obtain ⟨rm, hrm⟩ : ∃ rm, room (szs L) = rm := ⟨_, rfl⟩
    rw [hrm] at HRm HC
    rw [hlR] at hR
    have hns : n1 ≤ 100001 := by omega
    have e1 : IntKind.i64.wrap ((n1 : Int) - 1) = (kn : Int) := by rw [IntKind.wrap_i64]; omega
    have e2 : IntKind.i64.wrap ((x : Int) + (n : Int)) = (x : Int) + n := by rw [IntKind.wrap_i64]; omega
    have e3 : (kn : Int) < (n1 : Int) := by omega
    have e4 : IntKind.i64.wrap ((kn : Int) + 1) = (kn : Int) + 1 := by rw [IntKind.wrap_i64]; omega
    have hzn : z.length = n := hz
    have HZ := hide hzn
    have HN1 := hide hn1
    have HSN := hide hlS
    clear hq hb hnil hno hz hbad hadd hflat hkn hn1 hx hcase hrm hlR hk hzn hlS hL
    go_enter Tryz.func51, Tryz.ntmps51
    go_upto_if 19 with (first | (go_at_call 112; refine HRm.out.mono ?_; rintro r w1 ⟨rfl, q, rfl⟩) | fail)
    have HQ1 := hide (HQ.out.fr ((Fr.refl (fun _ => False) w).drewN q) (fun _ _ h => h))
    have HF1 := hide ((Fr.refl O w).drewN q)
    have HB1 : Hid (Bs (w.drewN q) ao n z) := HB.out
    obtain ⟨w1, hw1⟩ : ∃ w1, w1 = w.drewN q := ⟨_, rfl⟩
    rw [← hw1] at HQ1 HF1 HB1 ⊢
    have hs1 : w.heap.size ≤ w1.heap.size := HF1.out.size
    clear hw1 HQ HRm HB
    go_cut [19] from 20 to 28 (fun s19 wx => ∃ O2 sb sc2, PkQ wx p O2 L.flatten (szs (K ++ [t])) ro rn rc (some ⟨sb, 0, none⟩) n1 sc2 ∧ Fr O w wx ∧ Gr O O2 w ∧ Bs wx ao n z)
    case first =>
      have c1 := HQ1.out.pk.c1
      rcases HC.out with ⟨hLK, ht0, hlt⟩ | ⟨hLK, hge⟩
      · have HE : Hid (szs L ++ [0] = szs (K ++ [t]) ∧ sn + 1 = n1) := ⟨by rw [hLK, ht0, szs_append]; rfl, by rw [← HSN.out, hLK, HKN.out, HN1.out]⟩
        have HO1 := hide (HQ1.out.s.alloc (.cells #[.int .i64 0] 3))
        have hsn : sn ≤ 100000 := by have := HE.out.2; omega
        clear hLK ht0 HC
        go_wp2_with (first
          | (at_builtin
             refine wpList_append_num_at _ rfl (.tmp 24) (.tmp 25) rfl 0 so sn sc _ rfl HO1.out w1.heap.size 0 rfl (by simp) (by omega) (Nat.zero_le _) ?_
             intro b' c' w2 ho2 hg2 hl2
             have HX2 := hide (HQ1.out.push ho2 hg2 hl2)
             have HB2 : Hid (Bs w2 ao n z) := (HB1.out.below (below_one _ _)).fr (Fr.of_grown (S := fun k => (Value.slice so sn sc).ownBlock = some k) hg2 (fun k hk => hk)) (fun a ha h0 hx => HNo.out a ha h0 (HQ1.out.osiz _ hx))
             have c21 := HX2.out.1.c1
             have f21 := HX2.out.1.f 1
             clear ho2 hg2 hl2))
        go_meet
        case rel =>
          obtain ⟨_, O2, k1, k2, k3⟩ := HX2.out
          rw [HE.out.1, HE.out.2] at k1
          rw [HE.out.2] at k2 ⊢
          refine ⟨O2, b', c', k1, HF1.out.then k2, fun k hk => (k3 k hk).imp id (fun h => Nat.le_trans hs1 h), HB2.out.fr ((Fr.refl (One p) _).set (p := ⟨p, 1, none⟩) _ (fun _ => rfl)) (fun a ha h0 hx => HNo.out a ha h0 ?_)⟩
          rw [show a.block = p from hx]; exact HQ1.out.op
      · have hge' : decide (rm < (n : Int)) = false := by simp; omega
        have HE : Hid (szs L = szs (K ++ [t]) ∧ sn = n1) := ⟨by rw [hLK], by rw [← HSN.out, hLK, List.length_append, HKN.out, ← HN1.out]; rfl⟩
        clear hLK HC
        go_wp2
        go_meet
        case rel =>
          have hq := HQ1.out
          rw [HE.out.1, HE.out.2] at hq
          obtain ⟨b, c', hv, _, hlt⟩ := hq.s.form (by omega)
          obtain ⟨rfl, rfl⟩ : so = some ⟨b, 0, none⟩ ∧ sc = c' := by simpa using hv
          exact ⟨O, b, sc, hq, HF1.out, Gr.refl _ _, HB1.out⟩
    case rest =>
      obtain ⟨O2, sb, sc2, hq2, hF2, hG2, hB2⟩ := hcut
      have HQ2 := hide hq2
      have HF2 := hide hF2
      have HG2 := hide hG2
      have HB2 := hide hB2
      have c1 := hq2.pk.c1
      have c0 := hq2.pk.c0
      have hcx := (hq2.last HKN.out HN1.out HX.out).1
      clear hq2 hF2 hG2 hB2 HC HF1 HQ1 HB1
      go_wp2_with (first
        | (at_builtin
           refine wpList_append_rw _ rfl (.tmp 46) (.tmp 47) rfl 0 ro rn rc L.flatten rfl HQ2.out.r ao n c z rfl HB2.out HN.out (by omega) (Nat.zero_le _) ?_
           intro ao3 c3 w3 hA hg hl
           have HX3 := hide (HQ2.out.more hA hg hl)
           have c03 := HX3.out.1.c0
           have f03 := HX3.out.1.f 0
           obtain ⟨_, O4, hq4, hF4, hG4⟩ := HX3.out
           have HQ4 := hide hq4
           have HF4 := hide hF4
           have HG4 := hide hG4
           have c14 := hq4.pk.c1
           have hcx4 := (hq4.last HKN.out HN1.out HX.out).1
           have hfx4 := (hq4.last HKN.out HN1.out HX.out).2
           clear hA hg hl hq4 hF4 hG4))
      go_ret2
      show FAdds L z p O w _ _
      obtain ⟨k1, k2⟩ := HQ4.out.turn kn ((x : Int) + n) (by have := HN1.out; omega)
      have e5 : (szs (K ++ [t])).set kn ((x : Int) + n) = szs (K ++ [t ++ z]) := by rw [← HKN.out, ← HX.out]; exact szs_set K t z n HZ.out
      have e6 : L.flatten ++ z = (K ++ [t ++ z]).flatten := by rw [HFl.out]; simp
      rw [e5, e6] at k1
      unfold FAdds
      rw [HAdd.out, HKN.out, HX.out]
      refine ⟨rfl, O4, ⟨_, _, _, _, _, _, k1⟩, (HF2.out.gr HG2.out HF4.out).gr (HG2.out.trans HG4.out HF2.out.size) k2, HG2.out.trans HG4.out HF2.out.size⟩
end Go.Proofs.YtchcejjoncihkaaGreatDoor

/- Slices of slices of bytes: one that came in, opened; one of the call's own. -/
namespace Go.Proofs.YtchcejjoncihkaaGreatDoor
set_option linter.unusedVariables false
open Go.RowKit Go.Maps Go.ChangeShapes Go.WideShapes Go.ChangeAt
open Lz (g)

theorem infoBytes : (Tryz.prog.info? 25).map (fun i => (i.zero, i.size, i.bytes)) = some (some (.slice none 0 0), 1, 24) := by kernel_rfl
end Go.Proofs.YtchcejjoncihkaaGreatDoor

/- Layer 13: Blocks, by the program. -/
namespace Go.Proofs.YtchcejjoncihkaaGreatDoor
set_option linter.unusedVariables false
open Go.RowKit Go.Maps
open Lz (g)
open Frm Mtr Frg

namespace Frg
/-- How many bytes stand ahead of a block. -/
def pre (L : Bl) (i : Nat) : Nat := ((L.take i).flatten).length
theorem pre_zero (L : Bl) : pre L 0 = 0 := rfl
theorem pre_succ (L : Bl) (i : Nat) (h : i < L.length) : pre L (i + 1) = pre L i + L[i].length := by
  unfold pre
  rw [List.take_succ_eq_append_getElem h]
  simp only [List.flatten_append, List.flatten_cons, List.flatten_nil, List.append_nil, List.length_append]
theorem flat_split (L : Bl) (i : Nat) (h : i < L.length) : L.flatten = (L.take i).flatten ++ (L[i] ++ (L.drop (i + 1)).flatten) := by
  conv => lhs; rw [← List.take_append_drop i L, List.drop_eq_getElem_cons h]
  simp only [List.flatten_append, List.flatten_cons]
theorem pre_le (L : Bl) (i : Nat) (h : i < L.length) : pre L i + L[i].length ≤ L.flatten.length := by
  rw [flat_split L i h]
  unfold pre
  rw [List.length_append, List.length_append]; omega
theorem pre_blk (L : Bl) (i : Nat) (h : i < L.length) : (L.flatten.take (pre L i + L[i].length)).drop (pre L i) = L[i] := by
  rw [flat_split L i h]
  have e : pre L i = (L.take i).flatten.length := rfl
  rw [e, List.take_length_add_append, List.drop_left, List.take_left]
/-- The answer's cells, i of them laid. -/
def cel (L : Bl) (cb off i : Nat) : List Value := (List.range L.length).map fun j => if j < i then .slice (some ⟨cb, off + pre L j, none⟩) (L.getD j []).length (L.getD j []).length else .slice none 0 0
theorem cel_zero (L : Bl) (cb off : Nat) : cel L cb off 0 = List.replicate L.length (.slice none 0 0) := by
  unfold cel
  apply List.ext_getElem
  · simp
  · intro j h1 h2; simp
theorem cel_set (L : Bl) (cb off i : Nat) (h : i < L.length) : (cel L cb off i).set i (.slice (some ⟨cb, off + pre L i, none⟩) L[i].length L[i].length) = cel L cb off (i + 1) := by
  unfold cel
  apply List.ext_getElem
  · simp
  · intro j h1 h2
    rw [List.getElem_set]
    by_cases e : i = j
    · subst e; simp [h]
    · simp only [e, if_false, List.getElem_map, List.getElem_range]
      have : (j < i) = (j < i + 1) := by apply propext; omega
      simp only [this]
theorem cel_at (L : Bl) (cb off j : Nat) (h : j < L.length) : (cel L cb off L.length)[j]? = some (.slice (some ⟨cb, off + pre L j, none⟩) L[j].length L[j].length) := by
  simp [cel, h]
end Frg
/-- The blocks that were answered. -/
structure Bks (w w' : World) (ao : Option Addr) (L : Bl) : Prop where
  bel : Below w.heap.size w w'
  each : ∀ i (h : i < L.length), ∃ gb A, ao = some ⟨gb, 0, none⟩ ∧ w.heap.size ≤ gb ∧ gb < w'.heap.size ∧ w'.cell? ⟨gb, i, none⟩ = some (.slice (some A) L[i].length L[i].length) ∧ Bs w' (some A) L[i].length L[i] ∧ w.heap.size ≤ A.block ∧ A.block < w'.heap.size
theorem made_rows (K : Nat) : (madeCells (Value.slice none 0 0).cells (K * 1)).toList = List.replicate K (.slice none 0 0) := by
  rw [Nat.mul_one]
  show (madeCells #[Value.slice none 0 0] K).toList = _
  rw [toList_madeCells_one]
set_option maxRecDepth 100000 in
set_option maxHeartbeats 4000000 in
theorem fBlocks_any (p : Nat) (O : Nat → Prop) (L : Bl) (w : World) (h : PkP w p O L) (hk : Ok L) (hL : L.length ≤ 100000) (hR : L.flatten.length ≤ 10000000) :
    Calls Tryz.prog 52 #[.pointer (some ⟨p, 0, none⟩)] w fun r w' => ∃ ao, r = .returned (.slice ao L.length L.length) ∧ Bks w w' ao L := by
  obtain ⟨i1, hi1, hz0, hz1, hz2⟩ := info_parts infoBytes
  obtain ⟨ro, rn, rc, so, sn, sc, hq⟩ := h
  obtain ⟨hlR, hlS⟩ := hq.len
  rw [szs_length] at hlS
  have HCl := hide (CloneRw_any rn rc ro L.flatten w hq.r.bs hq.r.2.2.1 hq.r.nil (by omega))
  have c0 := hq.pk.c0
  have HQ := hide hq
  have hk1 : ∀ i (h : i < L.length), 1 ≤ L[i].length ∧ L[i].length ≤ 128 := fun i h => hk _ (List.getElem_mem _)
  have HK := hide hk1
  have HLR := hide hlR
  have HLS := hide hlS
  rw [hlS] at hL ⊢
  rw [hlR] at hR
  clear hq hk hk1 hlR hlS
  go_enter Tryz.func52, Tryz.ntmps52
  go_wp2_with fail
  refine HCl.out.mono ?_
  rintro r w1 ⟨ao, c, rfl, hR1, hb1⟩
  have HR1 := hide hR1
  have Hb1 := hide hb1
  have HQ1 := hide (HQ.out.fr (Fr.of_below (S := fun _ => False) hb1) (fun _ _ h => h))
  have c1 := HQ1.out.pk.c1
  clear hR1 hb1 HCl HQ c0
  go_wp2_with (first
    | (at_make
       refine wpList_make_full _ rfl _ _ 80 rfl w1.heap.size 25 i1 (.slice none 0 0) 1 Tryz.underlying80 hi1 hz0 hz1 _ _ _ _ sn (by rfl) (by rfl) rfl rfl (by rw [hz2]; omega) (by unfold maxLen; omega) (Nat.le_refl _) ?_
       intro w2 o2 k2
       rw [made_rows] at o2
       have HO2 := hide o2
       have Hb2 : Hid (Below w1.heap.size w1 w2) := (Below.refl _ w1).grown k2 (Nat.le_refl _) (fun k e => by simp at e)
       have HQ2 := hide (HQ1.out.fr (Fr.of_below (S := fun _ => False) Hb2.out) (fun _ _ h => h))
       have c12 := HQ2.out.pk.c1
       clear o2 k2 c1))
  obtain ⟨cb, off, hao⟩ : ∃ cb off, 0 < sn → ao = some ⟨cb, off, none⟩ ∧ cb < w1.heap.size ∧ w.heap.size ≤ cb ∧ Seg w1 cb off L.flatten := by
    have hR := HR1.out
    rcases hR.2.2.2.2 with ⟨h1, h2⟩ | ⟨gb, o, h1, h2, ⟨cur, h3⟩, h4, _⟩
    · refine ⟨0, 0, fun h0 => ?_⟩
      have h5 := pre_le L 0 (by rw [HLS.out]; exact h0)
      have h6 := HK.out 0 (by rw [HLS.out]; exact h0)
      have h7 := hR.2.2.1
      have h8 := HLR.out
      omega
    · exact ⟨gb, o, fun _ => ⟨h1, heap_lt h3, h2, fun i hi => h4 i (by rw [← hR.1]; exact hi)⟩⟩
  have hrc := HR1.out.2.2.1
  have hcm := HR1.out.2.2.2.1
  unfold maxLen at hcm
  have HAO := hide hao
  clear hao
  have HE : Hid (List.replicate sn (Value.slice none 0 0) = cel L cb off 0) := by show _ = _; rw [cel_zero, HLS.out]
  go_loopw [3, 23] (fun s3 s23 wr => ∃ (r3 : Option Addr) (i : Nat), s3 = .slice r3 (rn - pre L i) (c - pre L i) ∧ s23 = .int .i64 i ∧ i ≤ sn ∧ (i < sn → r3 = some ⟨cb, off + pre L i, none⟩) ∧
      wr.ownsRow w1.heap.size 25 1 (.slice (some ⟨w1.heap.size, 0, none⟩) sn sn) sn (cel L cb off i) ∧ Below w1.heap.size w1 wr) (fun _ s23 _ => sn - (intOf s23).toNat)
  case atStart => exact ⟨ao, 0, by rw [pre_zero]; rfl, rfl, Nat.zero_le _, fun h0 => by rw [pre_zero]; exact (HAO.out h0).1, by rw [← HE.out]; exact HO2.out, Hb2.out⟩
  case round =>
    obtain ⟨r3, i, rfl, rfl, hi, hr3, hO, hB⟩ := hrel
    have HB := hide hB
    have HO := hide hO
    by_cases hgo : i < sn
    · have hg1 : (i : Int) < (sn : Int) := by omega
      obtain rfl := hr3 hgo
      have hiL : i < L.length := by rw [HLS.out]; exact hgo
      have hQr := HQ1.out.fr (Fr.of_below (S := fun _ => False) hB) (fun _ _ h => h)
      obtain ⟨b, so', rfl, _, hsc⟩ := (Zs.of hQr.s).at (by omega)
      have hci := hsc i hgo
      rw [szs_at L i hiL] at hci
      have hm := HK.out i hiL
      have hpl := pre_le L i hiL
      rw [HLR.out] at hpl
      have HPs := hide (pre_succ L i hiL)
      have HSt := hide (hO.stored i (.slice (some ⟨cb, off + pre L i, none⟩) L[i].length L[i].length))
      rw [cel_set L cb off i hiL] at HSt
      have hcell : wr.cell? ⟨w1.heap.size, i, none⟩ = some (.slice none 0 0) := by
        rw [hO.cellAt i (by omega)]
        simp [cel, hiL]
      have hfr := hO.frozenAt i
      obtain ⟨m, hme⟩ : ∃ m, L[i].length = m := ⟨_, rfl⟩
      rw [hme] at hci hm hpl HPs HSt
      obtain ⟨P, hPe⟩ : ∃ P, pre L i = P := ⟨_, rfl⟩
      rw [hPe] at hpl HPs HSt ⊢
      obtain ⟨q, hqe⟩ : ∃ q, rn - P = q := ⟨_, rfl⟩
      obtain ⟨qc, hqc⟩ : ∃ qc, c - P = qc := ⟨_, rfl⟩
      rw [hqe, hqc]
      have hq1 : m ≤ q := by omega
      have hq2 : q ≤ qc := by omega
      have hq3 : qc ≤ 9223372036854775807 := by omega
      have HQe := hide hqe
      have HQc := hide hqc
      clear hsc hQr hme hPe hqe hqc hr3 hO hB
      go_wp2
      go_roundw
      case rel =>
        have h1 := HQe.out
        have h2 := HQc.out
        refine ⟨_, i + 1, by rw [HPs.out, show rn - (P + m) = q - m by omega, show c - (P + m) = qc - m by omega], by go_num, by omega, fun h3 => ?_, HSt.out.1, HB.out.grown HSt.out.2 HB.out.size (fun k e => by simp at e; omega)⟩
        have h4 := pre_le L (i + 1) (by rw [HLS.out]; exact h3)
        have h5 := HK.out (i + 1) (by rw [HLS.out]; exact h3)
        rw [HPs.out, HLR.out] at h4
        rw [if_neg (by omega), HPs.out, Nat.add_assoc]
      case measure => simp [intOf]; omega
    · obtain rfl : i = sn := by omega
      have hg1 : ¬ (i : Int) < (i : Int) := by omega
      have HX : Hid (∃ ao, Ending.returned (.slice (some ⟨w1.heap.size, 0, none⟩) i i) = .returned (.slice ao i i) ∧ Bks w wr ao L) := by
        refine ⟨_, rfl, Hb1.out.trans (hB.mono Hb1.out.size), fun j hj => ?_⟩
        have hj' : j < i := by rw [← HLS.out]; exact hj
        obtain ⟨_, h2, h3, h4⟩ := HAO.out (by omega)
        have hs := hB.size
        have hc := hO.cellAt j (by omega)
        have hpl := pre_le L j hj
        refine ⟨w1.heap.size, ⟨cb, off + pre L j, none⟩, rfl, Hb1.out.size, (hO.lt _ (by simp [Value.ownBlock])).2, ?_, ⟨rfl, fun k => ?_, .inr ⟨cb, off + pre L j, rfl, by omega, ?_⟩⟩, h3, by show cb < _; omega⟩
        · rw [hc, ← HLS.out]
          exact cel_at L cb off j hj
        · have := (HR1.out.bs.2.1)
          have hb := bytes_cut this (pre L j) (pre L j + L[j].length) k
          rw [pre_blk L j hj] at hb
          exact hb
        · have := (h4.below hB h2).cut (pre L j) (pre L j + L[j].length)
          rw [pre_blk L j hj] at this
          exact this
      clear hr3 hO hB HO HB c12 HQ2 hgo
      go_wp2
      go_ret
      exact HX.out
end Go.Proofs.YtchcejjoncihkaaGreatDoor

/- Layer 14: the bytes of all files are laid down: layContents. -/
namespace Go.Proofs.YtchcejjoncihkaaGreatDoor
set_option linter.unusedVariables false
open Go.RowKit Go.Maps
open Lz (g)
open Crc (ent)
open Frm Mtr Tre Nam Tab Bld

namespace Bld
/-- What a file's whole blocks take at most, and its tail. -/
def bw (l : List Nod) (v : Nat) : Nat := 135 * ((gn l v).data.length / 128)
def tw (l : List Nod) (v : Nat) : Nat := (gn l v).data.length % 128
structure CI (l : List Nod) (C : Cs) (k : Nat) : Prop where
  s1 : C.s.1.length ≤ sm (bw l) k
  s2 : C.s.2.length ≤ k
  b : C.b.length ≤ k
  fl : C.b.flatten.length ≤ sm (tw l) k
  ok : Frg.Ok C.b
  m : C.m.length ≤ k
theorem addS_len (s : Dat.Ws) (r : List Int) : (Dat.addS 64 s r).1.length ≤ s.1.length + r.length ∧ (Dat.addS 64 s r).2.length ≤ s.2.length + 1 := by
  unfold Dat.addS
  split
  · exact ⟨Nat.le_add_right _ _, Nat.le_succ _⟩
  · split
    · exact ⟨Nat.le_add_right _ _, Nat.le_succ _⟩
    · simp
theorem cont_inv (l : List Nod) : ∀ k, CI l (cont l k) k
  | 0 => ⟨Nat.le_refl _, Nat.le_refl _, Nat.le_refl _, Nat.le_refl _, Frg.ok_nil, Nat.le_refl _⟩
  | k + 1 => by
    have h := cont_inv l k
    rw [cont]
    unfold cstep
    have hs := h.s1; have hs2 := h.s2; have hb := h.b; have hf := h.fl; have hm := h.m
    split
    · exact ⟨by rw [sm]; omega, by omega, by omega, by rw [sm]; omega, h.ok, by omega⟩
    · have h1 := addS_len (cont l k).s (Dat.run ent (gn l k).data)
      have h2 := Dat.run_length ent (gn l k).data
      have h3 := Frg.add_length (cont l k).b (Dat.tl (gn l k).data)
      have h4 := Frg.add_flat (cont l k).b (Dat.tl (gn l k).data)
      have h5 := Dat.tl_length (gn l k).data
      have e1 : bw l k = 135 * ((gn l k).data.length / 128) := rfl
      have e2 : tw l k = (gn l k).data.length % 128 := rfl
      exact ⟨by rw [sm]; simp only []; omega, by simp only []; omega, by simp only []; omega, by rw [sm]; simp only []; omega, Frg.ok_add h.ok _, by simp only [List.length_append, List.length_cons, List.length_nil]; omega⟩
theorem plc_len (B : Frg.Bl) (hk : Frg.Ok B) (s : List Int) : ∀ k, k ≤ B.length → (plc B s k).1.length ≤ s.length + 135 * k ∧ (plc B s k).2.length = k
  | 0, _ => ⟨Nat.le_refl _, rfl⟩
  | k + 1, h => by
    have h1 := plc_len B hk s k (by omega)
    have e : B.getD k [] = B[k] := by simp [show k < B.length by omega]
    have h2 := (put_length (T := ent) (b := B.getD k []) (by rw [e]; exact (hk _ (List.getElem_mem _)).2)).2.2
    rw [plc]
    simp only [List.length_append, List.length_cons, List.length_nil]
    omega
end Bld
/-- Contents that are being laid down, since the world w0: the two writers and the map, and what they own. -/
structure CJ (w0 w : World) (tb p q cb fb : Nat) (od og : Nat → Prop) (C : Cs) : Prop where
  bel : Below w0.heap.size w0 w
  wd : WrD w p od tb 64 C.s
  pk : PkP w q og C.b
  mf : MpF w fb C.m
  cc : w.heap[cb]? = some (.cells #[.slice none 0 0, .slice none 0 0, .map (some fb)] 54 (0, 0))
  dd : ∀ k, od k → w0.heap.size ≤ k ∧ ¬ og k ∧ k ≠ fb ∧ k ≠ cb
  dg : ∀ k, og k → w0.heap.size ≤ k ∧ k ≠ fb ∧ k ≠ cb
  lf : w0.heap.size ≤ fb
  lc : w0.heap.size ≤ cb
section
variable {w0 w w' : World} {tb p q cb fb : Nat} {od og od' og' : Nat → Prop} {C : Cs}
theorem CJ.below (h : CJ w0 w tb p q cb fb od og C) (hb : Below w.heap.size w w') : CJ w0 w' tb p q cb fb od og C :=
  ⟨h.bel.trans (hb.mono h.bel.size), h.wd.below hb, h.pk.below hb, h.mf.same (hb.block _ h.mf.lt), (hb.block _ (heap_lt h.cc)).trans h.cc, h.dd, h.dg, h.lf, h.lc⟩
theorem CJ.addD (h : CJ w0 w tb p q cb fb od og C) {s : Dat.Ws} (hw : WrD w' p od' tb 64 s) (hf : Fr od w w') (hg : Gr od od' w) : CJ w0 w' tb p q cb fb od' og { C with s := s } :=
  ⟨h.bel.trans (hf.below _ h.bel.size (fun k hk => (h.dd k hk).1)), hw, h.pk.fr hf (fun k hk hd => (h.dd k hd).2.1 hk), h.mf.same (hf.block _ h.mf.lt (fun hd => (h.dd _ hd).2.2.1 rfl)), (hf.block _ (heap_lt h.cc) (fun hd => (h.dd _ hd).2.2.2 rfl)).trans h.cc,
    fun k hk => by
      rcases hg k hk with hk | hk
      · exact h.dd k hk
      · exact ⟨Nat.le_trans h.bel.size hk, fun ho => by have := h.pk.olt k ho; omega, fun e => by have := h.mf.lt; omega, fun e => by have := heap_lt h.cc; omega⟩, h.dg, h.lf, h.lc⟩
theorem CJ.addG (h : CJ w0 w tb p q cb fb od og C) {b : Frg.Bl} (hw : PkP w' q og' b) (hf : Fr og w w') (hg : Gr og og' w) : CJ w0 w' tb p q cb fb od og' { C with b := b } :=
  ⟨h.bel.trans (hf.below _ h.bel.size (fun k hk => (h.dg k hk).1)), h.wd.fr hf (fun k hk hd => (h.dd k hk).2.1 hd), hw, h.mf.same (hf.block _ h.mf.lt (fun hd => (h.dg _ hd).2.1 rfl)), (hf.block _ (heap_lt h.cc) (fun hd => (h.dg _ hd).2.2 rfl)).trans h.cc,
    fun k hk => ⟨(h.dd k hk).1, fun ho => by
      rcases hg k ho with ho | ho
      · exact (h.dd k hk).2.1 ho
      · have := h.wd.olt k hk; omega, (h.dd k hk).2.2⟩, fun k hk => by
      rcases hg k hk with hk | hk
      · exact h.dg k hk
      · exact ⟨Nat.le_trans h.bel.size hk, fun e => by have := h.mf.lt; omega, fun e => by have := heap_lt h.cc; omega⟩, h.lf, h.lc⟩
theorem CJ.addM (h : CJ w0 w tb p q cb fb od og C) {M : Fm} (hm : MpF w' fb M) (hg : w.grownBy w' (some fb)) : CJ w0 w' tb p q cb fb od og { C with m := M } := by
  have hf : Fr (One fb) w w' := Fr.of_grown hg (fun k hk => by injection hk with hk; exact hk.symm)
  exact ⟨h.bel.trans (hf.below _ h.bel.size (fun k (hk : k = fb) => by rw [hk]; exact h.lf)), h.wd.fr hf (fun k hk hd => (h.dd k hk).2.2.1 hd), h.pk.fr hf (fun k hk hd => (h.dg k hk).2.1 hd), hm, (hf.block _ (heap_lt h.cc) (fun hd => h.mf.ne h.cc hd)).trans h.cc, h.dd, h.dg, h.lf, h.lc⟩
end
/-- A number is appended to a row of the call's own, in a region that draws. -/
theorem step_append_int (w : World) {ops : Array Oper} {o : Oper} {a : Act} {K : Act → World → Prop} {Q : Exit → Act → World → Prop} {E : Prop} (hgd : o.guard = none) (s x : Operand)
    (ho : o.op = .call { callee := .builtin .append, args := #[s, x], argTypes := #[31, 31] })
    (base : Nat) (vo : Option Addr) (n vc : Nat) (l : List Int) (hs : a.eval s = .slice vo n vc) (hown : w.ownsRow base 3 1 (.slice vo n vc) n (zv l))
    (gb : Nat) (t : Int) (hx : a.eval x = .slice (some ⟨gb, 0, none⟩) 1 1) (hp : w.cell? ⟨gb, 0, none⟩ = some (.int .i64 t)) (hbd : n ≤ 100000000) (hbase : base ≤ w.heap.size)
    (h : ∀ g cap w', w'.ownsRow base 3 1 (.slice (some ⟨g, 0, none⟩) (n + 1) cap) (n + 1) (zv (l ++ [t])) → w.grownBy w' (Value.slice vo n vc).ownBlock → ((Value.slice vo n vc).ownBlock = some g ∨ g = w.heap.size) → g < w'.heap.size → K (a.put o.dst (.slice (some ⟨g, 0, none⟩) (n + 1) cap)) w') :
    if Region.wanted o (yielded ops a.tmps) = true then Oper.wp Tryz.prog o a w K Q else E := by
  obtain ⟨i0, hi, hz0, hz1, hz2⟩ := info_parts infoNum
  refine step_append_lies (P := Tryz.prog) (w := w) hgd s x 31 ho base 3 i0 (.int .i64 0) 1 8 Tryz.underlying31 hi hz0 hz1 hz2 rfl (by decide) (.slice vo n vc) n (zv l) hs hown ⟨gb, 0, none⟩ 1 1 [.int .i64 t] hx (by simp) ?_ (by simp; rfl) (by omega) (by unfold maxLen; omega) (by omega) hbase w.heap.size rfl ?_
  · intro j u hj
    match j, hj with
    | 0, hj => simp at hj; subst hj; simpa [Addr.add] using hp
  · intro g cap w' h1 h2 h3 h4
    exact h g cap w' (by rw [zv_append]; exact h1) h2 h3 h4
/-- The frames of tails that are being laid down, since the world w4. -/
structure CK (wa w4 : World) (o4 : Nat → Prop) (w : World) (tb p cb fb : Nat) (od : Nat → Prop) (C : Cs) (k : Nat) (po : Option Addr) (pc : Nat) : Prop where
  bel : Below wa.heap.size wa w
  wd : WrD w p od tb 64 ((plc C.b C.s.1 k).1, C.s.2)
  mf : MpF w fb C.m
  cc : w.heap[cb]? = some (.cells #[.slice none 0 0, .slice po k pc, .map (some fb)] 54 (0, 0))
  ow : w.ownsRow w4.heap.size 3 1 (.slice po k pc) k (zv (plc C.b C.s.1 k).2)
  no : ∀ g, (Value.slice po k pc).ownBlock = some g → ¬ od g
  fr : Fr (fun j => o4 j ∨ j = cb) w4 w
  gr : Gr o4 od w4
  dd : ∀ k, od k → wa.heap.size ≤ k ∧ k ≠ fb ∧ k ≠ cb
  lc : wa.heap.size ≤ cb
  l4 : wa.heap.size ≤ w4.heap.size ∧ fb < w4.heap.size ∧ cb < w4.heap.size
section
variable {wa w4 w w' : World} {o4 od od' : Nat → Prop} {tb p cb fb k pc : Nat} {po : Option Addr} {C : Cs}
theorem CK.below (h : CK wa w4 o4 w tb p cb fb od C k po pc) (hb : Below w.heap.size w w') : CK wa w4 o4 w' tb p cb fb od C k po pc :=
  ⟨h.bel.trans (hb.mono h.bel.size), h.wd.below hb, h.mf.same (hb.block _ h.mf.lt), (hb.block _ (heap_lt h.cc)).trans h.cc, owns_below h.ow hb, h.no, h.fr.then (Fr.of_below hb), h.gr, h.dd, h.lc, h.l4⟩
/-- A frame is laid down, its place appended and stored. -/
theorem CK.step {w5 w6 : World} {g cap A : Nat} {o : Obj} (h : CK wa w4 o4 w tb p cb fb od C k po pc) (hA : A = 64 + (plc C.b C.s.1 k).1.length) (hw : WrD w5 p od' tb 64 ((plc C.b C.s.1 k).1 ++ put ent (C.b.getD k []), C.s.2)) (hf : Fr od w w5) (hg : Gr od od' w)
    (h6 : w6.ownsRow w4.heap.size 3 1 (.slice (some ⟨g, 0, none⟩) (k + 1) cap) (k + 1) (zv ((plc C.b C.s.1 k).2 ++ [(A : Int)]))) (hg6 : (w5.alloc o).grownBy w6 (Value.slice po k pc).ownBlock) (hl : (Value.slice po k pc).ownBlock = some g ∨ g = (w5.alloc o).heap.size) :
    w6.heap[cb]? = some (.cells #[.slice none 0 0, .slice po k pc, .map (some fb)] 54 (0, 0)) ∧ CK wa w4 o4 (w6.setCell ⟨cb, 1, none⟩ (.slice (some ⟨g, 0, none⟩) (k + 1) cap)) tb p cb fb od' C (k + 1) (some ⟨g, 0, none⟩) cap := by
  have hb5 : Below w5.heap.size w5 (w5.alloc o) := (Below.refl _ w5).alloc (Nat.le_refl _) o
  have f5 : Fr od w (w5.alloc o) := hf.then (Fr.of_below hb5)
  have hfg : Fr (fun i => (Value.slice po k pc).ownBlock = some i) (w5.alloc o) w6 := Fr.of_grown hg6 (fun i hi => hi)
  have hpl : ∀ i, (Value.slice po k pc).ownBlock = some i → w4.heap.size ≤ i := fun i hi => (h.ow.lt i hi).1
  have hod' : ∀ i, (Value.slice po k pc).ownBlock = some i → ¬ od' i := fun i hi ho => by
    rcases hg i ho with h1 | h1
    · exact h.no i hi h1
    · have := (h.ow.lt i hi).2; omega
  have hcl := heap_lt h.cc
  have hfl := h.mf.lt
  have hl4 := h.l4
  have c5 : (w5.alloc o).heap[cb]? = _ := (f5.block _ hcl (fun ho => (h.dd _ ho).2.2 rfl)).trans h.cc
  have m5 : MpF (w5.alloc o) fb C.m := h.mf.same (f5.block _ hfl (fun ho => (h.dd _ ho).2.1 rfl))
  have c6 : w6.heap[cb]? = _ := (hfg.block _ (heap_lt c5) (fun hi => by have := hpl _ hi; omega)).trans c5
  have m6 : MpF w6 fb C.m := m5.same (hfg.block _ m5.lt (fun hi => by have := hpl _ hi; omega))
  have wd6 : WrD w6 p od' tb 64 ((plc C.b C.s.1 k).1 ++ put ent (C.b.getD k []), C.s.2) := (hw.below hb5).fr hfg (fun i ho hi => hod' i hi ho)
  have fs : Fr (One cb) w6 (w6.setCell ⟨cb, 1, none⟩ (.slice (some ⟨g, 0, none⟩) (k + 1) cap)) := (Fr.refl (One cb) _).set (p := ⟨cb, 1, none⟩) _ (fun _ => rfl)
  have hodc : ∀ i, od' i → wa.heap.size ≤ i ∧ i ≠ fb ∧ i ≠ cb := fun i ho => by
    rcases hg i ho with h1 | h1
    · exact h.dd i h1
    · have := h.bel.size; exact ⟨by omega, by omega, by omega⟩
  have hgn : g ≠ cb ∧ ¬ od' g ∧ w4.heap.size ≤ g := by
    rcases hl with hl | hl
    · have := hpl _ hl; exact ⟨by omega, hod' g hl, this⟩
    · have h1 := f5.size; have h2 := hw.olt; have h3 := hb5.size; have h4 := h.fr.size
      exact ⟨by have := heap_lt c5; omega, fun ho => by have := h2 g ho; omega, by omega⟩
  refine ⟨c6, ?_⟩
  have b6 : Below wa.heap.size wa w6 := (h.bel.trans (f5.below _ h.bel.size (fun i hi => (h.dd i hi).1))).trans (hfg.below _ (Nat.le_trans h.bel.size f5.size) (fun i hi => by have := hpl i hi; omega))
  refine ⟨b6.trans (fs.below _ b6.size (fun i (hi : i = cb) => by rw [hi]; exact h.lc)), wd6.fr fs (fun i ho (hi : i = cb) => (hodc i ho).2.2 hi), m6.same (fs.block _ m6.lt (fun (hi : fb = cb) => m6.ne c6 hi.symm)), ?_, ?_, ?_, ?_, ?_, hodc, h.lc, hl4⟩
  · exact heap_setCell_self c6 _
  · have := owns_fr h6 fs (fun i hi (hc : i = cb) => by simp [Value.ownBlock] at hi; exact hgn.1 (hi.trans hc))
    rw [hA] at this
    exact this
  · intro i hi
    simp [Value.ownBlock] at hi
    rw [← hi]; exact hgn.2.1
  · have f1 : Fr (fun j => o4 j ∨ j = cb) w4 (w5.alloc o) := h.fr.trans f5 (fun i hi ho => by
      rcases h.gr i ho with h1 | h1
      · exact .inl h1
      · omega)
    have f2 : Fr (fun j => o4 j ∨ j = cb) w4 w6 := f1.trans hfg (fun i hi ho => by have := hpl i ho; omega)
    exact f2.trans fs (fun i _ hi => .inr hi)
  · exact h.gr.trans hg h.fr.size
end
/-- What layContents answers. -/
def CAns (l : List Nod) (w : World) (e : Ending) (w' : World) : Prop :=
  ∃ bo bc po pc fb, e = .returned (.agg #[.slice bo (plc (cont l l.length).b (cont l l.length).s.1 (cont l l.length).b.length).1.length bc, .slice po (cont l l.length).b.length pc, .map (some fb)]) ∧
    Bs w' bo (plc (cont l l.length).b (cont l l.length).s.1 (cont l l.length).b.length).1.length (plc (cont l l.length).b (cont l l.length).s.1 (cont l l.length).b.length).1 ∧ (bo = none → bc = 0) ∧
    Zs w' po (cont l l.length).b.length (plc (cont l l.length).b (cont l l.length).s.1 (cont l l.length).b.length).2 ∧ MpF w' fb (cont l l.length).m ∧ Below w.heap.size w w'
set_option maxRecDepth 100000 in
set_option maxHeartbeats 8000000 in
theorem cont_any (a : Option Addr) (n c tb : Nat) (L : List (Nv × Nod)) (w : World) (hN : Ns w a n L) (hT : Tb w tb ent) (htb : tb < w.heap.size) (hn : n ≤ 40) (hd : ∀ p ∈ L, p.2.data.length ≤ 4096) (hin : ∀ p ∈ L, (Lit.int .i64 p.2.ino).wf = true) :
    Calls Tryz.prog 19 #[.pointer (some ⟨tb, 0, none⟩), .slice a n c] w (CAns (nds L) w) := by
  have HN := hide hN
  have HT := hide hT
  have HD := hide hd
  have HI := hide hin
  have HNw := hide (fun (w' : World) => dNew_any tb 64 w')
  have HFw := hide fNew_any
  have mkm : ∀ w' : World, (Instr.makeMap 52 none).run Tryz.prog w' = .ok (.map (some w'.heap.size)) (w'.alloc (.map #[] 0)) := fun w' => by simp [Instr.makeMap, Result.andThen]
  have hl := hN.1
  clear hN hT hd hin
  go_enter Tryz.func19, Tryz.ntmps19
  go_wp2_with fail
  obtain ⟨wa, hwa⟩ : ∃ wa, wa = w.alloc (.cells #[.slice none 0 0, .slice none 0 0, .map none] 54) := ⟨_, rfl⟩
  have hba : Below w.heap.size w wa := by rw [hwa]; exact (Below.refl _ w).alloc (Nat.le_refl _) _
  have hpa : wa.heap[w.heap.size]? = some (.cells #[.slice none 0 0, .slice none 0 0, .map none] 54 (0, 0)) := by rw [hwa]; exact heap_alloc_new _ _
  rw [← hwa]
  clear hwa
  refine (HNw.out wa).mono ?_
  rintro r w1 ⟨rfl, hD1, hb1⟩
  obtain ⟨p, hp⟩ : ∃ p, p = wa.heap.size + 1 := ⟨_, rfl⟩
  rw [← hp] at hD1 ⊢
  have HPe := hide hp
  clear hp
  have HD1 := hide hD1
  have HB1 := hide hb1
  have HPA := hide hpa
  have HBA := hide hba
  clear hD1 hb1 HNw hpa hba
  go_wp2_with fail
  refine (HFw.out w1).mono ?_
  rintro r w2 ⟨rfl, hP2, hb2, hs2⟩
  obtain ⟨q, hq⟩ : ∃ q, q = w1.heap.size := ⟨_, rfl⟩
  rw [← hq] at hP2 ⊢
  have HQe := hide hq
  clear hq
  have HP2 := hide hP2
  have HB2 := hide hb2
  clear hP2 hb2 hs2 HFw
  go_wp2_with fail
  obtain ⟨w3, hw3⟩ : ∃ w3, w3 = (w2.alloc (.map #[] 0)).alloc (.cells #[.slice none 0 0, .slice none 0 0, .map (some w2.heap.size)] 54) := ⟨_, rfl⟩
  rw [← hw3]
  obtain ⟨fb, hfb⟩ : ∃ fb, fb = w2.heap.size := ⟨_, rfl⟩
  rw [← hfb]
  obtain ⟨cb, hcb⟩ : ∃ cb, cb = fb + 1 := ⟨_, rfl⟩
  rw [← hcb]
  have HJ0 : Hid (CJ wa w3 tb p q cb fb (fun k => wa.heap.size ≤ k ∧ k < wa.heap.size + 2) (One q) cs0) := by
    obtain ⟨t1, t2, t3⟩ := two_boxes w2 (.map #[] 0) (.cells #[.slice none 0 0, .slice none 0 0, .map (some w2.heap.size)] 54)
    rw [← hw3] at t1 t2 t3
    have hp := HPe.out
    have hq := HQe.out
    have z1 := HB1.out.size
    have z2 := HB2.out.size
    have z3 := HD1.out.olt (wa.heap.size + 1) ⟨by omega, by omega⟩
    have b13 : Below w1.heap.size w1 w3 := HB2.out.trans (t1.mono z2)
    have g1 : ∀ k, (wa.heap.size ≤ k ∧ k < wa.heap.size + 2) → wa.heap.size ≤ k ∧ ¬ One q k ∧ k ≠ fb ∧ k ≠ cb := fun k hk => by
      refine ⟨hk.1, fun (e : k = q) => ?_, ?_, ?_⟩ <;> omega
    have g2 : ∀ k, One q k → wa.heap.size ≤ k ∧ k ≠ fb ∧ k ≠ cb := fun k (hk : k = q) => by
      have := HP2.out.olt q rfl
      refine ⟨?_, ?_, ?_⟩ <;> omega
    refine ⟨HB1.out.trans (b13.mono z1), HD1.out.below b13, HP2.out.below t1, ?_, by rw [hcb, hfb]; exact t3, g1, g2, by omega, by omega⟩
    have := (MpF.new w2).same (w' := w3) (b := w2.heap.size) (by rw [t2]; exact (heap_alloc_new w2 _).symm)
    rw [hfb]; exact this
  clear hw3 hfb hcb HD1 HP2 HB1 HB2 HPe HQe
  go_loopw [9, 10, 11, 12, 13, 14, 15, 25] (fun _ _ _ _ _ _ _ r25 wr => ∃ (i : Nat) (od og : Nat → Prop), r25 = .int .i64 i ∧ i ≤ n ∧ CJ wa wr tb p q cb fb od og (cont (nds L) i)) (fun _ _ _ _ _ _ _ r25 _ => n - (intOf r25).toNat)
  case atStart => exact ⟨0, _, _, rfl, Nat.zero_le _, HJ0.out⟩
  case round =>
    clear HJ0
    obtain ⟨i, od, og, rfl, hin, hJ⟩ := hrel
    by_cases hlt : i < n
    · have hdl : decide ((i : Int) < n) = true := by simpa using hlt
      have hiL : i < L.length := by omega
      have hg := gn_nds L i hiL
      have hbW : Below w.heap.size w wr := HBA.out.trans (hJ.bel.mono HBA.out.size)
      have hNs := HN.out.below hbW
      have hRp := hNs.rep i hlt
      obtain ⟨v, hv⟩ : ∃ v, v = (gl L i).1 := ⟨_, rfl⟩
      obtain ⟨nb, noff, hxa, hnb, hcells⟩ := hNs.at (by omega)
      have hNA := hcells i hlt
      have hmem := gl_mem L i hiL
      have hdlen := HD.out _ hmem
      have hwf := HI.out _ hmem
      rw [← hg] at hdlen hwf
      rw [← hv, ← hg] at hRp
      rw [← hv] at hNA
      obtain ⟨d0, d1, d2, d3, d4, d5, d6, d7, d8, d9⟩ := hNA
      subst hxa
      have hCI := cont_inv (nds L) i
      have hbw : sm (bw (nds L)) i ≤ 4320 * i := sm_const i (fun k hk => by
        have := HD.out _ (gl_mem L k (by omega))
        unfold bw; rw [gn_nds L k (by omega)]; omega)
      have htw : sm (tw (nds L)) i ≤ 127 * i := sm_const i (fun k hk => by unfold tw; omega)
      have HC1 : Hid (cont (nds L) (i + 1) = cstep (cont (nds L) i) (gn (nds L) i)) := rfl
      obtain ⟨C, hC⟩ : ∃ C, C = cont (nds L) i := ⟨_, rfl⟩
      rw [← hC] at hJ hCI HC1
      clear hC
      obtain ⟨wB, hwB⟩ : ∃ wB, wB = wr.alloc (.cells v.cells 37) := ⟨_, rfl⟩
      have hbB : Below wr.heap.size wr wB := by rw [hwB]; exact (Below.refl _ wr).alloc (Nat.le_refl _) _
      have hp9 : wB.heap[wr.heap.size]? = some (.cells v.cells 37 (0, 0)) := by rw [hwB]; exact heap_alloc_new _ _
      have hJB := hJ.below hbB
      rw [hRp.ino] at hwf
      have hlk := hJB.mf.look hwf
      have q2 : wB.cell? ⟨cb, 2, none⟩ = some (.map (some fb)) := by simp [World.cell?, hJB.cc]
      have q1 : wB.cell? ⟨wr.heap.size, 1, none⟩ = some (.int .i64 v.ino) := by simp [World.cell?, hp9, Nv.cells]
      have q3 : wB.cell? ⟨wr.heap.size, 2, none⟩ = some (.int .i64 v.kind) := by simp [World.cell?, hp9, Nv.cells]
      have hw1 : IntKind.i64.wrap ((i : Int) + 1) = (i : Int) + 1 := by rw [IntKind.wrap_i64]; omega
      have eB : wr.alloc (Obj.cells #[.slice v.na v.nn v.nc, .int .i64 v.ino, .int .i64 v.kind, .int .i64 v.mode, .int .i64 v.uid, .int .i64 v.gid, .slice v.da v.dn v.dc, .string v.tg, .slice v.xa v.xn v.xc, .bool v.op] 37) = wB := by rw [hwB]; rfl
      cases hlo : lkF C.m v.ino with
      | some fl =>
        rw [hlo] at hlk
        unfold flv at hlk
        have HX : Hid (CJ wa wB tb p q cb fb od og (cont (nds L) (i + 1))) := by
          have e : cstep C (gn (nds L) i) = C := by unfold cstep; rw [if_pos (.inr (by rw [hRp.ino, hlo]; rfl))]
          show CJ _ _ _ _ _ _ _ _ _ _
          rw [HC1.out, e]; exact hJB
        have HEB := hide eB
        clear hJ hJB hCI hRp hNs hcells hbW hmem hdlen hwf hv hg hwB eB
        go_upto_region 6 with fail
        rw [HEB.out]
        clear d0 d1 d2 d3 d4 d5 d6 d7 d8 d9
        go_wp2
        refine ⟨⟨i + 1, od, og, by go_num, by omega, ?_⟩, by simp [intOf]; omega⟩
        exact HX.out.below ((Below.refl _ wB).alloc (Nat.le_refl _) _)
      | none =>
        rw [hlo] at hlk
        unfold flv at hlk
        by_cases hk2 : v.kind = 2
        · have ek : (v.kind == 2) = true := by simpa using hk2
          have e : cstep C (gn (nds L) i) = ⟨Dat.addS 64 C.s (Dat.run ent (gn (nds L) i).data), (Frg.add C.b (Dat.tl (gn (nds L) i).data)).1, C.m ++ [(v.ino, ⟨Dat.addA 64 C.s (Dat.run ent (gn (nds L) i).data), (Frg.add C.b (Dat.tl (gn (nds L) i).data)).2.1, (Frg.add C.b (Dat.tl (gn (nds L) i).data)).2.2⟩)]⟩ := by
            unfold cstep
            rw [if_neg (by rw [hRp.ino, hlo, hRp.kind, hk2]; simp), hRp.ino]
          rw [e] at HC1
          obtain ⟨wC, hwC⟩ : ∃ wC, wC = wB.alloc (.cells #[.int .i64 0, .int .i64 0, .int .i64 0] 110) := ⟨_, rfl⟩
          have hbC : Below wB.heap.size wB wC := by rw [hwC]; exact (Below.refl _ wB).alloc (Nat.le_refl _) _
          have hJC := hJB.below hbC
          have hbWC : Below w.heap.size w wC := HBA.out.trans (hJC.bel.mono HBA.out.size)
          have hdc := hRp.dc
          obtain ⟨z, hz⟩ : ∃ z, z = (gn (nds L) i).data := ⟨_, rfl⟩
          have hDat : Bs wC v.da v.dn z := by rw [hz]; exact (hRp.data.below hbB).below hbC
          have hdn := hDat.1
          rw [← hz] at HC1 hdlen
          have HAd := hide (dAdd_any p tb 64 v.dn v.dc od v.da ent C.s z wC hJC.wd (HT.out.below hbWC htb) (Nat.lt_of_lt_of_le htb hbWC.size) small_ent hDat hRp.dc hRp.dcm hRp.dnil (by omega) (by have := hCI.s1; omega) (by have := hCI.s2; omega) (by omega))
          unfold DAdds at HAd
          have hp9C := (hbC.block _ (heap_lt hp9)).trans hp9
          have q6 : wC.cell? ⟨wr.heap.size, 6, none⟩ = some (.slice v.da v.dn v.dc) := by simp [World.cell?, hp9C, Nv.cells]
          have q3C : wC.cell? ⟨wr.heap.size, 2, none⟩ = some (.int .i64 v.kind) := by simp [World.cell?, hp9C, Nv.cells]
          have HP9 := hide hp9C
          have HJC := hide hJC
          have HCI := hide hCI
          have HEB := hide eB
          have HEC : Hid (wB.alloc (.cells #[.int .i64 0, .int .i64 0, .int .i64 0] 110) = wC) := hwC.symm
          have hltr : wr.heap.size < wC.heap.size := heap_lt hp9C
          have HNd : Hid (¬ od wr.heap.size ∧ ¬ og wr.heap.size ∧ wr.heap.size ≠ fb) := ⟨fun ho => by have := hJ.wd.olt _ ho; omega, fun ho => by have := hJ.pk.olt _ ho; omega, fun e => by have := hJ.mf.lt; omega⟩
          clear hJ hJB hJC hCI hRp hNs hcells hbW hbWC hmem hv hg hwB hwC eB hDat hz hk2 hp9 hp9C hbC hbB e
          go_upto_region 6 with fail
          rw [HEB.out]
          clear d0 d1 d2 d3 d4 d5 d6 d7 d8 d9
          go_upto_region 7 with fail
          rw [HEC.out]
          clear q1 q2 q3 hlk
          go_wp2_with fail
          refine HAd.out.mono ?_
          rintro r w4 ⟨ao, c4, rfl, hB4, ⟨hn4, hnil4⟩, od4, hW4, hF4, hG4, hno4⟩
          have hJ4 := HJC.out.addD hW4 hF4 hG4
          have hp94 := (hF4.block _ hltr HNd.out.1).trans HP9.out
          obtain ⟨tz, htz⟩ : ∃ tz, tz = Dat.tl z := ⟨_, rfl⟩
          rw [← htz] at hB4 hno4 HC1 ⊢
          have hog : ∀ a, ao = some a → 0 < tz.length → ¬ og a.block := fun a ha _ ho => by have := hn4 a ha; have := HJC.out.pk.olt _ ho; omega
          have htl4 : tz.length ≤ 128 := by rw [htz, Dat.tl_length]; omega
          have HFa := hide (fAdd_any q tz.length c4 og ao C.b tz w4 hJ4.pk HCI.out.ok hB4 hnil4 hog (by have := HCI.out.b; omega) (by have := HCI.out.fl; omega) (by omega))
          unfold FAdds at HFa
          have HJ4 := hide hJ4
          have HP94 := hide hp94
          have hltr4 := heap_lt hp94
          obtain ⟨A4, hA4⟩ : ∃ A4, A4 = Dat.addA 64 C.s (Dat.run ent z) := ⟨_, rfl⟩
          obtain ⟨F4, hF4e⟩ : ∃ F4, F4 = Frg.add C.b tz := ⟨_, rfl⟩
          rw [← hA4, ← hF4e] at HC1
          rw [← hF4e] at HFa
          rw [← hA4]
          generalize Dat.addS 64 C.s (Dat.run ent z) = S4 at *
          generalize tz.length = tl4 at *
          clear hB4 hn4 hnil4 hW4 hF4 hG4 hno4 hog hJ4 hp94 htz HAd HJC HP9 hA4 hF4e q6 q3C
          go_wp2_with fail
          refine HFa.out.mono ?_
          rintro r w5 ⟨rfl, og5, hP5, hF5, hG5⟩
          have hJ5 := HJ4.out.addG hP5 hF5 hG5
          have hp95 := (hF5.block _ hltr4 HNd.out.2.1).trans HP94.out
          have q2 : w5.cell? ⟨cb, 2, none⟩ = some (.map (some fb)) := by simp [World.cell?, hJ5.cc]
          have q1 : w5.cell? ⟨wr.heap.size, 1, none⟩ = some (.int .i64 v.ino) := by simp [World.cell?, hp95, Nv.cells]
          obtain ⟨w6, k1, k2, k3⟩ := hJ5.mf.store (x := v.ino) hwf (by show C.m.length ≤ _; have := HCI.out.m; omega) hlo ⟨A4, F4.2.1, F4.2.2⟩
          unfold flv at k1
          have HX : Hid (CJ wa w6 tb p q cb fb od4 og5 (cont (nds L) (i + 1))) := by
            show CJ _ _ _ _ _ _ _ _ _ _
            rw [HC1.out]
            exact hJ5.addM k2 k3
          clear hJ5 hp95 hP5 hF5 hG5 HFa k2 k3 HJ4 HP94
          go_wp2
          exact ⟨⟨i + 1, od4, og5, by go_num, by omega, HX.out⟩, by simp [intOf]; omega⟩
        · have ek : (v.kind == 2) = false := by simpa using hk2
          have HX : Hid (CJ wa wB tb p q cb fb od og (cont (nds L) (i + 1))) := by
            have e : cstep C (gn (nds L) i) = C := by unfold cstep; rw [if_pos (.inl (by rw [hRp.kind]; exact hk2))]
            show CJ _ _ _ _ _ _ _ _ _ _
            rw [HC1.out, e]; exact hJB
          have HEB := hide eB
          have q3C : ∀ o, (wB.alloc o).cell? ⟨wr.heap.size, 2, none⟩ = some (.int .i64 v.kind) := fun o => (((Below.refl _ wB).alloc (Nat.le_refl _) o).cell (p := ⟨wr.heap.size, 2, none⟩) (heap_lt hp9)).trans q3
          clear hJ hJB hCI hRp hNs hcells hbW hmem hdlen hwf hv hg hwB eB hk2
          go_upto_region 6 with fail
          rw [HEB.out]
          clear d0 d1 d2 d3 d4 d5 d6 d7 d8 d9
          go_wp2
          refine ⟨⟨i + 1, od, og, by go_num, by omega, ?_⟩, by simp [intOf]; omega⟩
          exact HX.out.below ((Below.refl _ wB).alloc (Nat.le_refl _) _)
    · obtain rfl : i = n := by omega
      have hdl : decide ((i : Int) < (i : Int)) = false := by simp
      have hCI := cont_inv (nds L) i
      have htw : sm (tw (nds L)) i ≤ 127 * i := sm_const i (fun k hk => by unfold tw; omega)
      have hbw : sm (bw (nds L)) i ≤ 4320 * i := sm_const i (fun k hk => by
        have := HD.out _ (gl_mem L k (by omega))
        unfold bw; rw [gn_nds L k (by omega)]; omega)
      have hil : (nds L).length = i := by rw [nds_length]; exact hl
      have HAns : Hid (∀ e w', (∃ bo bc po pc fb, e = .returned (.agg #[.slice bo (plc (cont (nds L) i).b (cont (nds L) i).s.1 (cont (nds L) i).b.length).1.length bc, .slice po (cont (nds L) i).b.length pc, .map (some fb)]) ∧
          Bs w' bo (plc (cont (nds L) i).b (cont (nds L) i).s.1 (cont (nds L) i).b.length).1.length (plc (cont (nds L) i).b (cont (nds L) i).s.1 (cont (nds L) i).b.length).1 ∧ (bo = none → bc = 0) ∧
          Zs w' po (cont (nds L) i).b.length (plc (cont (nds L) i).b (cont (nds L) i).s.1 (cont (nds L) i).b.length).2 ∧ MpF w' fb (cont (nds L) i).m ∧ Below w.heap.size w w') → CAns (nds L) w e w') := fun e w' h => by unfold CAns; rw [hil]; exact h
      obtain ⟨C, hC⟩ : ∃ C, C = cont (nds L) i := ⟨_, rfl⟩
      rw [← hC] at hJ hCI HAns
      have hcl : C.b.length ≤ 40 := by have := hCI.b; omega
      have HBk := hide (fBlocks_any q og C.b wr hJ.pk hCI.ok (by omega) (by have := hCI.fl; omega))
      have HJ := hide hJ
      have HCI := hide hCI
      have hsl : C.s.1.length ≤ 200000 := by have := hCI.s1; omega
      clear hC hJ hCI hil htw hbw HN HD HI
      go_wp2_with fail
      refine HBk.out.mono ?_
      rintro r w4 ⟨ao, rfl, hB4⟩
      have hJ4 := HJ.out.below hB4.bel
      have HK0 : Hid (CK wa w4 od w4 tb p cb fb od C 0 none 0) := ⟨hJ4.bel, hJ4.wd, hJ4.mf, hJ4.cc, World.ownsRow_nil _ _ _ _, fun g hg => by simp [Value.ownBlock] at hg, Fr.refl _ _, Gr.refl _ _, fun k hk => ⟨(hJ4.dd k hk).1, (hJ4.dd k hk).2.2⟩, hJ4.lc, ⟨hJ4.bel.size, hJ4.mf.lt, heap_lt hJ4.cc⟩⟩
      have HE : Hid (∀ j (h : j < C.b.length), ∃ gb A, ao = some ⟨gb, 0, none⟩ ∧ gb < w4.heap.size ∧ ¬ (od gb ∨ gb = cb) ∧ w4.cell? ⟨gb, j, none⟩ = some (.slice (some A) C.b[j].length C.b[j].length) ∧ Bs w4 (some A) C.b[j].length C.b[j] ∧ ¬ (od A.block ∨ A.block = cb)) := fun j h => by
        obtain ⟨gb, A, h1, h2, h3, h4, h5, h6, h7⟩ := hB4.each j h
        have z1 := HJ.out.wd.olt
        have z2 := heap_lt HJ.out.cc
        refine ⟨gb, A, h1, h3, ?_, h4, h5, ?_⟩
        · rintro (ho | ho)
          · have := z1 _ ho; omega
          · omega
        · rintro (ho | ho)
          · have := z1 _ ho; omega
          · omega
      clear hJ4 hB4 HBk HJ
      go_wp2_with fail
      go_loopw [17, 68] (fun _ r68 wr => ∃ (k : Nat) (od' : Nat → Prop) (po : Option Addr) (pc : Nat), r68 = .int .i64 k ∧ k ≤ C.b.length ∧ CK wa w4 od wr tb p cb fb od' C k po pc) (fun _ r68 _ => C.b.length - (intOf r68).toNat)
      case atStart => exact ⟨0, od, none, 0, rfl, Nat.zero_le _, HK0.out⟩
      case round =>
        clear HK0
        obtain ⟨k, od', po, pc, rfl, hkn, hK⟩ := hrel
        by_cases hlt2 : k < C.b.length
        · have hd2 : decide ((k : Int) < ((C.b.length : Nat) : Int)) = true := by simpa using hlt2
          obtain ⟨gb, A, hao, hgl, hgn, hgc, hgB, hAn⟩ := HE.out k hlt2
          subst hao
          have cg : wr.cell? ⟨gb, k, none⟩ = some (.slice (some A) C.b[k].length C.b[k].length) := (hK.fr.cell (q := ⟨gb, k, none⟩) hgl hgn).trans hgc
          have hBk : Bs wr (some A) C.b[k].length C.b[k] := hgB.fr hK.fr (fun a ha _ => by obtain rfl := Option.some.inj ha; exact hAn)
          have hok := HCI.out.ok _ (List.getElem_mem hlt2)
          have hpl := plc_len C.b HCI.out.ok C.s.1 k (by omega)
          have hbW : Below w.heap.size w wr := HBA.out.trans (hK.bel.mono HBA.out.size)
          have hFr := dFrame_any p tb 64 C.b[k].length C.b[k].length od' (some A) ent ((plc C.b C.s.1 k).1, C.s.2) C.b[k] wr.drew (hK.wd.below (drewN_below wr 1)) ((HT.out.below hbW htb).below (drewN_below (B := wr.heap.size) wr 1) (Nat.lt_of_lt_of_le htb hbW.size)) (Nat.lt_of_lt_of_le htb hbW.size) small_ent (show Bs wr.drew _ _ _ from hBk) (Nat.le_refl _) (fun h => by simp at h) (by omega) (by show (plc C.b C.s.1 k).1.length ≤ _; omega) hok.2
          have eg : C.b.getD k [] = C.b[k] := by simp [hlt2]
          rw [← eg] at hFr hBk cg hok
          obtain ⟨Ap, hAp⟩ : ∃ Ap, Ap = 64 + (plc C.b C.s.1 k).1.length := ⟨_, rfl⟩
          have hFr2 : Calls Tryz.prog 53 #[.pointer (some ⟨p, 0, none⟩), .slice (some A) (C.b.getD k []).length (C.b.getD k []).length] wr.drew fun e w' => e = .returned (.int .i64 (Ap : Int)) ∧ ∃ O', WrD w' p O' tb 64 ((plc C.b C.s.1 k).1 ++ put ent (C.b.getD k []), C.s.2) ∧ Fr od' wr.drew w' ∧ Gr od' O' wr.drew := by rw [hAp]; exact hFr
          have HFr := hide hFr2
          have HAp := hide hAp
          have c1 : wr.cell? ⟨cb, 1, none⟩ = some (.slice po k pc) := by simp [World.cell?, hK.cc]
          have HK := hide hK
          have HNc : Hid (¬ od' cb) := fun ho => (hK.dd _ ho).2.2 rfl
          have hcl := heap_lt hK.cc
          have hw1 : IntKind.i64.wrap ((k : Int) + 1) = (k : Int) + 1 := by rw [IntKind.wrap_i64]; omega
          generalize (C.b.getD k []).length = bl at *
          clear hFr hFr2 hAp hK hBk hpl hbW eg hgc hgB hok
          go_wp2_with fail
          go_region_law ((first
            | (go_simp; go_at_call 53; refine HFr.out.mono ?_; rintro e w5 ⟨rfl, od5, k1, k2, k3⟩; have c15 : w5.cell? ⟨cb, 1, none⟩ = some (.slice po k pc) := (k2.cell (q := ⟨cb, 1, none⟩) hcl HNc.out).trans c1; have c15a : ∀ o, (w5.alloc o).cell? ⟨cb, 1, none⟩ = some (.slice po k pc) := fun o => (((Below.refl _ w5).alloc (Nat.le_refl _) o).cell (p := ⟨cb, 1, none⟩) (Nat.lt_of_lt_of_le hcl k2.size)).trans c15; have HO5 : Hid (∀ o, (w5.alloc o).ownsRow w4.heap.size 3 1 (.slice po k pc) k (zv (plc C.b C.s.1 k).2)) := (fun o => owns_below (owns_fr (owns_below HK.out.ow (drewN_below wr 1)) k2 HK.out.no) ((Below.refl _ w5).alloc (Nat.le_refl _) o)); have K1 := hide k1; have K2 := hide k2; have K3 := hide k3; clear k1 k2 k3; dsimp only)
            | (refine step_append_int (w5.alloc (.cells #[.int .i64 (Ap : Int)] 3)) (by rfl) (.tmp 73) (.tmp 77) (by rfl) w4.heap.size po k pc (plc C.b C.s.1 k).2 (by rfl) (HO5.out _) w5.heap.size (Ap : Int) (by rfl) (by simp) (by omega) (Nat.le_trans HK.out.fr.size (Nat.le_trans K2.out.size (by simp))) ?_; intro g6 c6 w6 h1 h2 h3 h4; have HX := hide (HK.out.step HAp.out K1.out K2.out.undrew K3.out h1 h2 h3); have c16 : w6.cell? ⟨cb, 1, none⟩ = some (.slice po k pc) := by { simp [World.cell?, HX.out.1] }; have f16 : w6.frozen? ⟨cb, 1, none⟩ = false := by { simp [World.frozen?, HX.out.1] }; clear h1 h2 h3 h4)))
          all_goals (
            go_wp2
            exact ⟨⟨k + 1, od5, some ⟨g6, 0, none⟩, c6, by go_num, by omega, HX.out.2⟩, by simp [intOf]; omega⟩)
        · obtain rfl : k = C.b.length := by omega
          have hd2 : decide (((C.b.length : Nat) : Int) < ((C.b.length : Nat) : Int)) = false := by simp
          have hpl := plc_len C.b HCI.out.ok C.s.1 C.b.length (Nat.le_refl _)
          have HDn := hide (dDone_any p tb 64 od' ((plc C.b C.s.1 C.b.length).1, C.s.2) wr hK.wd (by show (plc C.b C.s.1 C.b.length).1.length ≤ _; omega))
          have HK := hide hK
          obtain ⟨P, hP⟩ : ∃ P, P = plc C.b C.s.1 C.b.length := ⟨_, rfl⟩
          have HP := hide hP
          rw [← hP] at HDn HAns
          clear HE
          generalize hbl : C.b.length = bl at *
          have HBl := hide hbl
          clear hK hpl hP hbl
          go_wp2_with fail
          refine HDn.out.mono ?_
          rintro r w5 ⟨bo, bc, rfl, hN⟩
          have hK5 := HK.out.below hN.bel
          have c0 : w5.cell? ⟨cb, 0, none⟩ = some (.slice none 0 0) := by simp [World.cell?, hK5.cc]
          have f0 : w5.frozen? ⟨cb, 0, none⟩ = false := by simp [World.frozen?, hK5.cc]
          obtain ⟨w6, hw6⟩ : ∃ w6, w6 = w5.setCell ⟨cb, 0, none⟩ (.slice bo P.1.length bc) := ⟨_, rfl⟩
          have cc6 : w6.heap[cb]? = some (.cells #[.slice bo P.1.length bc, .slice po bl pc, .map (some fb)] 54 (0, 0)) := by rw [hw6]; exact heap_setCell_self hK5.cc _
          have f6 : Fr (One cb) w5 w6 := by rw [hw6]; exact (Fr.refl _ _).set _ (fun _ => rfl)
          have hres : w.heap.size < wa.heap.size := heap_lt HPA.out
          have r6 : w6.heap[w.heap.size]? = some (.cells #[.slice none 0 0, .slice none 0 0, .map none] 54 (0, 0)) := (f6.block _ (Nat.lt_of_lt_of_le hres hK5.bel.size) (fun (e : w.heap.size = cb) => by have := hK5.lc; omega)).trans ((hK5.bel.block _ hres).trans HPA.out)
          have q0 : w6.cell? ⟨cb, 0, none⟩ = some (.slice bo P.1.length bc) := by simp [World.cell?, cc6]
          have q1 : w6.cell? ⟨cb, 1, none⟩ = some (.slice po bl pc) := by simp [World.cell?, cc6]
          have q2 : w6.cell? ⟨cb, 2, none⟩ = some (.map (some fb)) := by simp [World.cell?, cc6]
          have HEx : Hid (w5.setCell ⟨cb, 0, none⟩ (.slice bo P.1.length bc) = w6) := hw6.symm
          have HR6 := hide r6
          have HFin : Hid (∀ w7, Fr (One w.heap.size) w6 w7 → Bs w7 bo P.1.length P.1 ∧ (bo = none → bc = 0) ∧ Zs w7 po bl P.2 ∧ MpF w7 fb C.m ∧ Below w.heap.size w w7) := fun w7 f7 => by
            have hcb : ∀ a, bo = some a → a.block ≠ cb ∧ a.block ≠ w.heap.size := fun a ha => by
              have h1 := (hN.own a ha).1; have h2 := heap_lt HK.out.cc; have h3 := HK.out.bel.size; exact ⟨by omega, by omega⟩
            have hz : Zs w5 po bl P.2 := by have := Zs.of hK5.ow; rw [← HP.out] at this; exact this
            have hz7 : Zs w7 po bl P.2 := by
              by_cases h0 : bl = 0
              · exact ⟨hz.1, .inl h0⟩
              obtain ⟨b, off, e, hb, hc⟩ := hz.at (by omega)
              refine ⟨hz.1, .inr ?_⟩
              have hbn : b ≠ cb ∧ b ≠ w.heap.size := by
                have ho : (Value.slice po bl pc).ownBlock = some b := by rw [e]; rfl
                have h1 := (hK5.ow.lt b ho).1
                have h2 := hK5.l4
                exact ⟨by omega, by omega⟩
              have f67 : w7.heap[b]? = w5.heap[b]? := (f7.block _ (Nat.lt_of_lt_of_le hb f6.size) hbn.2).trans (f6.block _ hb hbn.1)
              exact ⟨b, off, e, by have := f6.size; have := f7.size; omega, fun i hi => (World.cell?_of_block (w := w5) f67).trans (hc i hi)⟩
            have m6 : MpF w6 fb C.m := hK5.mf.same (f6.block _ hK5.mf.lt (fun (e : fb = cb) => hK5.mf.ne hK5.cc e.symm))
            have m7 : MpF w7 fb C.m := m6.same (f7.block _ m6.lt (fun (e : fb = w.heap.size) => m6.ne r6 e.symm))
            refine ⟨(hN.bs.fr f6 (fun a ha _ => (hcb a ha).1)).fr f7 (fun a ha _ => (hcb a ha).2), hN.nil, hz7, m7, ?_⟩
            have b5 : Below w.heap.size w w5 := HBA.out.trans (hK5.bel.mono HBA.out.size)
            have b6 : Below w.heap.size w w6 := b5.trans (f6.below _ b5.size (fun k (hk : k = cb) => by rw [hk]; have := hK5.lc; omega))
            exact b6.trans (f7.below _ b6.size (fun k (hk : k = w.heap.size) => by omega))
          generalize P.1.length = pl at *
          clear hN hK5 hw6 cc6 f6 r6 HDn HK HP HBl
          go_upto_region 18 with fail
          rw [HEx.out]
          clear c0 f0 HEx
          go_wp2_with (refine wpList_store_row rfl _ _ _ rfl w.heap.size #[.slice bo pl bc, .slice po bl pc, .map (some fb)] rfl (by rfl) 54 #[.slice none 0 0, .slice none 0 0, .map none] HR6.out (by kernel_rfl) rfl (by simp [Value.oneCell']) ?_)
          refine bodyPost_ret (results_cell_row rfl _ _ w.heap.size 54 #[.slice bo pl bc, .slice po bl pc, .map (some fb)] (0, 0) _ rfl (setRow_heap _ _ _ _ _ _ HR6.out) Tryz.underlying54 rfl (by kernel_rfl)) rfl ?_
          exact HAns.out _ _ ⟨bo, bc, po, pc, fb, rfl, HFin.out _ (setRow_fr (Fr.refl _ _) _ _ (fun _ => rfl))⟩
end Go.Proofs.YtchcejjoncihkaaGreatDoor

/- Layer 7, on lists alone: Check and Canon of the same nodes in another order, with other Inos. -/
namespace Go.Proofs.YtchcejjoncihkaaGreatDoor
set_option linter.unusedVariables false
open Go.RowKit Go.Maps
open Nam Tre

namespace Tre
theorem wrong_of : ∀ (l : List Nod), (∀ n ∈ l, fv n.names = 0) → wrong l = 0
  | [], _ => rfl
  | a :: r, h => by
    unfold wrong
    rw [if_pos (h a (by simp))]
    exact wrong_of r (fun n hn => h n (by simp [hn]))
theorem isDir_of {l : List Nod} {m : List ByteArray} (hd : (l.map Nod.names).Nodup) {n : Nod} (hn : n ∈ l) (h1 : n.names = m) (h2 : n.kind = 1) : isDir l m = true := by
  unfold isDir
  cases hf : l.find? (fun n => decide (n.names = m)) with
  | none =>
    have := List.find?_eq_none.1 hf n hn
    simp [h1] at this
  | some p =>
    have hp := List.mem_of_find?_eq_some hf
    have he : p.names = m := by simpa using List.find?_some hf
    have : p = n := names_inj hd p hp n hn (he.trans h1.symm)
    rw [this]; simpa using h2
/-- What a row without a fault has. -/
structure Whole (l : List Nod) : Prop where
  len : l.length ≤ 1024
  wrong : ∀ n ∈ l, fv n.names = 0
  deep : ∀ n ∈ l, deep n = false
  nodup : (l.map Nod.names).Nodup
  root : ∃ n ∈ l, n.names = [] ∧ n.kind = 1
  dirs : ∀ n ∈ l, n.names ≠ [] → ∃ p ∈ l, p.names = n.names.dropLast ∧ p.kind = 1
  may : ∀ n ∈ l, may n = true
  one : l.Pairwise Tre.one
theorem whole_of {l : List Nod} (h : check l = 0) : Whole l := by
  obtain ⟨k1, k2, k3, k4, k5, k6, k7, k8⟩ := check_zero h
  refine ⟨k1, wrong_zero l k2, fun n hn => ?_, k4, isDir_mem k5, fun n hn hne => ?_, List.all_eq_true.1 k7, k8⟩
  · cases hq : deep n with
    | false => rfl
    | true => rw [List.any_eq_true.2 ⟨n, hn, hq⟩] at k3; cases k3
  · have hd := List.all_eq_true.1 k6 n hn
    unfold inDir at hd
    rw [decide_eq_false (by intro q; exact hne (List.eq_nil_of_length_eq_zero q)), Bool.false_or] at hd
    exact isDir_mem hd
theorem of_whole {l : List Nod} (h : Whole l) : check l = 0 := by
  unfold check
  have h2 : wrong l = 0 := wrong_of l h.wrong
  have h3 : l.any deep = false := by
    rw [List.any_eq_false]; intro n hn; rw [h.deep n hn]; simp
  obtain ⟨n0, r1, r2, r3⟩ := h.root
  have h5 : isDir l [] = true := isDir_of h.nodup r1 r2 r3
  have h6 : l.all (inDir l) = true := by
    rw [List.all_eq_true]
    intro n hn
    unfold inDir
    by_cases e : n.names = []
    · simp [e]
    · obtain ⟨p, p1, p2, p3⟩ := h.dirs n hn e
      rw [isDir_of h.nodup p1 p2 p3]; simp
  have h7 : l.all may = true := List.all_eq_true.2 h.may
  rw [if_neg (by have := h.len; omega), if_neg (by rw [h2]; simp), if_neg (by rw [h3]; simp), if_neg (fun q => q h.nodup), if_neg (by rw [h5]; simp), if_neg (by rw [h6]; simp), if_neg (by rw [h7]; simp), if_neg (fun q => q h.one)]
theorem check_whole {l : List Nod} : check l = 0 ↔ Whole l := ⟨whole_of, of_whole⟩
theorem one_symm {a b : Nod} (h : one a b) : one b a := fun e => by
  obtain ⟨h1, h2⟩ := h e.symm
  exact ⟨by rw [((alike_iff a b).1 h2).1]; exact h1, alike_symm h2⟩
theorem Whole.perm {l m : List Nod} (h : Whole l) (hp : m.Perm l) : Whole m where
  len := by rw [hp.length_eq]; exact h.len
  wrong n hn := h.wrong n (hp.mem_iff.1 hn)
  deep n hn := h.deep n (hp.mem_iff.1 hn)
  nodup := (hp.map Nod.names).nodup_iff.2 h.nodup
  root := by
    obtain ⟨n, h1, h2⟩ := h.root
    exact ⟨n, hp.mem_iff.2 h1, h2⟩
  dirs n hn hne := by
    obtain ⟨p, h1, h2⟩ := h.dirs n (hp.mem_iff.1 hn) hne
    exact ⟨p, hp.mem_iff.2 h1, h2⟩
  may n hn := h.may n (hp.mem_iff.1 hn)
  one := (hp.pairwise_iff (fun h => one_symm h)).2 h.one
/-- A node with another Ino. -/
def ri (f : Int → Int) (n : Nod) : Nod := { n with ino := f n.ino }
def InjOn (f : Int → Int) (l : List Nod) : Prop := ∀ a ∈ l, ∀ b ∈ l, f a.ino = f b.ino → a.ino = b.ino
theorem names_ri (f : Int → Int) (l : List Nod) : (l.map (ri f)).map Nod.names = l.map Nod.names := by rw [List.map_map]; rfl
theorem whole_ri {f : Int → Int} {l : List Nod} (hf : InjOn f l) : Whole (l.map (ri f)) ↔ Whole l := by
  have mem : ∀ {n}, n ∈ l.map (ri f) ↔ ∃ a ∈ l, ri f a = n := fun {n} => List.mem_map
  constructor
  · intro h
    refine ⟨by simpa using h.len, fun n hn => h.wrong (ri f n) (List.mem_map_of_mem hn), fun n hn => h.deep (ri f n) (List.mem_map_of_mem hn), by rw [← names_ri f]; exact h.nodup, ?_, ?_, fun n hn => h.may (ri f n) (List.mem_map_of_mem hn), ?_⟩
    · obtain ⟨n, h1, h2⟩ := h.root
      obtain ⟨a, ha, rfl⟩ := mem.1 h1
      exact ⟨a, ha, h2⟩
    · intro n hn hne
      obtain ⟨p, h1, h2⟩ := h.dirs _ (List.mem_map_of_mem hn) hne
      obtain ⟨a, ha, rfl⟩ := mem.1 h1
      exact ⟨a, ha, h2⟩
    · have := h.one
      rw [List.pairwise_map] at this
      exact this.imp fun {a b} h e => h (by show f a.ino = f b.ino; rw [e])
  · intro h
    refine ⟨by simpa using h.len, fun n hn => ?_, fun n hn => ?_, by rw [names_ri f]; exact h.nodup, ?_, ?_, fun n hn => ?_, ?_⟩
    · obtain ⟨a, ha, rfl⟩ := mem.1 hn; exact h.wrong a ha
    · obtain ⟨a, ha, rfl⟩ := mem.1 hn; exact h.deep a ha
    · obtain ⟨n, h1, h2⟩ := h.root
      exact ⟨_, List.mem_map_of_mem h1, h2⟩
    · intro n hn hne
      obtain ⟨a, ha, rfl⟩ := mem.1 hn
      obtain ⟨p, h1, h2⟩ := h.dirs a ha hne
      exact ⟨_, List.mem_map_of_mem h1, h2⟩
    · obtain ⟨a, ha, rfl⟩ := mem.1 hn; exact h.may a ha
    · rw [List.pairwise_map]
      exact h.one.imp_of_mem fun {a b} ha hb h e => h (hf a ha b hb e)
/-- Numbers hang on which Inos are the same, and on nothing else. -/
theorem nst_alike {ks js : List Lit} (hk : ∀ k ∈ ks, WideAt.IsKeyLit k) (hj : ∀ k ∈ js, WideAt.IsKeyLit k) (hl : ks.length = js.length) (he : ∀ a b (ha : a < ks.length) (hb : b < ks.length), ks[a] = ks[b] ↔ js[a]'(by omega) = js[b]'(by omega)) :
    ∀ i, i ≤ ks.length → (nst ks i).1 = (nst js i).1 ∧ ∀ a, a < i → nno ks a = nno js a
  | 0, _ => ⟨rfl, fun a h => by omega⟩
  | i + 1, h => by
    obtain ⟨h1, h2⟩ := nst_alike hk hj hl he i (by omega)
    have hi : i < ks.length := by omega
    have hi' : i < js.length := by omega
    have hm : ks[i] ∈ ks.take i ↔ js[i] ∈ js.take i := by
      rw [List.mem_take_iff_getElem, List.mem_take_iff_getElem]
      constructor
      · rintro ⟨a, ha, e⟩; exact ⟨a, by omega, (he a i (by omega) hi).1 e⟩
      · rintro ⟨a, ha, e⟩; exact ⟨a, by omega, (he a i (by omega) hi).2 e⟩
    by_cases q : ks[i] ∈ ks.take i
    · have q' := hm.1 q
      refine ⟨by rw [nst_same hk hi q, nst_same hj hi' q']; exact h1, fun a ha => ?_⟩
      by_cases e : a < i
      · exact h2 a e
      · obtain rfl : a = i := by omega
        obtain ⟨b, hb, eb⟩ := List.mem_take_iff_getElem.1 q
        have hba : b < a := by omega
        rw [nno_old hk hi hba eb, nno_old hj hi' hba ((he b a (by omega) hi).1 eb)]
        exact h2 b hba
    · have q' : js[i] ∉ js.take i := fun z => q (hm.2 z)
      obtain ⟨a1, a2⟩ := nno_new hk hi q
      obtain ⟨b1, b2⟩ := nno_new hj hi' q'
      refine ⟨by rw [a2, b2, h1], fun a ha => ?_⟩
      by_cases e : a < i
      · exact h2 a e
      · obtain rfl : a = i := by omega
        rw [a1, b1, h1]
theorem ikeys_get (l : List Nod) (i : Nat) (h : i < l.length) : (ikeys l)[i]'(by rw [ikeys_length]; exact h) = .int .i64 l[i].ino := by simp [ikeys]
theorem numb_ri {f : Int → Int} {l : List Nod} (hf : InjOn f l) : numb (l.map (ri f)) = numb l := by
  have hlen : (ikeys l).length = (ikeys (l.map (ri f))).length := by rw [ikeys_length, ikeys_length, List.length_map]
  have key := (nst_alike (ikeys_lit l) (ikeys_lit (l.map (ri f))) hlen (fun a b ha hb => by
    rw [ikeys_length] at ha hb
    rw [ikeys_get l a ha, ikeys_get l b hb, ikeys_get (l.map (ri f)) a (by simpa using ha), ikeys_get (l.map (ri f)) b (by simpa using hb)]
    simp only [List.getElem_map, ri, Lit.int.injEq, true_and]
    exact ⟨fun e => by rw [e], fun e => hf _ (List.getElem_mem ha) _ (List.getElem_mem hb) e⟩) _ (Nat.le_refl _)).2
  apply List.ext_getElem
  · rw [numb_length, numb_length, List.length_map]
  · intro i h1 h2
    rw [numb_length] at h2
    rw [numb_get _ _ (by simpa using h2), numb_get _ _ h2, ← key i (by rw [ikeys_length]; exact h2)]
    simp [ri]
theorem canon_ri {f : Int → Int} {l r : List Nod} (hf : InjOn f l) (h : IsCanon l r) : IsCanon (l.map (ri f)) r := by
  obtain ⟨s, hp, ho, rfl⟩ := h
  refine ⟨s.map (ri f), hp.map _, by rw [List.pairwise_map]; exact ho, ?_⟩
  exact (numb_ri (fun a ha b hb e => hf a (hp.mem_iff.1 ha) b (hp.mem_iff.1 hb) e)).symm
theorem canon_perm {l m r : List Nod} (hp : m.Perm l) (h : IsCanon l r) : IsCanon m r := by
  obtain ⟨s, h1, h2, h3⟩ := h
  exact ⟨s, h1.trans hp.symm, h2, h3⟩
theorem nst_inj {ks : List Lit} (hk : ∀ k ∈ ks, WideAt.IsKeyLit k) : ∀ i, i ≤ ks.length → ∀ k k' z, (nst ks i).2 k = some z → (nst ks i).2 k' = some z → k = k'
  | 0, _, k, k', z, h, _ => by simp [nst] at h
  | i + 1, hi, k, k', z, h, h' => by
    have hi' : i < ks.length := by omega
    obtain ⟨hg, hl⟩ := getD_lit hk hi'
    by_cases h2 : ((nst ks i).2 (ks.getD i (.bool false))).isSome = true
    · rw [nst_old h2] at h h'; exact nst_inj hk i (by omega) k k' z h h'
    · rw [nst_new h2] at h h'
      have hs : upd (nst ks i).2 (ks.getD i (.bool false)) ((nst ks i).1 + 1) (ks.getD i (.bool false)) = some ((nst ks i).1 + 1) := upd_same _ _ _ (by rw [hg]; exact hl)
      by_cases e : k = ks.getD i (.bool false) <;> by_cases e' : k' = ks.getD i (.bool false)
      · rw [e, e']
      · rw [e] at h
        simp only [hs] at h
        simp only [upd_other _ _ e'] at h'
        have := (nst_range hk i (by omega) _ _ h').2
        have := Option.some.inj h
        omega
      · rw [e'] at h'
        simp only [hs] at h'
        simp only [upd_other _ _ e] at h
        have := (nst_range hk i (by omega) _ _ h).2
        have := Option.some.inj h'
        omega
      · simp only [upd_other _ _ e] at h
        simp only [upd_other _ _ e'] at h'
        exact nst_inj hk i (by omega) k k' z h h'
/-- Numbers, as a function of Inos. -/
theorem numb_is_ri (s : List Nod) : ∃ f, InjOn f s ∧ numb s = s.map (ri f) := by
  have hl := ikeys_length s
  refine ⟨fun z => ((((nst (ikeys s) s.length).2 (.int .i64 z)).getD 0 : Nat) : Int), ?_, ?_⟩
  · intro a ha b hb e
    obtain ⟨i, hi, rfl⟩ := List.getElem_of_mem ha
    obtain ⟨j, hj, rfl⟩ := List.getElem_of_mem hb
    have hn1 := nno_at (ikeys_lit s) (i := s.length) (j := i) (by omega) hi
    have hn2 := nno_at (ikeys_lit s) (i := s.length) (j := j) (by omega) hj
    rw [(getD_lit (ikeys_lit s) (show i < (ikeys s).length by omega)).1, ikeys_get s i hi] at hn1
    rw [(getD_lit (ikeys_lit s) (show j < (ikeys s).length by omega)).1, ikeys_get s j hj] at hn2
    simp only [hn1, hn2, Option.getD_some] at e
    have e' : nno (ikeys s) i = nno (ikeys s) j := by omega
    rw [e'] at hn1
    have := nst_inj (ikeys_lit s) s.length (by omega) _ _ _ hn1 hn2
    simpa using this
  · apply List.ext_getElem
    · rw [numb_length, List.length_map]
    · intro i h1 h2
      rw [numb_length] at h1
      have hn := nno_at (ikeys_lit s) (i := s.length) (j := i) (by omega) h1
      rw [(getD_lit (ikeys_lit s) (show i < (ikeys s).length by omega)).1, ikeys_get s i h1] at hn
      rw [numb_get _ _ h1]
      simp [ri, hn]
/-- Canon's answer has no fault, and is its own Canon. -/
theorem canon_check {l r : List Nod} (h0 : check l = 0) (h : IsCanon l r) : check r = 0 := by
  obtain ⟨s, hp, ho, rfl⟩ := h
  obtain ⟨f, hf, e⟩ := numb_is_ri s
  rw [e, check_whole, whole_ri hf]
  exact (check_whole.1 h0).perm hp
/-- The same nodes in another order, with other Inos. -/
theorem again_check {f : Int → Int} {l m : List Nod} (hf : InjOn f l) (hp : m.Perm (l.map (ri f))) : check m = 0 ↔ check l = 0 := by
  rw [check_whole, check_whole, ← whole_ri hf]
  exact ⟨fun h => h.perm hp.symm, fun h => h.perm hp⟩
theorem again_canon {f : Int → Int} {l m r : List Nod} (hf : InjOn f l) (hp : m.Perm (l.map (ri f))) (h : IsCanon l r) : IsCanon m r := canon_perm hp (canon_ri hf h)
end Tre
end Go.Proofs.YtchcejjoncihkaaGreatDoor

/- What the proof stands on: DatChunk, DatFrames, DatAdd, with what the proof reaches of it. -/
import Derived.Test.YtoohanojfoichaaGreatDoorSJOwn
import Derived.Test.YtoohanojfoichaaGreatDoorSRange
import Derived.RangeFuncBound
import Derived.Sort.BigQuietIn
import Derived.Shelf.Abstract
import Derived.Shelf.RegionOpen
import Derived.WalkKit
import Derived.OwnWalkIn
import Derived.TacticsInMore
import Derived.LoopNIn
import Derived.LoopIn
import Derived.Stop.BytesEq

/- Layer 12: slices.Chunk, at bytes: the iterator over a row's parts of 128 bytes. -/
namespace Go.Proofs.YtoohanojfoichaaGreatDoor
set_option linter.unusedVariables false
open Go.RowKit Go.Maps Go.Shelf
open Lz (g)
attribute [local go_sem] Oper.semAt_some

set_option maxRecDepth 100000 in
theorem chunk_in (n len cap : Nat) (ao : Option Addr) (w : World) : CallsIn Fence.wide n Tryz.prog 127 #[.slice ao len cap, .int .i64 128] w fun e w' => e = .returned (.func (.func 170) #[] #[.pointer (some ⟨w.heap.size, 0, none⟩), .pointer (some ⟨w.heap.size + 1, 0, none⟩)]) ∧ w' = (w.alloc (.cells #[.slice ao len cap] 25)).alloc (.cells #[.int .i64 128] 3) := by
  refine callsIn_of_wp Tryz.func127 rfl trivial ?_ rfl
  simp only [Tryz.ntmps127, List.size_toArray, List.length_cons, List.length_nil, Nat.reduceAdd, Nat.reduceSub, Array.replicate_succ, Array.replicate_zero, List.push_toArray, List.append_toArray, List.nil_append, List.cons_append]
  gi_wp2
  go_ret
  exact ⟨rfl, rfl⟩
set_option maxRecDepth 100000 in
set_option maxHeartbeats 2000000 in
theorem chunk1_in (n l B1 B2 b off len cap K : Nat) (hn : 2 ≤ n) (hl : len = 128 * K) (hc : len ≤ cap) (hcm : cap ≤ 9223372036854775807) (hK : K ≤ 1000000) (W0 : World) (J : Nat → World → Prop)
    (h1 : ∀ j W, J j W → W.cell? ⟨B1, 0, none⟩ = some (.slice (some ⟨b, off, none⟩) len cap)) (h2 : ∀ j W, J j W → W.cell? ⟨B2, 0, none⟩ = some (.int .i64 128)) (hd : ∀ j W q, J j W → J j (W.drewN q))
    (hY : ∀ j W, j < K → J j W → YieldAt Fence.wide (n - 1) Tryz.prog l #[.slice (some ⟨b, off + 128 * j, none⟩) 128 128] W fun e W' => e = .returned (.bool true) ∧ J (j + 1) W')
    (h0 : J 0 W0) :
    CallsIn Fence.wide n Tryz.prog 170 #[.func (.yield l) #[] #[], .pointer (some ⟨B1, 0, none⟩), .pointer (some ⟨B2, 0, none⟩)] W0 fun e W' => (∃ v, e = .returned v) ∧ J K W' := by
  have h1n : 1 ≤ n := by omega
  have HY := hide hY
  have H1 := hide h1
  have H2 := hide h2
  have HD := hide hd
  have HL := hide hl
  have hlb : len ≤ 128000000 := by omega
  clear hY h1 h2 hd hl
  refine callsIn_of_wp Tryz.func170 rfl trivial ?_ rfl
  simp only [Tryz.ntmps170, List.size_toArray, List.length_cons, List.length_nil, Nat.reduceAdd, Nat.reduceSub, Array.replicate_succ, Array.replicate_zero, List.push_toArray, List.append_toArray, List.nil_append, List.cons_append]
  gi_wp2
  gi_loopw [4] (fun s4 wr => ∃ (j i : Nat), s4 = .int .i64 i ∧ Hid (i = 128 * j) ∧ j ≤ K ∧ J j wr) (fun s4 _ => len - (intOf s4).toNat)
  case atStart => exact ⟨0, 0, rfl, rfl, Nat.zero_le _, h0⟩
  case round =>
    clear h0
    obtain ⟨j, i, rfl, HI, hj, hJ⟩ := hrel
    have c1 := H1.out _ _ hJ
    have c2 := H2.out _ _ hJ
    have HJ := hide hJ
    clear hJ
    by_cases hp : j < K
    · have hd : (i : Int) < (len : Int) := by have := HI.out; have := HL.out; omega
      have h3 : (i : Int) ≤ (cap : Int) := by omega
      have h4 : (128 : Int) ≤ (len : Int) - (i : Int) := by have := HI.out; have := HL.out; omega
      have h5 : (i : Int) + 128 ≤ (cap : Int) := by have := HI.out; have := HL.out; omega
      gi_wp2
      gi_big_quiet_th (fail)
      have HJq := hide (HD.out j wr nq HJ.out)
      have c1q := H1.out _ _ HJq.out
      have c2q := H2.out _ _ HJq.out
      obtain ⟨fn, tmps, assign, body, hy, hR⟩ := HY.out j (wr.drewN nq) hp HJq.out
      rw [← HI.out] at hy
      clear c1 c2 HJ HJq
      gi_wp2
      refine hR.mono ?_
      rintro e W3 ⟨rfl, hJ3⟩
      have c2r := H2.out _ _ hJ3
      have HJ3 := hide hJ3
      clear hJ3 hR hy
      gi_wp2
      go_roundw
      case rel => exact ⟨j + 1, i + 128, by go_num, (by have := HI.out; show _ = _; omega), by omega, HJ3.out⟩
      case measure => simp [intOf]; omega
    · obtain rfl : j = K := by omega
      have hd : ¬ (i : Int) < (len : Int) := by have := HI.out; have := HL.out; omega
      gi_wp2
      go_end0
      exact ⟨⟨_, rfl⟩, HJ.out⟩
end Go.Proofs.YtoohanojfoichaaGreatDoor

/- Layer 12: a file's frames, by the program: framesOf. -/
namespace Go.Proofs.YtoohanojfoichaaGreatDoor
set_option linter.unusedVariables false
open Go.RowKit Go.Maps Go.Shelf
open Lz (g)
open Crc (ent more)
open Frm Mtr Dat
attribute [local go_sem] Oper.semAt_some

namespace Dat
/-- Numbers as bytes. -/
def u8 (zs : List Int) : List UInt8 := zs.map fun n => UInt8.ofNat n.toNat
theorem u8_length (zs : List Int) : (u8 zs).length = zs.length := by simp [u8]
theorem bv_u8 : ∀ {zs : List Int}, Bytes zs → bv zs = (u8 zs).map Extern.Stop.cell
  | [], _ => rfl
  | z :: zs, h => by
    have h0 := h z (by simp)
    have ih := bv_u8 (zs := zs) (fun x hx => h x (by simp [hx]))
    simp only [bv, u8, List.map_cons, List.cons.injEq] at ih ⊢
    refine ⟨?_, ih⟩
    show Value.int .u8 z = .int .u8 (((UInt8.ofNat z.toNat).toNat : Nat) : Int)
    rw [UInt8.toNat_ofNat_of_lt' (by show z.toNat < 256; omega), Int.toNat_of_nonneg h0.1]
theorem u8_inj {xs ys : List Int} (hx : Bytes xs) (hy : Bytes ys) (h : u8 xs = u8 ys) : xs = ys := by
  refine str_inj hx hy ?_
  unfold u8 at h
  simp only [strOfNums]
  rw [h]
theorem hol_iff {b : List Int} (h : b.length = 128) : hol b = true ↔ b = List.replicate 128 0 := by
  refine ⟨fun hh => by have := hol_all hh; rw [h] at this; exact this, fun hh => by rw [hh]; decide⟩
end Dat
set_option maxRecDepth 100000 in
theorem equalIn_blks (w : World) {F Z : List Int} (hF : F.length = 128) (hb : Bytes F) (hZ : Z.length = 128) (hz : Bytes Z) : (Op.equalIn 10000 189 (.agg (blc F)) (.agg (blc Z))).run Tryz.prog w = .ok (decide (F = Z)) w := by
  have := run_equalIn_bytes (P := Tryz.prog) w 9998 189 5 128 Tryz.underlying189 Tryz.underlying5 (fun w => by simp [Tryz.sizeOf5]) (Dat.u8 F) (Dat.u8 Z) (by rw [Dat.u8_length, hF]) (by rw [Dat.u8_length, hZ])
  rw [← Dat.bv_u8 hb, ← Dat.bv_u8 hz] at this
  unfold blc
  rw [this]
  congr 1
  rw [Bool.eq_iff_iff, beq_iff_eq, decide_eq_true_eq]
  exact ⟨Dat.u8_inj hb hz, fun h => by rw [h]⟩
theorem equalIn_blk (w : World) {F : List Int} (hF : F.length = 128) (hb : Bytes F) : (Op.equalIn 10000 189 (.agg (blc F)) (.agg (Array.replicate 128 (.int .u8 0)))).run Tryz.prog w = .ok (hol F) w := by
  have e : decide (F = List.replicate 128 0) = hol F := by rw [Bool.eq_iff_iff, decide_eq_true_eq, Dat.hol_iff hF]
  rw [zeros_blc, ← e]
  exact equalIn_blks w hF hb (by simp) (fun y hy => by simp at hy; omega)
theorem arrayAt_blk (W : World) (a : Option Addr) (cap : Nat) : (Instr.arrayAt 189 (.slice a 128 cap)).run Tryz.prog W = .ok (.pointer a) W := by
  simp [Instr.arrayAt, run_underlying Tryz.underlying189]
/-- A block loaded out of a row's midst, within a round. -/
theorem wpListIn_load_blk {F : Fence} {nF : Nat} {w : World} {ops : Array Oper} {rest : List Oper} {o : Oper} {a : Act} {Q : Exit → Act → World → Prop} (hgd : o.guard = none) (x : Operand) (ho : o.op = .load 189 x)
    (b off : Nat) (X : Array Value) (hx : a.eval x = .pointer (some ⟨b, off, none⟩)) (hr : (Instr.loadAt 189 (.pointer (some ⟨b, off, none⟩))).run Tryz.prog w = .ok (.agg X) w)
    (h : wpListIn F nF Tryz.prog ops Q rest (a.put o.dst (.agg X)) w) : wpListIn F nF Tryz.prog ops Q (o :: rest) a w := by
  refine wpListIn_plain hgd fun K hK' => ?_
  unfold Oper.wpIn
  refine ⟨?_, ?_⟩
  · simp [Oper.about, ho]
  · rw [Oper.semAt_plain F _ _ (by rw [ho]; intro c hc'; cases hc')]
    unfold execOp
    simp only [ho, hx, Sem.run_bind, Sem.run_pure, Result.andThen_ok, hr]
    exact hK' _ _ h
/-- 'append' to a row of the call's own, within a round. -/
theorem wpListIn_append_rw {F : Fence} {nF : Nat} (w : World) {ops : Array Oper} {rest : List Oper} {o : Oper} {a : Act} {Q : Exit → Act → World → Prop} (hgd : o.guard = none) (s x : Operand)
    (ho : o.op = .call { callee := .builtin .append, args := #[s, x], argTypes := #[25, 25] })
    (B : Nat) (vo : Option Addr) (n vc : Nat) (xs : List Int) (hs : a.eval s = .slice vo n vc) (hR : Rw w B vo n vc xs)
    (ao : Option Addr) (m c : Nat) (zs : List Int) (hx : a.eval x = .slice ao m c) (hb : Bs w ao m zs) (hnil : ao = none → c = 0)
    (hbd : n + m ≤ 100000000) (hB : B ≤ w.heap.size)
    (h : ∀ ao' c' w', Rw w' B ao' (n + m) c' (xs ++ zs) → w.grownBy w' (Value.slice vo n vc).ownBlock → Lie w (.slice vo n vc) (.slice ao' (n + m) c') → wpListIn F nF Tryz.prog ops Q rest (a.put o.dst (.slice ao' (n + m) c')) w') :
    wpListIn F nF Tryz.prog ops Q (o :: rest) a w := by
  refine wpListIn_plain hgd fun K hK' => ?_
  obtain ⟨ao', c', w', hrun, r1, r2, r3⟩ := run_append_rw w o.type hR hB hb hnil hbd
  unfold Oper.wpIn
  refine ⟨?_, ?_⟩
  · simp [Oper.about, ho, resolve, Target.leads, Sem.run_pure]
  · rw [Oper.semAt_plain F _ _ (by rw [ho]; intro c hc'; cases hc')]
    simp [execOp, ho, resolve, invoke, builtin, hs, hx, hrun, Result.andThen]
    exact hK' _ _ (h ao' c' w' r1 r2 r3)
theorem Dat.fr_put (W : World) (k : Nat) (o : Obj) : Fr (One k) W (W.putObj k o) := ⟨rfl, rfl, rfl, by simp, fun i _ hn => World.putObj_heap_other (fun e => hn e)⟩
/-- What the loop holds: the frames so far, in the variable at Bl; the boxes at Bw, B1, B2; the record at l, the block for deferred calls at D. -/
structure FJ (w : World) (p Bl Bw B1 B2 D l : Nat) (sl : Value) (rc : Loop) (F : List Int) (W : World) : Prop where
  ex : ∃ fo fn fc, W.heap[Bl]? = some (.cells #[.slice fo fn fc] 25 (0, 0)) ∧ Rw W w.heap.size fo fn fc F
  bx : W.heap[Bw]? = some (.cells #[.pointer (some ⟨p, 0, none⟩)] 80 (0, 0))
  k1 : W.heap[B1]? = some (.cells #[sl] 25 (0, 0))
  k2 : W.heap[B2]? = some (.cells #[.int .i64 128] 3 (0, 0))
  rl : W.heap[l]? = some (.loop rc)
  rd : W.heap[D]? = some (.deferred (some []))
  bel : Below w.heap.size w W
section
variable {w W : World} {p Bl Bw B1 B2 D l : Nat} {sl : Value} {rc bc : Loop} {F : List Int}
theorem FJ.below {W' : World} (h : FJ w p Bl Bw B1 B2 D l sl rc F W) (hb : Below W.heap.size W W') : FJ w p Bl Bw B1 B2 D l sl rc F W' := by
  obtain ⟨fo, fn, fc, e1, e2⟩ := h.ex
  have hf : Fr (fun _ => False) W W' := Fr.of_below hb
  exact ⟨⟨fo, fn, fc, (hb.block _ (heap_lt e1)).trans e1, e2.fr hf (fun _ _ => id)⟩, (hb.block _ (heap_lt h.bx)).trans h.bx, (hb.block _ (heap_lt h.k1)).trans h.k1, (hb.block _ (heap_lt h.k2)).trans h.k2, (hb.block _ (heap_lt h.rl)).trans h.rl, (hb.block _ (heap_lt h.rd)).trans h.rd, h.bel.trans (hb.mono h.bel.size)⟩
theorem FJ.drewN (h : FJ w p Bl Bw B1 B2 D l sl rc F W) (q : Nat) : FJ w p Bl Bw B1 B2 D l sl rc F (W.drewN q) := h.below (below_drewN (Below.refl _ _) q)
theorem ne_loop {W : World} {k l : Nat} {o : Obj} {rc : Loop} (h : W.heap[k]? = some o) (hl : W.heap[l]? = some (.loop rc)) (ho : ∀ r, o ≠ .loop r) : k ≠ l := fun e => by
  subst e
  rw [hl] at h
  exact ho rc (Option.some.inj h).symm
theorem FJ.put (h : FJ w p Bl Bw B1 B2 D l sl rc F W) (hl : w.heap.size ≤ l) (bc : Loop) : FJ w p Bl Bw B1 B2 D l sl bc F (W.putObj l (.loop bc)) := by
  obtain ⟨fo, fn, fc, e1, e2⟩ := h.ex
  have hf := Dat.fr_put W l (.loop bc)
  have hc : ∀ {k : Nat} {cs : Array Value} {t : TypeId} {fz : Nat × Nat}, W.heap[k]? = some (.cells cs t fz) → (W.putObj l (.loop bc)).heap[k]? = some (.cells cs t fz) := fun hk => (hf.block _ (heap_lt hk) (ne_loop hk h.rl (fun r e => by cases e))).trans hk
  refine ⟨⟨fo, fn, fc, hc e1, e2.fr hf (fun k hk => ?_)⟩, hc h.bx, hc h.k1, hc h.k2, World.putObj_heap_same (heap_lt h.rl), (hf.block _ (heap_lt h.rd) (ne_loop h.rd h.rl (fun r e => by cases e))).trans h.rd, h.bel.trans (hf.below _ h.bel.size (fun k hk => by have : k = l := hk; omega))⟩
  obtain ⟨_, _, cur, hcur⟩ := e2.own hk
  exact ne_loop hcur h.rl (fun r e => by cases e)
/-- One frame more. -/
theorem FJ.add {w2 : World} {fo fo' : Option Addr} {fn fc m fc' : Nat} {P : List Int} (h : FJ w p Bl Bw B1 B2 D l sl rc F W) (e1 : W.heap[Bl]? = some (.cells #[.slice fo fn fc] 25 (0, 0))) (e2 : Rw W w.heap.size fo fn fc F) (h1 : Bl ≠ B1) (h2 : w.heap.size ≤ Bl)
    (hA : Rw w2 w.heap.size fo' (fn + m) fc' (F ++ P)) (hg : W.grownBy w2 (Value.slice fo fn fc).ownBlock) (hl : Lie W (.slice fo fn fc) (.slice fo' (fn + m) fc')) :
    w2.heap[Bl]? = some (.cells #[.slice fo fn fc] 25 (0, 0)) ∧ FJ w p Bl Bw B1 B2 D l sl rc (F ++ P) (w2.setCell ⟨Bl, 0, none⟩ (.slice fo' (fn + m) fc')) := by
  have f2 : Fr (fun k => (Value.slice fo fn fc).ownBlock = some k) W w2 := Fr.of_grown hg (fun k hk => hk)
  have fs : Fr (One Bl) w2 (w2.setCell ⟨Bl, 0, none⟩ (.slice fo' (fn + m) fc')) := (Fr.refl (One Bl) _).set (p := ⟨Bl, 0, none⟩) _ (fun _ => rfl)
  have hc : ∀ {k : Nat} {cs : Array Value} {t : TypeId}, W.heap[k]? = some (.cells cs t (0, 0)) → t ≠ 5 → w2.heap[k]? = some (.cells cs t (0, 0)) := fun hk ht => (f2.block _ (heap_lt hk) (fun ho => by
    obtain ⟨_, _, cur, hcur⟩ := e2.own ho
    exact ne_obj hk hcur ht rfl)).trans hk
  have hB := hc e1 (by decide)
  have hc2 : ∀ {k : Nat} {cs : Array Value} {t : TypeId}, W.heap[k]? = some (.cells cs t (0, 0)) → t ≠ 5 → k ≠ Bl → (w2.setCell ⟨Bl, 0, none⟩ (.slice fo' (fn + m) fc')).heap[k]? = some (.cells cs t (0, 0)) := fun hk ht hn => (fs.block _ (heap_lt (hc hk ht)) hn).trans (hc hk ht)
  have hL : w2.heap[l]? = some (.loop rc) := (f2.block _ (heap_lt h.rl) (fun ho => by
    obtain ⟨_, _, cur, hcur⟩ := e2.own ho
    exact ne_loop hcur h.rl (fun r e => by cases e) rfl)).trans h.rl
  have hD : w2.heap[D]? = some (.deferred (some [])) := (f2.block _ (heap_lt h.rd) (fun ho => by
    obtain ⟨_, _, cur, hcur⟩ := e2.own ho
    have := h.rd
    rw [hcur] at this
    cases this)).trans h.rd
  refine ⟨hB, ⟨⟨fo', fn + m, fc', ?_, hA.fr fs (fun k hk hx => ?_)⟩, hc2 h.bx (by decide) ?_, hc2 h.k1 (by decide) (fun e => h1 e.symm), hc2 h.k2 (by decide) ?_, (fs.block _ (heap_lt hL) (fun e => ?_)).trans hL, (fs.block _ (heap_lt hD) (fun e => ?_)).trans hD, ?_⟩⟩
  · rw [heap_setCell_self hB]; rfl
  · obtain ⟨_, _, cur, hcur⟩ := hA.own hk
    exact ne_obj hcur hB (by decide) hx
  · exact ne_obj h.bx e1 (by decide)
  · exact ne_obj h.k2 e1 (by decide)
  · exact ne_loop hB hL (fun r e => by cases e) (Eq.symm e)
  · have e : D = Bl := e
    rw [e, hB] at hD; cases hD
  · refine (h.bel.trans (f2.below _ h.bel.size (fun k hk => (e2.own hk).1))).trans (fs.below _ (Nat.le_trans h.bel.size hg.size) (fun k hk => ?_))
    have : k = Bl := hk
    omega
end
set_option maxRecDepth 100000 in
set_option maxHeartbeats 4000000 in
theorem framesOf_any (p tb n c K b off : Nat) (T : Nat → Nat) (z : List Int) (w : World) (c0 : w.cell? ⟨p, 0, none⟩ = some (.pointer (some ⟨tb, 0, none⟩))) (hpl : p < w.heap.size) (hT : Tb w tb T) (htb : tb < w.heap.size) (hS : Small T) (hB : Bs w (some ⟨b, off, none⟩) n z) (hn : n = 128 * K) (hK1 : 1 ≤ K) (hK : K ≤ 1000) (hc : n ≤ c) (hcm : c ≤ 9223372036854775807) :
    Calls Tryz.prog 83 #[.pointer (some ⟨p, 0, none⟩), .slice (some ⟨b, off, none⟩) n c] w fun r w' => ∃ ao' c', r = .returned (.slice ao' (frs T z K).length c') ∧ Rw w' w.heap.size ao' (frs T z K).length c' (frs T z K) ∧ Below w.heap.size w w' := by
  have hfx : Fence.wide.fn 127 := trivial
  have hfp : Fence.wide.fn 86 := trivial
  obtain ⟨b', o', hbo, hbl, hseg⟩ : ∃ b' o', some (⟨b, off, none⟩ : Addr) = some ⟨b', o', none⟩ ∧ b' < w.heap.size ∧ Seg w b' o' z := by
    rcases hB.2.2 with h | h
    · omega
    · exact h
  obtain ⟨rfl, rfl⟩ : b = b' ∧ off = o' := by simpa using hbo
  have hz := hB.1
  have hzb := hB.bytes
  have HT := hide hT
  have HSeg := hide hseg
  have HZB := hide hzb
  have HZ := hide hz
  have HN := hide hn
  have HC0 := hide c0
  clear hbo hT hB hseg hzb c0 hz hn
  refine (callsIn_wide (n := 12)).1 ?_
  refine callsIn_of_wp_marks Tryz.func83 rfl trivial ?_ rfl
  simp only [Tryz.ntmps83, List.size_toArray, List.length_cons, List.length_nil, Nat.reduceAdd, Nat.reduceSub, Array.replicate_succ, Array.replicate_zero, List.push_toArray, List.append_toArray, List.nil_append, List.cons_append]
  gi_wp2_with (gi_at_call 127; refine (chunk_in _ _ _ _ _).mono ?_; rintro e w' ⟨rfl, rfl⟩)
  obtain ⟨W4, hW4⟩ : ∃ W4, W4 = (((w.alloc (.cells #[.pointer (some ⟨p, 0, none⟩)] 80)).alloc (.cells #[.slice none 0 0] 25)).alloc (.cells #[.slice (some ⟨b, off, none⟩) n c] 25)).alloc (.cells #[.int .i64 128] 3) := ⟨_, rfl⟩
  have hs4 : W4.heap.size = w.heap.size + 1 + 1 + 1 + 1 := by rw [hW4]; simp
  have b4 : Below w.heap.size w W4 := by rw [hW4]; exact (((below_one _ _).alloc (by simp) _).alloc (by simp; omega) _).alloc (by simp; omega) _
  have k0 : W4.heap[w.heap.size]? = some (.cells #[.pointer (some ⟨p, 0, none⟩)] 80 (0, 0)) := by
    rw [hW4]
    exact (((Go.Boxed.new w 80 (.pointer (some ⟨p, 0, none⟩))).alloc _).alloc _).alloc _
  have k1 : W4.heap[w.heap.size + 1]? = some (.cells #[.slice none 0 0] 25 (0, 0)) := by
    rw [hW4]
    have := ((Go.Boxed.new (w.alloc (.cells #[.pointer (some ⟨p, 0, none⟩)] 80)) 25 (.slice none 0 0)).alloc (.cells #[.slice (some ⟨b, off, none⟩) n c] 25)).alloc (.cells #[.int .i64 128] 3)
    rw [World.size_alloc] at this
    exact this
  have k2 : W4.heap[w.heap.size + 1 + 1]? = some (.cells #[.slice (some ⟨b, off, none⟩) n c] 25 (0, 0)) := by
    rw [hW4]
    have := (Go.Boxed.new ((w.alloc (.cells #[.pointer (some ⟨p, 0, none⟩)] 80)).alloc (.cells #[.slice none 0 0] 25)) 25 (.slice (some ⟨b, off, none⟩) n c)).alloc (.cells #[.int .i64 128] 3)
    rw [World.size_alloc, World.size_alloc] at this
    exact this
  have k3 : W4.heap[w.heap.size + 1 + 1 + 1]? = some (.cells #[.int .i64 128] 3 (0, 0)) := by
    rw [hW4]
    have := Go.Boxed.new (((w.alloc (.cells #[.pointer (some ⟨p, 0, none⟩)] 80)).alloc (.cells #[.slice none 0 0] 25)).alloc (.cells #[.slice (some ⟨b, off, none⟩) n c] 25)) 3 (.int .i64 128)
    rw [World.size_alloc, World.size_alloc, World.size_alloc] at this
    exact this
  rw [← hW4]
  have HS4 := hide hs4
  clear hW4 hs4
  refine wpIn_range_st rfl (by omega) (gf := 170) (lb := #[.pointer (some ⟨w.heap.size + 1 + 1, 0, none⟩), .pointer (some ⟨w.heap.size + 1 + 1 + 1, 0, none⟩)]) rfl trivial (enters_of Tryz.func170 (by kernel_rfl) rfl) ?_
  intro rc bc hround
  obtain ⟨W6, hW6⟩ : ∃ W6, W6 = (W4.alloc (.deferred (some []))).alloc (.loop rc) := ⟨_, rfl⟩
  have b6 : Below W4.heap.size W4 W6 := by rw [hW6]; exact (below_one _ _).alloc (by simp) _
  have kD : W6.heap[W4.heap.size]? = some (.deferred (some [])) := by rw [hW6]; exact (Below.heap_alloc _ _ _ (by simp)).trans (World.alloc_heap_new W4 _)
  have kl : W6.heap[W4.heap.size + 1]? = some (.loop rc) := by rw [hW6]; have := World.alloc_heap_new (W4.alloc (.deferred (some []))) (.loop rc); rwa [World.size_alloc] at this
  rw [← hW6]
  have hF0 : FJ w p (w.heap.size + 1) w.heap.size (w.heap.size + 1 + 1) (w.heap.size + 1 + 1 + 1) W4.heap.size (W4.heap.size + 1) (.slice (some ⟨b, off, none⟩) n c) rc (frs T z 0) W6 :=
    ⟨⟨none, 0, 0, (b6.block _ (heap_lt k1)).trans k1, Rw.none _ _⟩, (b6.block _ (heap_lt k0)).trans k0, (b6.block _ (heap_lt k2)).trans k2, (b6.block _ (heap_lt k3)).trans k3, kl, kD, b4.trans (b6.mono b4.size)⟩
  have hwl : w.heap.size ≤ W4.heap.size + 1 := Nat.le_trans b4.size (Nat.le_succ _)
  refine (chunk1_in 11 (W4.heap.size + 1) (w.heap.size + 1 + 1) (w.heap.size + 1 + 1 + 1) b off n c K (by omega) HN.out hc hcm (by omega) W6 (fun j W => FJ w p (w.heap.size + 1) w.heap.size (w.heap.size + 1 + 1) (w.heap.size + 1 + 1 + 1) W4.heap.size (W4.heap.size + 1) (.slice (some ⟨b, off, none⟩) n c) rc (frs T z j) W)
    (fun j W h => by have := h.k1; simp [World.cell?, this]) (fun j W h => by have := h.k2; simp [World.cell?, this]) (fun j W q h => h.drewN q) ?_ hF0).mono ?_
  · intro j W hj hJ
    refine (hround W #[.slice (some ⟨b, off + 128 * j, none⟩) 128 128] (fun W' => Hid (FJ w p (w.heap.size + 1) w.heap.size (w.heap.size + 1 + 1) (w.heap.size + 1 + 1 + 1) W4.heap.size (W4.heap.size + 1) (.slice (some ⟨b, off, none⟩) n c) rc (frs T z (j + 1)) W')) hJ.rl rfl ?_).mono (fun e W' hh => ⟨hh.1, hh.2.out⟩)
    clear hround
    have hrl := hJ.rl
    have HRl := hide hrl
    have hJ2 := hJ.put hwl bc
    obtain ⟨Wb, hWb⟩ : ∃ Wb, Wb = W.putObj (W4.heap.size + 1) (.loop bc) := ⟨_, rfl⟩
    have HWb := hide hWb
    rw [← hWb] at hJ2
    clear hrl hWb hJ
    have bb := hJ2.bel
    -- the block, its cells, and what is framed of it
    have hbl8 : (blk z j).length = 128 := blk_full (by have := HZ.out; have := HN.out; omega)
    have hbby := blk_bytes HZB.out j
    have hsg : Seg Wb b (off + 128 * j) (blk z j) := by
      have hsg := (HSeg.out.below bb hbl).cut (128 * j) (128 * j + 128)
      rw [List.drop_take, show 128 * j + 128 - 128 * j = 128 by omega] at hsg
      exact hsg
    have hbs : Bs Wb (some ⟨b, off + 128 * j, none⟩) 128 (blk z j) := ⟨hbl8, hbby.g, .inr ⟨b, off + 128 * j, rfl, Nat.lt_of_lt_of_le hbl bb.size, hsg⟩⟩
    obtain ⟨X, hX⟩ : ∃ X, X = blc (blk z j) := ⟨_, rfl⟩
    have hld : (Instr.loadAt 189 (.pointer (some ⟨b, off + 128 * j, none⟩))).run Tryz.prog Wb = .ok (.agg X) Wb := by
      have hra : Wb.rangeAt b (off + 128 * j) (bv (blk z j)) := fun i v hv => by
        have := news_seg hsg 128
        rw [List.take_of_length_le (by omega)] at this
        have := this i v hv
        rw [Addr.add_lit] at this
        exact this
      have := run_loadAt_mid (P := Tryz.prog) Wb b (off + 128 * j) 189 (bv (blk z j)) _ hra Tryz.underlying189 rfl (by rw [bv_length, hbl8]; exact info128)
      rw [hX]; exact this
    have har := arrayAt_blk
    have hzc : Tryz.zeroCells189 = Array.replicate 128 (.int .u8 0) := by kernel_rfl
    have heq : ∀ W', (Op.equalIn 10000 189 (.agg X) (.agg Tryz.zeroCells189)).run Tryz.prog W' = .ok (hol (blk z j)) W' := fun W' => by rw [hX, hzc]; exact equalIn_blk W' hbl8 hbby
    clear hX hzc
    obtain ⟨hh, hhe⟩ : ∃ hh, hol (blk z j) = hh := ⟨_, rfl⟩
    rw [hhe] at heq
    have HHe := hide hhe
    clear hhe
    have c0b : Wb.cell? ⟨p, 0, none⟩ = some (.pointer (some ⟨tb, 0, none⟩)) := (bb.cell (p := ⟨p, 0, none⟩) hpl).trans HC0.out
    have cwb : Wb.cell? ⟨w.heap.size, 0, none⟩ = some (.pointer (some ⟨p, 0, none⟩)) := by have := hJ2.bx; simp [World.cell?, this]
    gi_wp2
    rw [← HWb.out]
    refine ⟨HRl.out, ?_⟩
    have HJ2 := hide hJ2
    have hTb := HT.out.below bb htb
    have htb2 := Nat.lt_of_lt_of_le htb bb.size
    clear hJ2 k0 k1 k2 k3 b6 kD kl hF0 hW6
    cases hh with
    | true =>
      have HE : Hid (([] : List Int) = eb (blk z j)) := by show _ = _; unfold eb; rw [if_pos HHe.out]
      have HP := hide (Put_any tb 0 0 T none [] Wb hTb htb2 hS ⟨rfl, fun i => by simp [g], .inl rfl⟩ (by omega) (fun _ => rfl) (by omega))
      gi_wp2_with (first | refine wpListIn_load_blk rfl _ rfl b (off + 128 * j) X rfl hld ?_ | fail)
      refine (CallsIn.inRound _ (callsIn_wide.2 HP.out)).mono ?_
      rintro e w1 (⟨h1, _⟩ | ⟨_, ao1, c1, rfl, hN⟩)
      · rw [HE.out] at h1; have := eb_le (b := blk z j) (by omega); omega
      rw [HE.out] at hN ⊢
      have hN' : New Wb w1 ao1 (bf T (blk z j)).length c1 (bf T (blk z j)) := hN
      have hJ3 := HJ2.out.below hN'.bel
      obtain ⟨fo, fn, fc, e1, e2⟩ := hJ3.ex
      have hfl := (frs_length T z j).2
      have hbf := (bf_length T (b := blk z j) (by omega)).2
      have hfn := e2.1
      have HFr := hide (frs_succ T z j)
      have HN1 := hide hN'
      have cB : w1.cell? ⟨w.heap.size + 1, 0, none⟩ = some (.slice fo fn fc) := by simp [World.cell?, e1]
      have HA := hide (fun (w2 : World) (fo' : Option Addr) (fc' : Nat) (hA : Rw w2 w.heap.size fo' (fn + (bf T (blk z j)).length) fc' (frs T z j ++ bf T (blk z j))) hg hl => hJ3.add (w2 := w2) e1 e2 (by omega) (by omega) hA hg hl)
      have hsz3 := hJ3.bel.size
      have HE2 := hide e2
      clear hN hN' hJ3 e1 e2 HJ2 c0b cwb hld har heq HP
      obtain ⟨pl, hpl2⟩ : ∃ pl, (bf T (blk z j)).length = pl := ⟨_, rfl⟩
      rw [show (put T (eb (blk z j))).length = pl from hpl2]
      rw [hpl2] at HN1 HA hbf
      have hfb : fn ≤ 200000 := by omega
      clear hfl hfn hpl2
      gi_wp2_with (gi_at_builtin; refine wpListIn_append_rw _ rfl (.tmp 26) (.tmp 27) rfl w.heap.size fo fn fc (frs T z j) rfl HE2.out ao1 pl c1 (bf T (blk z j)) rfl HN1.out.bs HN1.out.nil (by omega) hsz3 ?_; intro ao3 k3 w3 hA hg hl; obtain ⟨t1, t2⟩ := HA.out w3 ao3 k3 hA hg hl; have d0 : w3.cell? ⟨w.heap.size + 1, 0, none⟩ = some (.slice fo fn fc) := (by simp [World.cell?, t1]); have d1 : w3.frozen? ⟨w.heap.size + 1, 0, none⟩ = false := (by simp [World.frozen?, t1]); have HT2 := hide t2; clear t1 t2 hA hg hl)
      exact ⟨HT2.out.rl, by show FJ _ _ _ _ _ _ _ _ _ _ _ _; rw [HFr.out]; exact HT2.out.put hwl rc⟩
    | false =>
      have hE : blk z j = eb (blk z j) := by unfold eb; rw [if_neg (by rw [HHe.out]; simp)]
      have HP := hide (Put_any tb 128 128 T (some ⟨b, off + 128 * j, none⟩) (blk z j) Wb hTb htb2 hS hbs (by omega) (fun h => by simp at h) (by omega))
      obtain ⟨Y, hY⟩ : ∃ Y, Y = blk z j := ⟨_, rfl⟩
      have HE : Hid (Y = eb (blk z j)) := hY.trans hE
      rw [← hY] at HP
      clear hY hE
      gi_wp2_with (first | refine wpListIn_load_blk rfl _ rfl b (off + 128 * j) X rfl hld ?_ | fail)
      refine (CallsIn.inRound _ (callsIn_wide.2 HP.out)).mono ?_
      rintro e w1 (⟨h1, _⟩ | ⟨_, ao1, c1, rfl, hN⟩)
      · rw [HE.out] at h1; have := eb_le (b := blk z j) (by omega); omega
      rw [HE.out] at hN ⊢
      have hN' : New Wb w1 ao1 (bf T (blk z j)).length c1 (bf T (blk z j)) := hN
      have hJ3 := HJ2.out.below hN'.bel
      obtain ⟨fo, fn, fc, e1, e2⟩ := hJ3.ex
      have hfl := (frs_length T z j).2
      have hbf := (bf_length T (b := blk z j) (by omega)).2
      have hfn := e2.1
      have HFr := hide (frs_succ T z j)
      have HN1 := hide hN'
      have cB : w1.cell? ⟨w.heap.size + 1, 0, none⟩ = some (.slice fo fn fc) := by simp [World.cell?, e1]
      have HA := hide (fun (w2 : World) (fo' : Option Addr) (fc' : Nat) (hA : Rw w2 w.heap.size fo' (fn + (bf T (blk z j)).length) fc' (frs T z j ++ bf T (blk z j))) hg hl => hJ3.add (w2 := w2) e1 e2 (by omega) (by omega) hA hg hl)
      have hsz3 := hJ3.bel.size
      have HE2 := hide e2
      clear hN hN' hJ3 e1 e2 HJ2 c0b cwb hld har heq HP
      obtain ⟨pl, hpl2⟩ : ∃ pl, (bf T (blk z j)).length = pl := ⟨_, rfl⟩
      rw [show (put T (eb (blk z j))).length = pl from hpl2]
      rw [hpl2] at HN1 HA hbf
      have hfb : fn ≤ 200000 := by omega
      clear hfl hfn hpl2
      gi_wp2_with (gi_at_builtin; refine wpListIn_append_rw _ rfl (.tmp 26) (.tmp 27) rfl w.heap.size fo fn fc (frs T z j) rfl HE2.out ao1 pl c1 (bf T (blk z j)) rfl HN1.out.bs HN1.out.nil (by omega) hsz3 ?_; intro ao3 k3 w3 hA hg hl; obtain ⟨t1, t2⟩ := HA.out w3 ao3 k3 hA hg hl; have d0 : w3.cell? ⟨w.heap.size + 1, 0, none⟩ = some (.slice fo fn fc) := (by simp [World.cell?, t1]); have d1 : w3.frozen? ⟨w.heap.size + 1, 0, none⟩ = false := (by simp [World.frozen?, t1]); have HT2 := hide t2; clear t1 t2 hA hg hl)
      exact ⟨HT2.out.rl, by show FJ _ _ _ _ _ _ _ _ _ _ _ _; rw [HFr.out]; exact HT2.out.put hwl rc⟩
  · clear hround kD kl k0 k1 k2 k3 b6 hW6 hF0
    rintro e W ⟨hv, hJ⟩
    refine ⟨hv, hJ.rl, fun xc => ?_⟩
    have hJ7 := hJ.put hwl xc
    obtain ⟨W7, hW7⟩ : ∃ W7, W7 = W.putObj (W4.heap.size + 1) (.loop xc) := ⟨_, rfl⟩
    rw [← hW7] at hJ7 ⊢
    obtain ⟨fo, fn, fc, e1, e2⟩ := hJ7.ex
    have cB : W7.cell? ⟨w.heap.size + 1, 0, none⟩ = some (.slice fo fn fc) := by simp [World.cell?, e1]
    have hfn := e2.1
    have hrd := hJ7.rd
    have hf := Dat.fr_put W7 W4.heap.size (.deferred none)
    have hwD : w.heap.size ≤ W4.heap.size := b4.size
    have HX : Hid (Rw (W7.putObj W4.heap.size (.deferred none)) w.heap.size fo fn fc (frs T z K) ∧ Below w.heap.size w (W7.putObj W4.heap.size (.deferred none))) := by
      refine ⟨e2.fr hf (fun k hk hx => ?_), hJ7.bel.trans (hf.below _ hJ7.bel.size (fun k hk => by have : k = W4.heap.size := hk; omega))⟩
      obtain ⟨_, _, cur, hcur⟩ := e2.own hk
      have hx : k = W4.heap.size := hx
      rw [hx, hrd] at hcur
      cases hcur
    have HRd := hide hrd
    have HFn := hide hfn
    clear hJ hJ7 hW7 e1 e2 hrd hf hfn
    gi_wp2
    refine ⟨by simp, .inl ⟨_, _, rfl, run_takeDeferred HRd.out, ?_⟩⟩
    refine ⟨_, results_tmp rfl _ _ _, ?_⟩
    refine ⟨fo, fc, by rw [HFn.out]; rfl, ?_⟩
    rw [HFn.out]
    exact HX.out
end Go.Proofs.YtoohanojfoichaaGreatDoor

/- Layer 12: Add, by the program. -/
namespace Go.Proofs.YtoohanojfoichaaGreatDoor
set_option linter.unusedVariables false
open Go.RowKit Go.Maps
open Lz (g)
open Crc (ent more)
open Frm Mtr Dat

/-- What Add answers, and leaves. -/
def DAdds (first : Nat) (s : Ws) (r z : List Int) (p tb : Nat) (O : Nat → Prop) (w w' : World) (e : Ending) : Prop :=
  ∃ ao c, e = .returned (.tuple #[.int .i64 (addA first s r : Nat), .slice ao (tl z).length c]) ∧ Bs w' ao (tl z).length (tl z) ∧ ((∀ a, ao = some a → w.heap.size ≤ a.block) ∧ (ao = none → c = 0)) ∧ ∃ O', WrD w' p O' tb first (addS first s r) ∧ Fr O w w' ∧ Gr O O' w ∧ ∀ a, ao = some a → 0 < (tl z).length → ¬ O' a.block
theorem run_frs (T : Nat → Nat) (z : List Int) (K : Nat) (h : z.length / 128 = K) : frs T (z.take (128 * K)) K = run T z := by
  have e := List.take_append_drop (128 * K) z
  have hl : 128 * K ≤ (z.take (128 * K)).length := by rw [List.length_take]; omega
  have := frs_append T (z.take (128 * K)) (z.drop (128 * K)) K hl
  rw [e] at this
  unfold run
  rw [h, this]
theorem Bs_blt {w : World} {ao : Option Addr} {n : Nat} {z : List Int} (h : Bs w ao n z) {a : Addr} (ha : ao = some a) (hn : 0 < n) : a.block < w.heap.size := by
  rcases h.2.2 with h0 | ⟨b, off, h1, h2, _⟩
  · omega
  · rw [ha] at h1
    obtain rfl := Option.some.inj h1
    exact h2
/-- What the writer's map tells. -/
theorem WrD.looks {w : World} {p tb first : Nat} {O : Nat → Prop} {s : Ws} (h : WrD w p O tb first s) {r : List Int} (hr : Bytes r) (hl : r.length ≤ 1000000) :
    ∃ mb, w.cell? ⟨p, 3, none⟩ = some (.map (some mb)) ∧ ∀ q, (Instr.lookup 129 (.map (some mb)) (.string (strOfNums r)) true).run Tryz.prog (w.drewN q) = .ok (.tuple #[.int .i64 (((Dat.look s.2 r).getD 0 : Nat) : Int), .bool (Dat.look s.2 r).isSome]) (w.drewN q) := by
  obtain ⟨lo, ln, lc, mb, h1, h2, h3, h4, h5, h6, h7⟩ := h
  exact ⟨mb, h1.c3, fun q => (show MpD (w.drewN q) mb s.2 from h4.same rfl).look hr hl⟩
/-- A file's frames more. -/
theorem WrD.puts {w : World} {p tb first : Nat} {O : Nat → Prop} {s : Ws} (h : WrD w p O tb first s) {r : List Int} (hr : Bytes r) (hl : r.length ≤ 1000000) (hM : s.2.length ≤ 1000000) (hn : Dat.look s.2 r = none) (a : Nat) :
    ∃ mb, w.cell? ⟨p, 3, none⟩ = some (.map (some mb)) ∧ ∃ w', (Instr.mapUpdate 129 (.map (some mb)) (.string (strOfNums r)) (.int .i64 (a : Int))).run Tryz.prog w = .ok () w' ∧ WrD w' p O tb first (s.1, s.2 ++ [(r, a)]) ∧ Fr O w w' := by
  obtain ⟨lo, ln, lc, mb, h1, h2, h3, h4, h5, h6, h7⟩ := h
  obtain ⟨w', k1, k2, k3⟩ := h4.store hr hl hM hn a
  have hf : Fr (One mb) w w' := Fr.of_grown k3 (fun k hk => by cases hk; rfl)
  refine ⟨mb, h1.c3, w', k1, ⟨lo, ln, lc, mb, h1.fr hf (fun e => ?_), h2, h3.fr hf (fun k hk e => ?_), k2, h5, h6, fun k hk => Nat.lt_of_lt_of_le (h7 k hk) hf.size⟩, hf.mono (fun i _ hi => ?_)⟩
  · exact h4.ne (show w.heap[p]? = _ from h1) e
  · obtain ⟨_, _, cur, hcur⟩ := h3.own hk
    exact h4.ne hcur e
  · have : i = mb := hi
    rw [this]; exact h5
set_option maxRecDepth 100000 in
set_option maxHeartbeats 2000000 in
theorem dAdd_any (p tb first n c : Nat) (O : Nat → Prop) (ao : Option Addr) (T : Nat → Nat) (s : Ws) (z : List Int) (w : World) (h : WrD w p O tb first s) (hT : Tb w tb T) (htb : tb < w.heap.size) (hS : Small T) (hb : Bs w ao n z) (hc : n ≤ c) (hcm : c ≤ 9223372036854775807) (hnil : ao = none → c = 0) (hf : first ≤ 1000000) (hL : s.1.length ≤ 500000) (hM : s.2.length ≤ 500000) (hn : n ≤ 100000) :
    Calls Tryz.prog 37 #[.pointer (some ⟨p, 0, none⟩), .slice ao n c] w fun e w' => DAdds first s (run T z) z p tb O w w' e := by
  have hz := hb.1
  obtain ⟨K, hK⟩ : ∃ K, n / 128 = K := ⟨_, rfl⟩
  have hKb : K ≤ 1000 := by omega
  have HWh := hide (wholeOf_any n w (by omega))
  rw [hK] at HWh
  have hKn : 128 * K ≤ n := by omega
  have hKi : ((128 * K : Nat) : Int) = 128 * (K : Int) := by omega
  obtain ⟨KK, hKK⟩ : ∃ KK, 128 * K = KK := ⟨_, rfl⟩
  rw [hKK] at HWh hKn
  have HTl : Hid (tl z = z.drop KK) := by show _ = _; unfold tl; rw [hz, hK, hKK]
  have hR := hb.toB.rest (cap := c) KK hKn hc
  have HTN : Hid ((if c = KK then ao else Option.map (fun x : Addr => x.add KK) ao) = none → c - KK = 0) := fun e => by
    by_cases e4 : c = KK
    · omega
    · rw [if_neg e4] at e
      cases ao with
      | none => have := hnil rfl; omega
      | some a => simp at e
  have HCl := hide (CloneNew_any (n - KK) (c - KK) (if c = KK then ao else Option.map (fun x : Addr => x.add KK) ao) (z.drop KK) w hR (by omega) HTN.out (by omega))
  have HW := hide h
  have HB := hide hb
  have HTb := hide hT
  have hKi2 : (KK : Int) ≤ (n : Int) := by omega
  have hKi3 : (KK : Int) ≤ (c : Int) := by omega
  obtain ⟨rl, hrl⟩ : ∃ rl, (run T z).length = rl := ⟨_, rfl⟩
  have hrlb : rl ≤ 150000 := by have := (run_length T z).2; rw [hz, hK] at this; omega
  have HRB := hide (run_bytes T hb.bytes)
  have HFO : Hid (∀ w2, Below w.heap.size w w2 → ¬ KK = 0 → Calls Tryz.prog 83 #[.pointer (some ⟨p, 0, none⟩), .slice ao KK c] w2 fun r w' => ∃ ao' c', r = .returned (.slice ao' rl c') ∧ Rw w' w2.heap.size ao' rl c' (run T z) ∧ Below w2.heap.size w2 w') := fun w2 hb2 hk0 => by
    obtain ⟨b, off, rfl, hbl, hseg⟩ : ∃ b off, ao = some ⟨b, off, none⟩ ∧ b < w.heap.size ∧ Seg w b off z := by
      rcases hb.2.2 with h0 | h0
      · omega
      · exact h0
    have c0 : w2.cell? ⟨p, 0, none⟩ = some (.pointer (some ⟨tb, 0, none⟩)) ∧ p < w2.heap.size := by
      have h2 := h.below hb2
      obtain ⟨lo, ln, lc, mb, hd, _⟩ := h2
      exact ⟨hd.c0, hd.lt⟩
    have hB2 : Bs w2 (some ⟨b, off, none⟩) KK (z.take KK) := (hb.below hb2).take KK hKn
    have := framesOf_any p tb KK c K b off T (z.take KK) w2 c0.1 c0.2 (hT.below hb2 htb) (Nat.lt_of_lt_of_le htb hb2.size) hS hB2 hKK.symm (by omega) hKb (by omega) hcm
    rw [← hKK, run_frs T z K (by rw [hz, hK]), hrl] at this
    rw [← hKK]
    exact this
  have HLk := hide (fun (w3 : World) O3 (h3 : WrD w3 p O3 tb first s) => h3.looks (run_bytes T hb.bytes) (by rw [hrl]; omega))
  have HSt := hide (fun (w3 : World) O3 (h3 : WrD w3 p O3 tb first (s.1 ++ run T z, s.2)) hno => h3.puts (run_bytes T hb.bytes) (by rw [hrl]; omega) (by show s.2.length ≤ _; omega) hno (first + s.1.length))
  have Hrl := hide hrl
  clear hrl
  clear hT hR hKi h
  have HRn := hide (run_nil T z)
  rw [hz, hK] at HRn
  have HKK := hide hKK
  have HK := hide hK
  have HNil := hide hnil
  clear hKK hK hnil hb
  obtain ⟨m, hm⟩ : ∃ m, n - KK = m := ⟨_, rfl⟩
  have HCl2 : Hid (Calls Tryz.prog 54 #[.slice (if c = KK then ao else Option.map (fun x : Addr => x.add KK) ao) (n - KK) (c - KK)] w fun r w' => ∃ ao' c', r = .returned (.slice ao' m c') ∧ New w w' ao' m c' (z.drop KK)) := by rw [hm] at HCl ⊢; exact HCl
  have Hm := hide hm
  have hmb : m ≤ 100000 := by omega
  clear HCl hm
  by_cases e4 : c = KK
  · rw [if_pos e4] at HCl2
    obtain rfl : KK = c := e4.symm
    obtain rfl : KK = n := by omega
    rw [Nat.sub_self] at HCl2
    obtain ⟨n, hnK⟩ : ∃ n, n = KK := ⟨_, rfl⟩
    rw [← hnK] at hz
    have Hm : Hid (n - KK = m) := by rw [hnK]; exact Hm
    clear hnK
    clear HTN
    go_enter Tryz.func37, Tryz.ntmps37
    go_wp2_with (first | (go_at_call 82; refine HWh.out.mono ?_; rintro r w1 ⟨rfl, rfl⟩) | fail)
    obtain ⟨w, rfl⟩ : ∃ w, w = w1 := ⟨_, rfl⟩
    refine HCl2.out.mono ?_
    rintro r w2 ⟨tlo, tc, rfl, hN⟩
    have HN := hide hN
    have Hb2 := hide hN.bel
    clear hN HCl2 HWh
    by_cases hK0 : KK = 0
    · have h0' : ((KK : Int) == 0) = true := by simp; omega
      have HA : Hid (DAdds first s (run T z) z p tb O w w2 (.returned (.tuple #[.int .i64 0, .slice tlo m tc]))) := by
        have hr : run T z = [] := HRn.out.2 (by have := HKK.out; omega)
        have htl : (tl z).length = m := by rw [HTl.out, List.length_drop, hz]; exact Hm.out
        refine ⟨tlo, tc, by rw [hr, (add_nil first s).1, htl]; rfl, ?_, ⟨fun a ha => (HN.out.own a ha).1, HN.out.nil⟩, O, ?_, Fr.of_below Hb2.out, Gr.refl _ _, fun a ha _ hx => by have := (HN.out.own a ha).1; have := HW.out.olt _ hx; omega⟩
        · rw [htl, HTl.out]; exact HN.out.bs
        · rw [hr, (add_nil first s).2]; exact HW.out.below Hb2.out
      clear hK0
      go_wp2
      go_ret2
      exact HA.out
    · have h0' : ((KK : Int) == 0) = false := by simp; omega
      have HF := hide (HFO.out w2 Hb2.out hK0)
      have hrne : run T z ≠ [] := fun e => hK0 (by have := HRn.out.1 e; have := HKK.out; omega)
      have HRne := hide hrne
      clear HFO hrne
      go_wp2_with fail
      refine HF.out.mono ?_
      rintro r w3 ⟨fo, fc, rfl, hR3, hb3⟩
      have HW3 := hide ((HW.out.below Hb2.out).below hb3)
      have Hb3 := hide (Hb2.out.trans (hb3.mono Hb2.out.size))
      have HR3 := hide hR3
      have HT3 := hide (HN.out.bs.below hb3)
      obtain ⟨mb, c3, hlk⟩ := HLk.out w3 O HW3.out
      have hst : ∀ q, (convert 25 9 (.slice fo rl fc)).run Tryz.prog (w3.drewN q) = .ok (.string (strOfNums (run T z))) (w3.drewN q) := fun q => str_any (show Bs (w3.drewN q) fo rl (run T z) from HR3.out.bs) fc
      clear hR3 hb3 HF HLk
      have htl : (tl z).length = m := by rw [HTl.out, List.length_drop, hz]; exact Hm.out
      have HTLL := hide htl
      clear htl
      cases hlo : Dat.look s.2 (run T z) with
      | some a =>
        rw [hlo] at hlk
        simp only [Option.getD_some, Option.isSome_some] at hlk
        have HA : Hid (∀ q, DAdds first s (run T z) z p tb O w (w3.drewN q) (.returned (.tuple #[.int .i64 (a : Nat), .slice tlo m tc]))) := fun q => by
          obtain ⟨a1, a2⟩ := add_some (first := first) HRne.out hlo
          refine ⟨tlo, tc, by rw [a1, HTLL.out], ?_, ⟨fun a ha => (HN.out.own a ha).1, HN.out.nil⟩, O, ?_, (Fr.of_below Hb3.out).drewN q, Gr.refl _ _, fun a ha _ hx => by have := (HN.out.own a ha).1; have := HW.out.olt _ hx; omega⟩
          · rw [HTLL.out, HTl.out]; exact HT3.out
          · rw [a2]; exact HW3.out
        clear hlo HSt
        go_wp2_with fail
        go_quiet (fail)
        go_wp2
        go_ret2
        exact HA.out _
      | none =>
        rw [hlo] at hlk
        simp only [Option.getD_none, Option.isSome_none] at hlk
        have HLo := hide hlo
        have HLay := hide (fun q => lay_any p tb first rl fc O fo s (run T z) (w3.drewN q) (show WrD (w3.drewN q) p O tb first s from HW3.out) (show Bs (w3.drewN q) fo rl (run T z) from HR3.out.bs) HR3.out.nil hf (by omega) (by omega))
        obtain ⟨A, hA⟩ : ∃ A, A = first + s.1.length := ⟨_, rfl⟩
        rw [← hA] at HLay HSt
        have HAe := hide hA
        clear hlo hA
        go_wp2_with fail
        go_quiet (fail)
        go_wp2_with fail
        refine (HLay.out nq).mono ?_
        rintro r w4 ⟨rfl, O4, hW4, hF4, hG4⟩
        have hF4' : Fr O w3 w4 := ⟨hF4.os, hF4.tape, hF4.output, hF4.size, hF4.block⟩
        have hG4' : Gr O O4 w3 := hG4
        clear hF4 hG4 HLay
        have hOlt := HW.out.olt
        have hw2 := Hb2.out.size
        have hR4 : Rw w4 w2.heap.size fo rl fc (run T z) := HR3.out.fr hF4' (fun k hk hx => by have := (HR3.out.own hk).1; have := hOlt k hx; omega)
        have hT4 : Bs w4 tlo m (z.drop KK) := HT3.out.fr hF4' (fun a ha _ hx => by have := (HN.out.own a ha).1; have := hOlt _ hx; omega)
        obtain ⟨mb4, c34, w5, hup, hW5, hF5⟩ := HSt.out w4.drew O4 (show WrD w4.drew p O4 tb first (s.1 ++ run T z, s.2) from hW4) HLo.out
        have hst4 : ∀ W : World, W = w4.drew → (convert 25 9 (.slice fo rl fc)).run Tryz.prog W = .ok (.string (strOfNums (run T z))) W := fun W e => by rw [e]; exact str_any (show Bs w4.drew fo rl (run T z) from hR4.bs) fc
        have hst5 := hst4 w4.drew rfl
        have HA : Hid (DAdds first s (run T z) z p tb O w w5 (.returned (.tuple #[.int .i64 (A : Nat), .slice tlo m tc]))) := by
          obtain ⟨a1, a2⟩ := add_none (first := first) HRne.out HLo.out
          have hF45 : Fr O4 w4 w5 := ⟨hF5.os, hF5.tape, hF5.output, hF5.size, hF5.block⟩
          have hno : ∀ a, tlo = some a → 0 < m → ¬ O4 a.block := fun a ha hm hx => by
            have h1 := (HN.out.own a ha).1
            rcases hG4' _ hx with h2 | h2
            · have := hOlt _ h2; omega
            · have := Bs_blt HT3.out ha hm; omega
          have hT5 : Bs w5 tlo m (z.drop KK) := hT4.fr hF45 hno
          have hF : Fr O w w5 := ((Fr.of_below Hb3.out).then hF4').gr (fun k hk => (hG4' k hk).imp id (fun h => Nat.le_trans Hb3.out.size h)) hF45
          refine ⟨tlo, tc, by rw [a1, HTLL.out, HAe.out], ?_, ⟨fun a ha => (HN.out.own a ha).1, HN.out.nil⟩, O4, ?_, hF, fun k hk => (hG4' k hk).imp id (fun h => Nat.le_trans Hb3.out.size h), by rw [HTLL.out]; exact hno⟩
          · rw [HTLL.out, HTl.out]; exact hT5
          · rw [a2, ← HAe.out]; exact hW5
        clear hF4' hG4' hOlt hR4 hT4 hW5 hF5 hW4 hst4 hst hlk c3
        go_wp2_with fail
        go_region
        all_goals (
          go_wp2
          go_ret2
          exact HA.out)
  · rw [if_neg e4] at HCl2
    clear HTN
    go_enter Tryz.func37, Tryz.ntmps37
    go_wp2_with (first | (go_at_call 82; refine HWh.out.mono ?_; rintro r w1 ⟨rfl, rfl⟩) | fail)
    obtain ⟨w, rfl⟩ : ∃ w, w = w1 := ⟨_, rfl⟩
    refine HCl2.out.mono ?_
    rintro r w2 ⟨tlo, tc, rfl, hN⟩
    have HN := hide hN
    have Hb2 := hide hN.bel
    clear hN HCl2 HWh
    by_cases hK0 : KK = 0
    · have h0' : ((KK : Int) == 0) = true := by simp; omega
      have HA : Hid (DAdds first s (run T z) z p tb O w w2 (.returned (.tuple #[.int .i64 0, .slice tlo m tc]))) := by
        have hr : run T z = [] := HRn.out.2 (by have := HKK.out; omega)
        have htl : (tl z).length = m := by rw [HTl.out, List.length_drop, hz]; exact Hm.out
        refine ⟨tlo, tc, by rw [hr, (add_nil first s).1, htl]; rfl, ?_, ⟨fun a ha => (HN.out.own a ha).1, HN.out.nil⟩, O, ?_, Fr.of_below Hb2.out, Gr.refl _ _, fun a ha _ hx => by have := (HN.out.own a ha).1; have := HW.out.olt _ hx; omega⟩
        · rw [htl, HTl.out]; exact HN.out.bs
        · rw [hr, (add_nil first s).2]; exact HW.out.below Hb2.out
      clear hK0
      go_wp2
      go_ret2
      exact HA.out
    · have h0' : ((KK : Int) == 0) = false := by simp; omega
      have HF := hide (HFO.out w2 Hb2.out hK0)
      have hrne : run T z ≠ [] := fun e => hK0 (by have := HRn.out.1 e; have := HKK.out; omega)
      have HRne := hide hrne
      clear HFO hrne
      go_wp2_with fail
      refine HF.out.mono ?_
      rintro r w3 ⟨fo, fc, rfl, hR3, hb3⟩
      have HW3 := hide ((HW.out.below Hb2.out).below hb3)
      have Hb3 := hide (Hb2.out.trans (hb3.mono Hb2.out.size))
      have HR3 := hide hR3
      have HT3 := hide (HN.out.bs.below hb3)
      obtain ⟨mb, c3, hlk⟩ := HLk.out w3 O HW3.out
      have hst : ∀ q, (convert 25 9 (.slice fo rl fc)).run Tryz.prog (w3.drewN q) = .ok (.string (strOfNums (run T z))) (w3.drewN q) := fun q => str_any (show Bs (w3.drewN q) fo rl (run T z) from HR3.out.bs) fc
      clear hR3 hb3 HF HLk
      have htl : (tl z).length = m := by rw [HTl.out, List.length_drop, hz]; exact Hm.out
      have HTLL := hide htl
      clear htl
      cases hlo : Dat.look s.2 (run T z) with
      | some a =>
        rw [hlo] at hlk
        simp only [Option.getD_some, Option.isSome_some] at hlk
        have HA : Hid (∀ q, DAdds first s (run T z) z p tb O w (w3.drewN q) (.returned (.tuple #[.int .i64 (a : Nat), .slice tlo m tc]))) := fun q => by
          obtain ⟨a1, a2⟩ := add_some (first := first) HRne.out hlo
          refine ⟨tlo, tc, by rw [a1, HTLL.out], ?_, ⟨fun a ha => (HN.out.own a ha).1, HN.out.nil⟩, O, ?_, (Fr.of_below Hb3.out).drewN q, Gr.refl _ _, fun a ha _ hx => by have := (HN.out.own a ha).1; have := HW.out.olt _ hx; omega⟩
          · rw [HTLL.out, HTl.out]; exact HT3.out
          · rw [a2]; exact HW3.out
        clear hlo HSt
        go_wp2_with fail
        go_quiet (fail)
        go_wp2
        go_ret2
        exact HA.out _
      | none =>
        rw [hlo] at hlk
        simp only [Option.getD_none, Option.isSome_none] at hlk
        have HLo := hide hlo
        have HLay := hide (fun q => lay_any p tb first rl fc O fo s (run T z) (w3.drewN q) (show WrD (w3.drewN q) p O tb first s from HW3.out) (show Bs (w3.drewN q) fo rl (run T z) from HR3.out.bs) HR3.out.nil hf (by omega) (by omega))
        obtain ⟨A, hA⟩ : ∃ A, A = first + s.1.length := ⟨_, rfl⟩
        rw [← hA] at HLay HSt
        have HAe := hide hA
        clear hlo hA
        go_wp2_with fail
        go_quiet (fail)
        go_wp2_with fail
        refine (HLay.out nq).mono ?_
        rintro r w4 ⟨rfl, O4, hW4, hF4, hG4⟩
        have hF4' : Fr O w3 w4 := ⟨hF4.os, hF4.tape, hF4.output, hF4.size, hF4.block⟩
        have hG4' : Gr O O4 w3 := hG4
        clear hF4 hG4 HLay
        have hOlt := HW.out.olt
        have hw2 := Hb2.out.size
        have hR4 : Rw w4 w2.heap.size fo rl fc (run T z) := HR3.out.fr hF4' (fun k hk hx => by have := (HR3.out.own hk).1; have := hOlt k hx; omega)
        have hT4 : Bs w4 tlo m (z.drop KK) := HT3.out.fr hF4' (fun a ha _ hx => by have := (HN.out.own a ha).1; have := hOlt _ hx; omega)
        obtain ⟨mb4, c34, w5, hup, hW5, hF5⟩ := HSt.out w4.drew O4 (show WrD w4.drew p O4 tb first (s.1 ++ run T z, s.2) from hW4) HLo.out
        have hst4 : ∀ W : World, W = w4.drew → (convert 25 9 (.slice fo rl fc)).run Tryz.prog W = .ok (.string (strOfNums (run T z))) W := fun W e => by rw [e]; exact str_any (show Bs w4.drew fo rl (run T z) from hR4.bs) fc
        have hst5 := hst4 w4.drew rfl
        have HA : Hid (DAdds first s (run T z) z p tb O w w5 (.returned (.tuple #[.int .i64 (A : Nat), .slice tlo m tc]))) := by
          obtain ⟨a1, a2⟩ := add_none (first := first) HRne.out HLo.out
          have hF45 : Fr O4 w4 w5 := ⟨hF5.os, hF5.tape, hF5.output, hF5.size, hF5.block⟩
          have hno : ∀ a, tlo = some a → 0 < m → ¬ O4 a.block := fun a ha hm hx => by
            have h1 := (HN.out.own a ha).1
            rcases hG4' _ hx with h2 | h2
            · have := hOlt _ h2; omega
            · have := Bs_blt HT3.out ha hm; omega
          have hT5 : Bs w5 tlo m (z.drop KK) := hT4.fr hF45 hno
          have hF : Fr O w w5 := ((Fr.of_below Hb3.out).then hF4').gr (fun k hk => (hG4' k hk).imp id (fun h => Nat.le_trans Hb3.out.size h)) hF45
          refine ⟨tlo, tc, by rw [a1, HTLL.out, HAe.out], ?_, ⟨fun a ha => (HN.out.own a ha).1, HN.out.nil⟩, O4, ?_, hF, fun k hk => (hG4' k hk).imp id (fun h => Nat.le_trans Hb3.out.size h), by rw [HTLL.out]; exact hno⟩
          · rw [HTLL.out, HTl.out]; exact hT5
          · rw [a2, ← HAe.out]; exact hW5
        clear hF4' hG4' hOlt hR4 hT4 hW5 hF5 hW4 hst4 hst hlk c3
        go_wp2_with fail
        go_region
        all_goals (
          go_wp2
          go_ret2
          exact HA.out)
end Go.Proofs.YtoohanojfoichaaGreatDoor

/- Layer 12: a file's frames, by the program: framesOf. -/
import Derived.Test.YtifmikdknifcoaaDatWrite
import Derived.Test.YtifmikdknifcoaaDatChunk
import Derived.Test.YtifmikdknifcoaaDatRead
import Derived.Stop.BytesEq
namespace Go.Proofs.Ytifmikdknifcoaa
set_option linter.unusedVariables false
open Go.RowKit Go.Maps Go.Shelf
open Lz (g)
open Crc (ent more)
open Frm Mtr Dat
attribute [local go_sem] Oper.semAt_some

namespace Dat
/-- Numbers as bytes. -/
def u8 (zs : List Int) : List UInt8 := zs.map fun n => UInt8.ofNat n.toNat
theorem u8_length (zs : List Int) : (u8 zs).length = zs.length := by simp [u8]
theorem bv_u8 : ∀ {zs : List Int}, Bytes zs → bv zs = (u8 zs).map Extern.Stop.cell
  | [], _ => rfl
  | z :: zs, h => by
    have h0 := h z (by simp)
    have ih := bv_u8 (zs := zs) (fun x hx => h x (by simp [hx]))
    simp only [bv, u8, List.map_cons, List.cons.injEq] at ih ⊢
    refine ⟨?_, ih⟩
    show Value.int .u8 z = .int .u8 (((UInt8.ofNat z.toNat).toNat : Nat) : Int)
    rw [UInt8.toNat_ofNat_of_lt' (by show z.toNat < 256; omega), Int.toNat_of_nonneg h0.1]
theorem u8_inj {xs ys : List Int} (hx : Bytes xs) (hy : Bytes ys) (h : u8 xs = u8 ys) : xs = ys := by
  refine str_inj hx hy ?_
  unfold u8 at h
  simp only [strOfNums]
  rw [h]
theorem hol_iff {b : List Int} (h : b.length = 128) : hol b = true ↔ b = List.replicate 128 0 := by
  refine ⟨fun hh => by have := hol_all hh; rw [h] at this; exact this, fun hh => by rw [hh]; decide⟩
end Dat
set_option maxRecDepth 100000 in
theorem equalIn_blks (w : World) {F Z : List Int} (hF : F.length = 128) (hb : Bytes F) (hZ : Z.length = 128) (hz : Bytes Z) : (Op.equalIn 10000 73 (.agg (blc F)) (.agg (blc Z))).run Try.prog w = .ok (decide (F = Z)) w := by
  have := run_equalIn_bytes (P := Try.prog) w 9998 73 5 128 Try.underlying73 Try.underlying5 (fun w => by simp [Try.sizeOf5]) (Dat.u8 F) (Dat.u8 Z) (by rw [Dat.u8_length, hF]) (by rw [Dat.u8_length, hZ])
  rw [← Dat.bv_u8 hb, ← Dat.bv_u8 hz] at this
  unfold blc
  rw [this]
  congr 1
  rw [Bool.eq_iff_iff, beq_iff_eq, decide_eq_true_eq]
  exact ⟨Dat.u8_inj hb hz, fun h => by rw [h]⟩
theorem equalIn_blk (w : World) {F : List Int} (hF : F.length = 128) (hb : Bytes F) : (Op.equalIn 10000 73 (.agg (blc F)) (.agg (Array.replicate 128 (.int .u8 0)))).run Try.prog w = .ok (hol F) w := by
  have e : decide (F = List.replicate 128 0) = hol F := by rw [Bool.eq_iff_iff, decide_eq_true_eq, Dat.hol_iff hF]
  rw [zeros_blc, ← e]
  exact equalIn_blks w hF hb (by simp) (fun y hy => by simp at hy; omega)
theorem arrayAt_blk (W : World) (a : Option Addr) (cap : Nat) : (Instr.arrayAt 73 (.slice a 128 cap)).run Try.prog W = .ok (.pointer a) W := by
  simp [Instr.arrayAt, run_underlying Try.underlying73]
/-- A block loaded out of a row's midst, within a round. -/
theorem wpListIn_load_blk {F : Fence} {nF : Nat} {w : World} {ops : Array Oper} {rest : List Oper} {o : Oper} {a : Act} {Q : Exit → Act → World → Prop} (hgd : o.guard = none) (x : Operand) (ho : o.op = .load 73 x)
    (b off : Nat) (X : Array Value) (hx : a.eval x = .pointer (some ⟨b, off, none⟩)) (hr : (Instr.loadAt 73 (.pointer (some ⟨b, off, none⟩))).run Try.prog w = .ok (.agg X) w)
    (h : wpListIn F nF Try.prog ops Q rest (a.put o.dst (.agg X)) w) : wpListIn F nF Try.prog ops Q (o :: rest) a w := by
  refine wpListIn_plain hgd fun K hK' => ?_
  unfold Oper.wpIn
  refine ⟨?_, ?_⟩
  · simp [Oper.about, ho]
  · rw [Oper.semAt_plain F _ _ (by rw [ho]; intro c hc'; cases hc')]
    unfold execOp
    simp only [ho, hx, Sem.run_bind, Sem.run_pure, Result.andThen_ok, hr]
    exact hK' _ _ h
/-- 'append' to a row of the call's own, within a round. -/
theorem wpListIn_append_rw {F : Fence} {nF : Nat} (w : World) {ops : Array Oper} {rest : List Oper} {o : Oper} {a : Act} {Q : Exit → Act → World → Prop} (hgd : o.guard = none) (s x : Operand)
    (ho : o.op = .call { callee := .builtin .append, args := #[s, x], argTypes := #[34, 34] })
    (B : Nat) (vo : Option Addr) (n vc : Nat) (xs : List Int) (hs : a.eval s = .slice vo n vc) (hR : Rw w B vo n vc xs)
    (ao : Option Addr) (m c : Nat) (zs : List Int) (hx : a.eval x = .slice ao m c) (hb : Bs w ao m zs) (hnil : ao = none → c = 0)
    (hbd : n + m ≤ 100000000) (hB : B ≤ w.heap.size)
    (h : ∀ ao' c' w', Rw w' B ao' (n + m) c' (xs ++ zs) → w.grownBy w' (Value.slice vo n vc).ownBlock → Lie w (.slice vo n vc) (.slice ao' (n + m) c') → wpListIn F nF Try.prog ops Q rest (a.put o.dst (.slice ao' (n + m) c')) w') :
    wpListIn F nF Try.prog ops Q (o :: rest) a w := by
  refine wpListIn_plain hgd fun K hK' => ?_
  obtain ⟨ao', c', w', hrun, r1, r2, r3⟩ := run_append_rw w o.type hR hB hb hnil hbd
  unfold Oper.wpIn
  refine ⟨?_, ?_⟩
  · simp [Oper.about, ho, resolve, Target.leads, Sem.run_pure]
  · rw [Oper.semAt_plain F _ _ (by rw [ho]; intro c hc'; cases hc')]
    simp [execOp, ho, resolve, invoke, builtin, hs, hx, hrun, Result.andThen]
    exact hK' _ _ (h ao' c' w' r1 r2 r3)
theorem Dat.fr_put (W : World) (k : Nat) (o : Obj) : Fr (One k) W (W.putObj k o) := ⟨rfl, rfl, rfl, by simp, fun i _ hn => World.putObj_heap_other (fun e => hn e)⟩
/-- What the loop holds: the frames so far, in the variable at Bl; the boxes at Bw, B1, B2; the record at l, the block for deferred calls at D. -/
structure FJ (w : World) (p Bl Bw B1 B2 D l : Nat) (sl : Value) (rc : Loop) (F : List Int) (W : World) : Prop where
  ex : ∃ fo fn fc, W.heap[Bl]? = some (.cells #[.slice fo fn fc] 34 (0, 0)) ∧ Rw W w.heap.size fo fn fc F
  bx : W.heap[Bw]? = some (.cells #[.pointer (some ⟨p, 0, none⟩)] 30 (0, 0))
  k1 : W.heap[B1]? = some (.cells #[sl] 34 (0, 0))
  k2 : W.heap[B2]? = some (.cells #[.int .i64 128] 3 (0, 0))
  rl : W.heap[l]? = some (.loop rc)
  rd : W.heap[D]? = some (.deferred (some []))
  bel : Below w.heap.size w W
section
variable {w W : World} {p Bl Bw B1 B2 D l : Nat} {sl : Value} {rc bc : Loop} {F : List Int}
theorem FJ.below {W' : World} (h : FJ w p Bl Bw B1 B2 D l sl rc F W) (hb : Below W.heap.size W W') : FJ w p Bl Bw B1 B2 D l sl rc F W' := by
  obtain ⟨fo, fn, fc, e1, e2⟩ := h.ex
  have hf : Fr (fun _ => False) W W' := Fr.of_below hb
  exact ⟨⟨fo, fn, fc, (hb.block _ (heap_lt e1)).trans e1, e2.fr hf (fun _ _ => id)⟩, (hb.block _ (heap_lt h.bx)).trans h.bx, (hb.block _ (heap_lt h.k1)).trans h.k1, (hb.block _ (heap_lt h.k2)).trans h.k2, (hb.block _ (heap_lt h.rl)).trans h.rl, (hb.block _ (heap_lt h.rd)).trans h.rd, h.bel.trans (hb.mono h.bel.size)⟩
theorem FJ.drewN (h : FJ w p Bl Bw B1 B2 D l sl rc F W) (q : Nat) : FJ w p Bl Bw B1 B2 D l sl rc F (W.drewN q) := h.below (below_drewN (Below.refl _ _) q)
theorem ne_loop {W : World} {k l : Nat} {o : Obj} {rc : Loop} (h : W.heap[k]? = some o) (hl : W.heap[l]? = some (.loop rc)) (ho : ∀ r, o ≠ .loop r) : k ≠ l := fun e => by
  subst e
  rw [hl] at h
  exact ho rc (Option.some.inj h).symm
theorem FJ.put (h : FJ w p Bl Bw B1 B2 D l sl rc F W) (hl : w.heap.size ≤ l) (bc : Loop) : FJ w p Bl Bw B1 B2 D l sl bc F (W.putObj l (.loop bc)) := by
  obtain ⟨fo, fn, fc, e1, e2⟩ := h.ex
  have hf := Dat.fr_put W l (.loop bc)
  have hc : ∀ {k : Nat} {cs : Array Value} {t : TypeId} {fz : Nat × Nat}, W.heap[k]? = some (.cells cs t fz) → (W.putObj l (.loop bc)).heap[k]? = some (.cells cs t fz) := fun hk => (hf.block _ (heap_lt hk) (ne_loop hk h.rl (fun r e => by cases e))).trans hk
  refine ⟨⟨fo, fn, fc, hc e1, e2.fr hf (fun k hk => ?_)⟩, hc h.bx, hc h.k1, hc h.k2, World.putObj_heap_same (heap_lt h.rl), (hf.block _ (heap_lt h.rd) (ne_loop h.rd h.rl (fun r e => by cases e))).trans h.rd, h.bel.trans (hf.below _ h.bel.size (fun k hk => by have : k = l := hk; omega))⟩
  obtain ⟨_, _, cur, hcur⟩ := e2.own hk
  exact ne_loop hcur h.rl (fun r e => by cases e)
/-- One frame more. -/
theorem FJ.add {w2 : World} {fo fo' : Option Addr} {fn fc m fc' : Nat} {P : List Int} (h : FJ w p Bl Bw B1 B2 D l sl rc F W) (e1 : W.heap[Bl]? = some (.cells #[.slice fo fn fc] 34 (0, 0))) (e2 : Rw W w.heap.size fo fn fc F) (h1 : Bl ≠ B1) (h2 : w.heap.size ≤ Bl)
    (hA : Rw w2 w.heap.size fo' (fn + m) fc' (F ++ P)) (hg : W.grownBy w2 (Value.slice fo fn fc).ownBlock) (hl : Lie W (.slice fo fn fc) (.slice fo' (fn + m) fc')) :
    w2.heap[Bl]? = some (.cells #[.slice fo fn fc] 34 (0, 0)) ∧ FJ w p Bl Bw B1 B2 D l sl rc (F ++ P) (w2.setCell ⟨Bl, 0, none⟩ (.slice fo' (fn + m) fc')) := by
  have f2 : Fr (fun k => (Value.slice fo fn fc).ownBlock = some k) W w2 := Fr.of_grown hg (fun k hk => hk)
  have fs : Fr (One Bl) w2 (w2.setCell ⟨Bl, 0, none⟩ (.slice fo' (fn + m) fc')) := (Fr.refl (One Bl) _).set (p := ⟨Bl, 0, none⟩) _ (fun _ => rfl)
  have hc : ∀ {k : Nat} {cs : Array Value} {t : TypeId}, W.heap[k]? = some (.cells cs t (0, 0)) → t ≠ 5 → w2.heap[k]? = some (.cells cs t (0, 0)) := fun hk ht => (f2.block _ (heap_lt hk) (fun ho => by
    obtain ⟨_, _, cur, hcur⟩ := e2.own ho
    exact ne_obj hk hcur ht rfl)).trans hk
  have hB := hc e1 (by decide)
  have hc2 : ∀ {k : Nat} {cs : Array Value} {t : TypeId}, W.heap[k]? = some (.cells cs t (0, 0)) → t ≠ 5 → k ≠ Bl → (w2.setCell ⟨Bl, 0, none⟩ (.slice fo' (fn + m) fc')).heap[k]? = some (.cells cs t (0, 0)) := fun hk ht hn => (fs.block _ (heap_lt (hc hk ht)) hn).trans (hc hk ht)
  have hL : w2.heap[l]? = some (.loop rc) := (f2.block _ (heap_lt h.rl) (fun ho => by
    obtain ⟨_, _, cur, hcur⟩ := e2.own ho
    exact ne_loop hcur h.rl (fun r e => by cases e) rfl)).trans h.rl
  have hD : w2.heap[D]? = some (.deferred (some [])) := (f2.block _ (heap_lt h.rd) (fun ho => by
    obtain ⟨_, _, cur, hcur⟩ := e2.own ho
    have := h.rd
    rw [hcur] at this
    cases this)).trans h.rd
  refine ⟨hB, ⟨⟨fo', fn + m, fc', ?_, hA.fr fs (fun k hk hx => ?_)⟩, hc2 h.bx (by decide) ?_, hc2 h.k1 (by decide) (fun e => h1 e.symm), hc2 h.k2 (by decide) ?_, (fs.block _ (heap_lt hL) (fun e => ?_)).trans hL, (fs.block _ (heap_lt hD) (fun e => ?_)).trans hD, ?_⟩⟩
  · rw [heap_setCell_self hB]; rfl
  · obtain ⟨_, _, cur, hcur⟩ := hA.own hk
    exact ne_obj hcur hB (by decide) hx
  · exact ne_obj h.bx e1 (by decide)
  · exact ne_obj h.k2 e1 (by decide)
  · exact ne_loop hB hL (fun r e => by cases e) (Eq.symm e)
  · have e : D = Bl := e
    rw [e, hB] at hD; cases hD
  · refine (h.bel.trans (f2.below _ h.bel.size (fun k hk => (e2.own hk).1))).trans (fs.below _ (Nat.le_trans h.bel.size hg.size) (fun k hk => ?_))
    have : k = Bl := hk
    omega
end
set_option maxRecDepth 100000 in
set_option maxHeartbeats 4000000 in
theorem framesOf_any (p tb n c K b off : Nat) (T : Nat → Nat) (z : List Int) (w : World) (c0 : w.cell? ⟨p, 0, none⟩ = some (.pointer (some ⟨tb, 0, none⟩))) (hpl : p < w.heap.size) (hT : Tb w tb T) (htb : tb < w.heap.size) (hS : Small T) (hB : Bs w (some ⟨b, off, none⟩) n z) (hn : n = 128 * K) (hK1 : 1 ≤ K) (hK : K ≤ 1000) (hc : n ≤ c) (hcm : c ≤ 9223372036854775807) :
    Calls Try.prog 28 #[.pointer (some ⟨p, 0, none⟩), .slice (some ⟨b, off, none⟩) n c] w fun r w' => ∃ ao' c', r = .returned (.slice ao' (frs T z K).length c') ∧ Rw w' w.heap.size ao' (frs T z K).length c' (frs T z K) ∧ Below w.heap.size w w' := by
  have hfx : Fence.wide.fn 44 := trivial
  have hfp : Fence.wide.fn 23 := trivial
  obtain ⟨b', o', hbo, hbl, hseg⟩ : ∃ b' o', some (⟨b, off, none⟩ : Addr) = some ⟨b', o', none⟩ ∧ b' < w.heap.size ∧ Seg w b' o' z := by
    rcases hB.2.2 with h | h
    · omega
    · exact h
  obtain ⟨rfl, rfl⟩ : b = b' ∧ off = o' := by simpa using hbo
  have hz := hB.1
  have hzb := hB.bytes
  have HT := hide hT
  have HSeg := hide hseg
  have HZB := hide hzb
  have HZ := hide hz
  have HN := hide hn
  have HC0 := hide c0
  clear hbo hT hB hseg hzb c0 hz hn
  refine (callsIn_wide (n := 12)).1 ?_
  refine callsIn_of_wp_marks Try.func28 rfl trivial ?_ rfl
  simp only [Try.ntmps28, List.size_toArray, List.length_cons, List.length_nil, Nat.reduceAdd, Nat.reduceSub, Array.replicate_succ, Array.replicate_zero, List.push_toArray, List.append_toArray, List.nil_append, List.cons_append]
  gi_wp2_with (gi_at_call 44; refine (chunk_in _ _ _ _ _).mono ?_; rintro e w' ⟨rfl, rfl⟩)
  obtain ⟨W4, hW4⟩ : ∃ W4, W4 = (((w.alloc (.cells #[.pointer (some ⟨p, 0, none⟩)] 30)).alloc (.cells #[.slice none 0 0] 34)).alloc (.cells #[.slice (some ⟨b, off, none⟩) n c] 34)).alloc (.cells #[.int .i64 128] 3) := ⟨_, rfl⟩
  have hs4 : W4.heap.size = w.heap.size + 1 + 1 + 1 + 1 := by rw [hW4]; simp
  have b4 : Below w.heap.size w W4 := by rw [hW4]; exact (((below_one _ _).alloc (by simp) _).alloc (by simp; omega) _).alloc (by simp; omega) _
  have k0 : W4.heap[w.heap.size]? = some (.cells #[.pointer (some ⟨p, 0, none⟩)] 30 (0, 0)) := by
    rw [hW4]
    exact (((Go.Boxed.new w 30 (.pointer (some ⟨p, 0, none⟩))).alloc _).alloc _).alloc _
  have k1 : W4.heap[w.heap.size + 1]? = some (.cells #[.slice none 0 0] 34 (0, 0)) := by
    rw [hW4]
    have := ((Go.Boxed.new (w.alloc (.cells #[.pointer (some ⟨p, 0, none⟩)] 30)) 34 (.slice none 0 0)).alloc (.cells #[.slice (some ⟨b, off, none⟩) n c] 34)).alloc (.cells #[.int .i64 128] 3)
    rw [World.size_alloc] at this
    exact this
  have k2 : W4.heap[w.heap.size + 1 + 1]? = some (.cells #[.slice (some ⟨b, off, none⟩) n c] 34 (0, 0)) := by
    rw [hW4]
    have := (Go.Boxed.new ((w.alloc (.cells #[.pointer (some ⟨p, 0, none⟩)] 30)).alloc (.cells #[.slice none 0 0] 34)) 34 (.slice (some ⟨b, off, none⟩) n c)).alloc (.cells #[.int .i64 128] 3)
    rw [World.size_alloc, World.size_alloc] at this
    exact this
  have k3 : W4.heap[w.heap.size + 1 + 1 + 1]? = some (.cells #[.int .i64 128] 3 (0, 0)) := by
    rw [hW4]
    have := Go.Boxed.new (((w.alloc (.cells #[.pointer (some ⟨p, 0, none⟩)] 30)).alloc (.cells #[.slice none 0 0] 34)).alloc (.cells #[.slice (some ⟨b, off, none⟩) n c] 34)) 3 (.int .i64 128)
    rw [World.size_alloc, World.size_alloc, World.size_alloc] at this
    exact this
  rw [← hW4]
  have HS4 := hide hs4
  clear hW4 hs4
  refine wpIn_range_st rfl (by omega) (gf := 61) (lb := #[.pointer (some ⟨w.heap.size + 1 + 1, 0, none⟩), .pointer (some ⟨w.heap.size + 1 + 1 + 1, 0, none⟩)]) rfl trivial (enters_of Try.func61 (by kernel_rfl) rfl) ?_
  intro rc bc hround
  obtain ⟨W6, hW6⟩ : ∃ W6, W6 = (W4.alloc (.deferred (some []))).alloc (.loop rc) := ⟨_, rfl⟩
  have b6 : Below W4.heap.size W4 W6 := by rw [hW6]; exact (below_one _ _).alloc (by simp) _
  have kD : W6.heap[W4.heap.size]? = some (.deferred (some [])) := by rw [hW6]; exact (Below.heap_alloc _ _ _ (by simp)).trans (World.alloc_heap_new W4 _)
  have kl : W6.heap[W4.heap.size + 1]? = some (.loop rc) := by rw [hW6]; have := World.alloc_heap_new (W4.alloc (.deferred (some []))) (.loop rc); rwa [World.size_alloc] at this
  rw [← hW6]
  have hF0 : FJ w p (w.heap.size + 1) w.heap.size (w.heap.size + 1 + 1) (w.heap.size + 1 + 1 + 1) W4.heap.size (W4.heap.size + 1) (.slice (some ⟨b, off, none⟩) n c) rc (frs T z 0) W6 :=
    ⟨⟨none, 0, 0, (b6.block _ (heap_lt k1)).trans k1, Rw.none _ _⟩, (b6.block _ (heap_lt k0)).trans k0, (b6.block _ (heap_lt k2)).trans k2, (b6.block _ (heap_lt k3)).trans k3, kl, kD, b4.trans (b6.mono b4.size)⟩
  have hwl : w.heap.size ≤ W4.heap.size + 1 := Nat.le_trans b4.size (Nat.le_succ _)
  refine (chunk1_in 11 (W4.heap.size + 1) (w.heap.size + 1 + 1) (w.heap.size + 1 + 1 + 1) b off n c K (by omega) HN.out hc hcm (by omega) W6 (fun j W => FJ w p (w.heap.size + 1) w.heap.size (w.heap.size + 1 + 1) (w.heap.size + 1 + 1 + 1) W4.heap.size (W4.heap.size + 1) (.slice (some ⟨b, off, none⟩) n c) rc (frs T z j) W)
    (fun j W h => by have := h.k1; simp [World.cell?, this]) (fun j W h => by have := h.k2; simp [World.cell?, this]) (fun j W q h => h.drewN q) ?_ hF0).mono ?_
  · intro j W hj hJ
    refine (hround W #[.slice (some ⟨b, off + 128 * j, none⟩) 128 128] (fun W' => Hid (FJ w p (w.heap.size + 1) w.heap.size (w.heap.size + 1 + 1) (w.heap.size + 1 + 1 + 1) W4.heap.size (W4.heap.size + 1) (.slice (some ⟨b, off, none⟩) n c) rc (frs T z (j + 1)) W')) hJ.rl rfl ?_).mono (fun e W' hh => ⟨hh.1, hh.2.out⟩)
    clear hround
    have hrl := hJ.rl
    have HRl := hide hrl
    have hJ2 := hJ.put hwl bc
    obtain ⟨Wb, hWb⟩ : ∃ Wb, Wb = W.putObj (W4.heap.size + 1) (.loop bc) := ⟨_, rfl⟩
    have HWb := hide hWb
    rw [← hWb] at hJ2
    clear hrl hWb hJ
    have bb := hJ2.bel
    -- the block, its cells, and what is framed of it
    have hbl8 : (blk z j).length = 128 := blk_full (by have := HZ.out; have := HN.out; omega)
    have hbby := blk_bytes HZB.out j
    have hsg : Seg Wb b (off + 128 * j) (blk z j) := by
      have hsg := (HSeg.out.below bb hbl).cut (128 * j) (128 * j + 128)
      rw [List.drop_take, show 128 * j + 128 - 128 * j = 128 by omega] at hsg
      exact hsg
    have hbs : Bs Wb (some ⟨b, off + 128 * j, none⟩) 128 (blk z j) := ⟨hbl8, hbby.g, .inr ⟨b, off + 128 * j, rfl, Nat.lt_of_lt_of_le hbl bb.size, hsg⟩⟩
    obtain ⟨X, hX⟩ : ∃ X, X = blc (blk z j) := ⟨_, rfl⟩
    have hld : (Instr.loadAt 73 (.pointer (some ⟨b, off + 128 * j, none⟩))).run Try.prog Wb = .ok (.agg X) Wb := by
      have hra : Wb.rangeAt b (off + 128 * j) (bv (blk z j)) := fun i v hv => by
        have := news_seg hsg 128
        rw [List.take_of_length_le (by omega)] at this
        have := this i v hv
        rw [Addr.add_lit] at this
        exact this
      have := run_loadAt_mid (P := Try.prog) Wb b (off + 128 * j) 73 (bv (blk z j)) _ hra Try.underlying73 rfl (by rw [bv_length, hbl8]; exact info128)
      rw [hX]; exact this
    have har := arrayAt_blk
    have hzc : Try.zeroCells73 = Array.replicate 128 (.int .u8 0) := by kernel_rfl
    have heq : ∀ W', (Op.equalIn 10000 73 (.agg X) (.agg Try.zeroCells73)).run Try.prog W' = .ok (hol (blk z j)) W' := fun W' => by rw [hX, hzc]; exact equalIn_blk W' hbl8 hbby
    clear hX hzc
    obtain ⟨hh, hhe⟩ : ∃ hh, hol (blk z j) = hh := ⟨_, rfl⟩
    rw [hhe] at heq
    have HHe := hide hhe
    clear hhe
    have c0b : Wb.cell? ⟨p, 0, none⟩ = some (.pointer (some ⟨tb, 0, none⟩)) := (bb.cell (p := ⟨p, 0, none⟩) hpl).trans HC0.out
    have cwb : Wb.cell? ⟨w.heap.size, 0, none⟩ = some (.pointer (some ⟨p, 0, none⟩)) := by have := hJ2.bx; simp [World.cell?, this]
    gi_wp2
    rw [← HWb.out]
    refine ⟨HRl.out, ?_⟩
    have HJ2 := hide hJ2
    have hTb := HT.out.below bb htb
    have htb2 := Nat.lt_of_lt_of_le htb bb.size
    clear hJ2 k0 k1 k2 k3 b6 kD kl hF0 hW6
    cases hh with
    | true =>
      have HE : Hid (([] : List Int) = eb (blk z j)) := by show _ = _; unfold eb; rw [if_pos HHe.out]
      have HP := hide (Put_any tb 0 0 T none [] Wb hTb htb2 hS ⟨rfl, fun i => by simp [g], .inl rfl⟩ (by omega) (fun _ => rfl) (by omega))
      gi_wp2_with (first | refine wpListIn_load_blk rfl _ rfl b (off + 128 * j) X rfl hld ?_ | fail)
      refine (CallsIn.inRound _ (callsIn_wide.2 HP.out)).mono ?_
      rintro e w1 (⟨h1, _⟩ | ⟨_, ao1, c1, rfl, hN⟩)
      · rw [HE.out] at h1; have := eb_le (b := blk z j) (by omega); omega
      rw [HE.out] at hN ⊢
      have hN' : New Wb w1 ao1 (bf T (blk z j)).length c1 (bf T (blk z j)) := hN
      have hJ3 := HJ2.out.below hN'.bel
      obtain ⟨fo, fn, fc, e1, e2⟩ := hJ3.ex
      have hfl := (frs_length T z j).2
      have hbf := (bf_length T (b := blk z j) (by omega)).2
      have hfn := e2.1
      have HFr := hide (frs_succ T z j)
      have HN1 := hide hN'
      have cB : w1.cell? ⟨w.heap.size + 1, 0, none⟩ = some (.slice fo fn fc) := by simp [World.cell?, e1]
      have HA := hide (fun (w2 : World) (fo' : Option Addr) (fc' : Nat) (hA : Rw w2 w.heap.size fo' (fn + (bf T (blk z j)).length) fc' (frs T z j ++ bf T (blk z j))) hg hl => hJ3.add (w2 := w2) e1 e2 (by omega) (by omega) hA hg hl)
      have hsz3 := hJ3.bel.size
      have HE2 := hide e2
      clear hN hN' hJ3 e1 e2 HJ2 c0b cwb hld har heq HP
      obtain ⟨pl, hpl2⟩ : ∃ pl, (bf T (blk z j)).length = pl := ⟨_, rfl⟩
      rw [show (put T (eb (blk z j))).length = pl from hpl2]
      rw [hpl2] at HN1 HA hbf
      have hfb : fn ≤ 200000 := by omega
      clear hfl hfn hpl2
      gi_wp2_with (gi_at_builtin; refine wpListIn_append_rw _ rfl (.tmp 26) (.tmp 27) rfl w.heap.size fo fn fc (frs T z j) rfl HE2.out ao1 pl c1 (bf T (blk z j)) rfl HN1.out.bs HN1.out.nil (by omega) hsz3 ?_; intro ao3 k3 w3 hA hg hl; obtain ⟨t1, t2⟩ := HA.out w3 ao3 k3 hA hg hl; have d0 : w3.cell? ⟨w.heap.size + 1, 0, none⟩ = some (.slice fo fn fc) := (by simp [World.cell?, t1]); have d1 : w3.frozen? ⟨w.heap.size + 1, 0, none⟩ = false := (by simp [World.frozen?, t1]); have HT2 := hide t2; clear t1 t2 hA hg hl)
      exact ⟨HT2.out.rl, by show FJ _ _ _ _ _ _ _ _ _ _ _ _; rw [HFr.out]; exact HT2.out.put hwl rc⟩
    | false =>
      have hE : blk z j = eb (blk z j) := by unfold eb; rw [if_neg (by rw [HHe.out]; simp)]
      have HP := hide (Put_any tb 128 128 T (some ⟨b, off + 128 * j, none⟩) (blk z j) Wb hTb htb2 hS hbs (by omega) (fun h => by simp at h) (by omega))
      obtain ⟨Y, hY⟩ : ∃ Y, Y = blk z j := ⟨_, rfl⟩
      have HE : Hid (Y = eb (blk z j)) := hY.trans hE
      rw [← hY] at HP
      clear hY hE
      gi_wp2_with (first | refine wpListIn_load_blk rfl _ rfl b (off + 128 * j) X rfl hld ?_ | fail)
      refine (CallsIn.inRound _ (callsIn_wide.2 HP.out)).mono ?_
      rintro e w1 (⟨h1, _⟩ | ⟨_, ao1, c1, rfl, hN⟩)
      · rw [HE.out] at h1; have := eb_le (b := blk z j) (by omega); omega
      rw [HE.out] at hN ⊢
      have hN' : New Wb w1 ao1 (bf T (blk z j)).length c1 (bf T (blk z j)) := hN
      have hJ3 := HJ2.out.below hN'.bel
      obtain ⟨fo, fn, fc, e1, e2⟩ := hJ3.ex
      have hfl := (frs_length T z j).2
      have hbf := (bf_length T (b := blk z j) (by omega)).2
      have hfn := e2.1
      have HFr := hide (frs_succ T z j)
      have HN1 := hide hN'
      have cB : w1.cell? ⟨w.heap.size + 1, 0, none⟩ = some (.slice fo fn fc) := by simp [World.cell?, e1]
      have HA := hide (fun (w2 : World) (fo' : Option Addr) (fc' : Nat) (hA : Rw w2 w.heap.size fo' (fn + (bf T (blk z j)).length) fc' (frs T z j ++ bf T (blk z j))) hg hl => hJ3.add (w2 := w2) e1 e2 (by omega) (by omega) hA hg hl)
      have hsz3 := hJ3.bel.size
      have HE2 := hide e2
      clear hN hN' hJ3 e1 e2 HJ2 c0b cwb hld har heq HP
      obtain ⟨pl, hpl2⟩ : ∃ pl, (bf T (blk z j)).length = pl := ⟨_, rfl⟩
      rw [show (put T (eb (blk z j))).length = pl from hpl2]
      rw [hpl2] at HN1 HA hbf
      have hfb : fn ≤ 200000 := by omega
      clear hfl hfn hpl2
      gi_wp2_with (gi_at_builtin; refine wpListIn_append_rw _ rfl (.tmp 26) (.tmp 27) rfl w.heap.size fo fn fc (frs T z j) rfl HE2.out ao1 pl c1 (bf T (blk z j)) rfl HN1.out.bs HN1.out.nil (by omega) hsz3 ?_; intro ao3 k3 w3 hA hg hl; obtain ⟨t1, t2⟩ := HA.out w3 ao3 k3 hA hg hl; have d0 : w3.cell? ⟨w.heap.size + 1, 0, none⟩ = some (.slice fo fn fc) := (by simp [World.cell?, t1]); have d1 : w3.frozen? ⟨w.heap.size + 1, 0, none⟩ = false := (by simp [World.frozen?, t1]); have HT2 := hide t2; clear t1 t2 hA hg hl)
      exact ⟨HT2.out.rl, by show FJ _ _ _ _ _ _ _ _ _ _ _ _; rw [HFr.out]; exact HT2.out.put hwl rc⟩
  · clear hround kD kl k0 k1 k2 k3 b6 hW6 hF0
    rintro e W ⟨hv, hJ⟩
    refine ⟨hv, hJ.rl, fun xc => ?_⟩
    have hJ7 := hJ.put hwl xc
    obtain ⟨W7, hW7⟩ : ∃ W7, W7 = W.putObj (W4.heap.size + 1) (.loop xc) := ⟨_, rfl⟩
    rw [← hW7] at hJ7 ⊢
    obtain ⟨fo, fn, fc, e1, e2⟩ := hJ7.ex
    have cB : W7.cell? ⟨w.heap.size + 1, 0, none⟩ = some (.slice fo fn fc) := by simp [World.cell?, e1]
    have hfn := e2.1
    have hrd := hJ7.rd
    have hf := Dat.fr_put W7 W4.heap.size (.deferred none)
    have hwD : w.heap.size ≤ W4.heap.size := b4.size
    have HX : Hid (Rw (W7.putObj W4.heap.size (.deferred none)) w.heap.size fo fn fc (frs T z K) ∧ Below w.heap.size w (W7.putObj W4.heap.size (.deferred none))) := by
      refine ⟨e2.fr hf (fun k hk hx => ?_), hJ7.bel.trans (hf.below _ hJ7.bel.size (fun k hk => by have : k = W4.heap.size := hk; omega))⟩
      obtain ⟨_, _, cur, hcur⟩ := e2.own hk
      have hx : k = W4.heap.size := hx
      rw [hx, hrd] at hcur
      cases hcur
    have HRd := hide hrd
    have HFn := hide hfn
    clear hJ hJ7 hW7 e1 e2 hrd hf hfn
    gi_wp2
    refine ⟨by simp, .inl ⟨_, _, rfl, run_takeDeferred HRd.out, ?_⟩⟩
    refine ⟨_, results_tmp rfl _ _ _, ?_⟩
    refine ⟨fo, fc, by rw [HFn.out]; rfl, ?_⟩
    rw [HFn.out]
    exact HX.out
end Go.Proofs.Ytifmikdknifcoaa

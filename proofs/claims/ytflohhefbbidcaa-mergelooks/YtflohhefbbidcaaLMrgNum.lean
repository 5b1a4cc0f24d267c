import Derived.Test.YtflohhefbbidcaaLJTreCopied
import Derived.DeepKeys4
import Derived.Deep.CutRange
import Derived.Deep.CutBlock
set_option linter.unusedVariables false
namespace Go.Proofs.Ytflohhefbbidcaa
set_option maxRecDepth 100000
open Go.RowKit Go.Maps Go.WideMaps
open Nam Tre
theorem laidOld : laidOutB Try.prog = true := by kernel_rfl
theorem rowOld : (76 : TypeId) < Try.prog.types.size := of_decide_eq_true (by kernel_rfl)
theorem wideOld : (match Try.prog.underlying 76 with | some (.array _ _) | some (.struct _) => true | _ => false) = true := by kernel_rfl
theorem keyedOld : Keyed Try.prog 76 := Keyed.of_law (deep_law_laid laidOld (m := 2) (by omega) rowOld (by kernel_rfl) wideOld)
def oldK (l : Nat) (z : Int) : Lit := .string (keyBytes [.int .i64 (l : Int), .int .i64 z])
theorem keyTypeOld : Try.prog.keyType 76 = true := by kernel_rfl
theorem cellsOld : Try.prog.cellsOf 76 = 2 := by kernel_rfl
theorem cellsInt : Try.prog.cellsOf 3 = 1 := by kernel_rfl
theorem litsOld (d : Nat) (l : Nat) (z : Int) (hl : (Lit.int .i64 (l : Int)).wf = true) (hz : (Lit.int .i64 z).wf = true) : Try.prog.keyLits (d + 2) 76 [.int .i64 (l : Int), .int .i64 z] = some [.int .i64 (l : Int), .int .i64 z] := by
 simp [Program.keyLits, Try.underlying76, cellsOld, cellsInt, hl, hz, Try.underlying3]
theorem keyOld (l : Nat) (z : Int) (hl : (Lit.int .i64 (l : Int)).wf = true) (hz : (Lit.int .i64 z).wf = true) : keyOf Try.prog 76 (.agg #[.int .i64 (l : Int), .int .i64 z]) = some (oldK l z) := by
 obtain ⟨d, hd⟩ : ∃ d, Try.prog.types.size = d + 1 := ⟨Try.prog.types.size - 1, by have := Nat.lt_of_le_of_lt (Nat.zero_le _) rowOld; omega⟩
 have hf : (Value.agg #[.int .i64 (l : Int), .int .i64 z]).formed Try.prog 76 = true := by
  unfold Value.formed
  simp only [Try.underlying76]
  rw [cellsOld]; rfl
 have hk : keyOf Try.prog 76 (.agg #[.int .i64 (l : Int), .int .i64 z]) = if Try.prog.keyType 76 && (Value.agg #[.int .i64 (l : Int), .int .i64 z]).formed Try.prog 76 then (Try.prog.keyLits (Try.prog.types.size + 1) 76 (Value.agg #[.int .i64 (l : Int), .int .i64 z]).cells.toList).map fun ls => .string (keyBytes ls) else none := by
  rw [keyOf]
  simp only [Try.underlying76]
 rw [hk, if_pos (by rw [keyTypeOld, hf]; rfl), hd]
 rw [show (Value.agg #[.int .i64 (l : Int), .int .i64 z]).cells.toList = [.int .i64 (l : Int), .int .i64 z] from rfl, litsOld d l z hl hz]
 rfl
theorem oldK_inj {l l' : Nat} {z z' : Int} (hl : (Lit.int .i64 (l : Int)).wf = true) (hz : (Lit.int .i64 z).wf = true) (hl' : (Lit.int .i64 (l' : Int)).wf = true) (hz' : (Lit.int .i64 z').wf = true) (e : oldK l z = oldK l' z') : l = l' ∧ z = z' := by
 have := keyedOld.inj (keyOld l z hl hz) (by rw [e]; exact keyOld l' z' hl' hz')
 simp at this
 exact ⟨by omega, this.2⟩
theorem nst_append (ks : List Lit) (k : Lit) : ∀ i, i ≤ ks.length → nst (ks ++ [k]) i = nst ks i
 | 0, _ => rfl
 | i + 1, h => by
  have hg : (ks ++ [k]).getD i (.bool false) = ks.getD i (.bool false) := by
   rw [List.getD_eq_getElem?_getD, List.getD_eq_getElem?_getD, List.getElem?_append_left (by omega)]
  rw [nst, nst, nst_append ks k i (by omega), hg]
theorem nst_last (ks : List Lit) (k : Lit) : nst (ks ++ [k]) (ks.length + 1) = if ((nst ks ks.length).2 k).isSome = true then nst ks ks.length else ((nst ks ks.length).1 + 1, upd (nst ks ks.length).2 k ((nst ks ks.length).1 + 1)) := by
 have hg : (ks ++ [k]).getD ks.length (.bool false) = k := by simp
 rw [nst, nst_append ks k _ (Nat.le_refl _), hg]
structure NU (w : World) (p mb : Nat) (ks : List Lit) : Prop where
 cell : w.cell? ⟨p, 0, none⟩ = some (.map (some mb))
 mp : MpK 76 w mb (nst ks ks.length).1 (nst ks ks.length).2
theorem NU.cells {w w' : World} {p mb : Nat} {ks : List Lit} (h : NU w p mb ks) (hp : w'.heap[p]? = w.heap[p]?) (hm : w'.heap[mb]? = w.heap[mb]?) : NU w' p mb ks :=
 ⟨(World.cell?_of_block hp).trans h.cell, h.mp.same hm⟩
theorem NU.below {w w' : World} {p mb : Nat} {ks : List Lit} (h : NU w p mb ks) (hb : Below w.heap.size w w') : NU w' p mb ks := by
 have hp : p < w.heap.size := by have := World.block_lt_of_cell? w _ h.cell; exact this
 exact h.cells (hb.block _ hp) (hb.block _ h.mp.lt)
theorem NU.ne {w : World} {p mb : Nat} {ks : List Lit} (h : NU w p mb ks) : p ≠ mb := by
 intro e
 obtain ⟨D, ⟨es, clock, h1, _⟩, _⟩ := h.mp
 have := h.cell
 subst e
 unfold World.cell? at this
 rw [h1] at this
 simp at this
set_option maxHeartbeats 1000000 in
theorem num_any (l : Nat) (z : Int) (p mb : Nat) (ks : List Lit) (w : World) (hl : (Lit.int .i64 (l : Int)).wf = true) (hz : (Lit.int .i64 z).wf = true) (hk : ∀ k ∈ ks, WideAt.IsKeyLit k) (hn : ks.length ≤ 100000) (h : NU w p mb ks) :
  Calls Try.prog 41 #[.int .i64 (l : Int), .int .i64 z, .pointer (some ⟨p, 0, none⟩)] w fun e w' => e = .returned (.int .i64 (nno (ks ++ [oldK l z]) ks.length : Int)) ∧ NU w' p mb (ks ++ [oldK l z]) ∧ w.grownBy w' (some mb) := by
 have hkey := keyOld l z hl hz
 have hlit : WideAt.IsKeyLit (oldK l z) := trivial
 obtain ⟨w1, hw1⟩ : ∃ w1, w1 = w.alloc (Obj.cells #[.int .i64 (l : Int), .int .i64 z] 76) := ⟨_, rfl⟩
 have hb1 : Below w.heap.size w w1 := by rw [hw1]; exact below_one _ _
 have hq1 : w1.heap[w.heap.size]? = some (Obj.cells #[.int .i64 (l : Int), .int .i64 z] 76) := by rw [hw1]; exact heap_alloc_new w _
 have h1 := h.below hb1
 have g0 := h1.cell
 have gq : w1.cell? ⟨w.heap.size, 0, none⟩ = some (.int .i64 (l : Int)) ∧ w1.cell? ⟨w.heap.size, 1, none⟩ = some (.int .i64 z) := by constructor <;> (unfold World.cell?; rw [hq1]; rfl)
 obtain ⟨gq0, gq1⟩ := gq
 have hnn : nno (ks ++ [oldK l z]) ks.length = ((nst (ks ++ [oldK l z]) (ks.length + 1)).2 (oldK l z)).getD 0 := by
  unfold nno
  congr 2
  simp
 rw [nst_last] at hnn
 have hL := nst_last ks (oldK l z)
 have hlook := h1.mp.look keyedOld Try.underlying74 hkey hlit
 obtain ⟨q, hq⟩ : ∃ q, q = w.heap.size := ⟨_, rfl⟩
 obtain ⟨kk, hkk⟩ : ∃ kk, kk = oldK l z := ⟨_, rfl⟩
 have hle := nst_le ks ks.length
 obtain ⟨f, hf⟩ : ∃ f, (nst ks ks.length).2 kk = f := ⟨_, rfl⟩
 rw [← hkk] at hnn hL hlook hkey hlit
 rw [hf] at hlook hnn hL
 have HR : Hid (oldK l z = kk) := hkk.symm
 have HB1 := hide hb1
 have H1 := hide h1
 cases f with
 | some v =>
  have hget := h1.mp.get keyedOld Try.underlying74 hkey hlit
  rw [hf] at hget
  simp only [Option.getD_some, Option.isSome_some, if_true] at hlook hget hnn hL
  have HF : Hid (NU w1 p mb (ks ++ [kk])) := by
   refine ⟨h1.cell, ?_⟩
   rw [List.length_append, List.length_singleton, hL]
   exact h1.mp
  have HN : Hid (nno (ks ++ [kk]) ks.length = v) := by
   rw [hf] at hnn; exact hnn
  have HG : Hid (w.grownBy w1 (some mb)) := ⟨hb1.os, hb1.tape, hb1.output, hb1.size, fun k hk _ => hb1.block k hk⟩
  clear h h1 hb1 hq1 hnn hL hkk hf hle H1
  go_enter Try.func41, Try.ntmps41
  go_upto_region 2 with fail
  rw [← hw1]
  clear hw1
  go_wp2
  go_ret
  exact ⟨by rw [HR.out, HN.out]; rfl, by rw [HR.out]; exact HF.out, HG.out⟩
 | none =>
  simp only [Option.getD_none, Option.isSome_none, Bool.false_eq_true, if_false] at hlook hnn hL
  obtain ⟨c, hc⟩ : ∃ c, c = (nst ks ks.length).1 := ⟨_, rfl⟩
  have hlen := h1.mp.len Try.underlying74 3
  obtain ⟨w2, hrun, hm2, hg2⟩ := h1.mp.store keyedOld Try.underlying74 hkey hlit (by omega) ((nst ks ks.length).1 + 1)
  rw [hf] at hm2
  simp only [Option.isSome_none, Bool.false_eq_true, if_false] at hm2
  have hget := hm2.get keyedOld Try.underlying74 hkey hlit
  rw [upd_same _ _ _ hlit] at hget
  rw [← hc] at hlen hrun hget hle
  simp only [Option.getD_some] at hget
  have hp1 : p < w1.heap.size := World.block_lt_of_cell? w1 _ h1.cell
  have hne := h1.ne
  have hmlt := h.mp.lt
  have k0 : w2.cell? ⟨p, 0, none⟩ = some (.map (some mb)) := (World.cell?_of_block (hg2.block p hp1 (by simp; exact hne))).trans g0
  have kq : w2.heap[w.heap.size]? = some (Obj.cells #[.int .i64 (l : Int), .int .i64 z] 76) := (hg2.block _ (heap_lt hq1) (by simp; omega)).trans hq1
  have k1 : w2.cell? ⟨w.heap.size, 0, none⟩ = some (.int .i64 (l : Int)) := by unfold World.cell?; rw [kq]; rfl
  have k2 : w2.cell? ⟨w.heap.size, 1, none⟩ = some (.int .i64 z) := by unfold World.cell?; rw [kq]; rfl
  have HF : Hid (NU w2 p mb (ks ++ [kk])) := by
   refine ⟨k0, ?_⟩
   rw [List.length_append, List.length_singleton, hL]
   exact hm2
  have HN : Hid (nno (ks ++ [kk]) ks.length = c + 1) := by
   show _ = _
   rw [hnn]
   simp only [upd_same _ _ _ hlit]
   rw [hc]; rfl
  have HG : Hid (w.grownBy w2 (some mb)) := ⟨hg2.os.trans hb1.os, hg2.tape.trans hb1.tape, hg2.output.trans hb1.output, Nat.le_trans hb1.size hg2.size, fun k hk hne => (hg2.block k (Nat.lt_of_lt_of_le hk hb1.size) hne).trans (hb1.block k hk)⟩
  have hx1 : IntKind.i64.wrap ((c : Int) + 1) = ((c + 1 : Nat) : Int) := by rw [IntWalk.i64_in _ (by omega)]; omega
  have hrun2 := hrun
  have hget2 := hget
  rw [show ((c + 1 : Nat) : Int) = (c : Int) + 1 by omega] at hrun2 hget2
  clear h h1 hb1 hq1 hnn hL hkk hf hle H1 hg2 hm2 kq hne hmlt hp1 hc
  go_enter Try.func41, Try.ntmps41
  go_upto_region 2 with fail
  rw [← hw1]
  clear hw1
  go_wp2
  go_ret
  exact ⟨by rw [HR.out, HN.out]; rfl, by rw [HR.out]; exact HF.out, HG.out⟩
theorem numbers_any (w : World) : Calls Try.prog 20 #[] w fun e w' => ∃ p mb, e = .returned (.func (.func 41) #[] #[.pointer (some ⟨p, 0, none⟩)]) ∧ NU w' p mb [] ∧ w.heap.size ≤ p ∧ w.heap.size ≤ mb ∧ Below w.heap.size w w' := by
 have HF : Hid (NU ((w.alloc (.map #[] 0)).alloc (.cells #[.map (some w.heap.size)] 74)) (w.heap.size + 1) w.heap.size [] ∧ Below w.heap.size w ((w.alloc (.map #[] 0)).alloc (.cells #[.map (some w.heap.size)] 74))) := by
  refine ⟨⟨?_, ?_⟩, ((Below.refl _ _).alloc (Nat.le_refl _) _).alloc (by simp) _⟩
  ·have := heap_alloc_new (w.alloc (.map #[] 0)) (.cells #[.map (some w.heap.size)] 74)
   rw [World.size_alloc] at this
   unfold World.cell?
   rw [this]; rfl
  ·exact (mpk_new _ w).below (below_one _ _)
 have hmm := @run_makeMap Try.prog
 go_enter Try.func20, Try.ntmps20
 go_wp2
 go_ret
 exact ⟨w.heap.size + 1, w.heap.size, rfl, HF.out.1, by omega, Nat.le_refl _, HF.out.2⟩
end Go.Proofs.Ytflohhefbbidcaa

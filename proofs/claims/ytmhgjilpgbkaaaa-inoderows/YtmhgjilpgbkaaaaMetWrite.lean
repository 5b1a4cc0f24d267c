/- The program's writer of rows: its state in memory, and the walks of New, refOf, split, frameOf, Add and Done. -/
import Derived.Test.YtmhgjilpgbkaaaaMetOwn
import Derived.Deep.RegionLaw
namespace Go.Proofs.Ytmhgjilpgbkaaaa
set_option linter.unusedVariables false
open Go.RowKit Go.Maps
open Lz (g)
open Crc (ent)
open Frm Mtr

theorem Tb.fr {S : Nat → Prop} {w w' : World} {b : Nat} {T : Nat → Nat} (h : Tb w b T) (hf : Fr S w w') (hlt : b < w.heap.size) (hn : ¬ S b) : Tb w' b T := fun i hi => (hf.cell (q := ⟨b, i, none⟩) hlt hn).trans (h i hi)
/-- One append, as a step of a region that draws. -/
theorem step_append_rw (w : World) {ops : Array Oper} {o : Oper} {a : Act} {K : Act → World → Prop} {Q : Exit → Act → World → Prop} {E : Prop} (hgd : o.guard = none) (s x : Operand)
    (ho : o.op = .call { callee := .builtin .append, args := #[s, x], argTypes := #[25, 25] })
    (B : Nat) (vo : Option Addr) (n vc : Nat) (xs : List Int) (hs : a.eval s = .slice vo n vc) (hR : Rw w B vo n vc xs)
    (ao : Option Addr) (m c : Nat) (zs : List Int) (hx : a.eval x = .slice ao m c) (hb : Bs w ao m zs) (hnil : ao = none → c = 0)
    (hbd : n + m ≤ 100000000) (hB : B ≤ w.heap.size)
    (h : ∀ ao' c' w', Rw w' B ao' (n + m) c' (xs ++ zs) → w.grownBy w' (Value.slice vo n vc).ownBlock → Lie w (.slice vo n vc) (.slice ao' (n + m) c') → K (a.put o.dst (.slice ao' (n + m) c')) w') :
    if Region.wanted o (yielded ops a.tmps) = true then Oper.wp Try.prog o a w K Q else E := by
  have hw : Region.wanted o (yielded ops a.tmps) = true := by simp [Region.wanted, hgd]
  rw [if_pos hw]
  obtain ⟨ao', c', w', hrun, r1, r2, r3⟩ := run_append_rw w o.type hR hB hb hnil hbd
  unfold Oper.wp
  simp [execOp, ho, resolve, invoke, builtin, hs, hx, hrun, Result.andThen]
  exact h ao' c' w' r1 r2 r3
set_option maxRecDepth 100000 in
theorem CloneRw_any (n c : Nat) (ao : Option Addr) (zs : List Int) (w : World) (hb : Bs w ao n zs) (hc : n ≤ c) (hnil : ao = none → c = 0) (hn : n ≤ 100000000) :
    Calls Try.prog 37 #[.slice ao n c] w fun r w' => ∃ ao' c', r = .returned (.slice ao' n c') ∧ Rw w' w.heap.size ao' n c' zs ∧ Below w.heap.size w w' := by
  cases ao with
  | none =>
    obtain rfl : c = 0 := hnil rfl
    obtain rfl : n = 0 := by omega
    obtain rfl : zs = [] := List.eq_nil_of_length_eq_zero hb.1
    clear hnil hb
    have hq : ∀ w : World, (binOp .eql 25 (.slice none 0 0) (.slice none 0 0)).run Try.prog w = .ok (.bool true) w := fun w => eql_nil w none 0 0
    go_enter Try.func37, Try.ntmps37
    go_wp2
    go_ret
    exact ⟨_, _, rfl, Rw.none _ _, Below.refl _ _⟩
  | some a =>
    clear hnil
    have hq : ∀ w : World, (binOp .eql 25 (.slice (some a) n c) (.slice none 0 0)).run Try.prog w = .ok (.bool false) w := fun w => eql_nil w (some a) n c
    have ho := emptyB (w := w) (Nat.le_refl _)
    have hb2 := hb.alloc (.cells #[] 5)
    go_enter Try.func37, Try.ntmps37
    go_wp2_with (first
      | (at_builtin; refine wpList_append_bs _ rfl (.tmp 5) (.tmp 6) rfl w.heap.size _ _ _ _ rfl ho _ n c zs rfl hb2 (fun h => by simp at h) (by omega) (by simp) ?_; intro ao' c' w1 ho1 hg1))
    go_ret
    rw [Nat.zero_add, List.nil_append] at ho1
    refine ⟨ao', c', rfl, Rw.of_owns ho1 hb.bytes, (((Below.refl _ w).alloc (Nat.le_refl _) _)).grown hg1 (by simp) (fun k e => (ho.lt k e).1)⟩

theorem refOf_any (p n : Int) (w : World) (hp : 0 ≤ p ∧ p ≤ 1000000000000) (hn : 0 ≤ n ∧ n ≤ 1000000000000) :
    Calls Try.prog 41 #[.int .i64 p, .int .i64 n] w fun r w' => r = .returned (.int .i64 (256 * p + n)) ∧ w' = w := by
  go_enter Try.func41, Try.ntmps41
  go_wp2
  go_ret
  refine ⟨ret_int ?_, rfl⟩
  omega
theorem split_any (ref : Int) (w : World) (hp : 0 ≤ ref ∧ ref ≤ 9223372036854775807) :
    Calls Try.prog 70 #[.int .i64 ref] w fun r w' => r = .returned (.tuple #[.int .i64 (ref / 256), .int .i64 (ref % 256)]) ∧ w' = w := by
  obtain ⟨k, rfl⟩ : ∃ k : Nat, ref = k := ⟨ref.toNat, by omega⟩
  go_enter Try.func70, Try.ntmps70
  go_wp2
  go_ret2
  exact ⟨rfl, rfl⟩

/-- The writer's block. -/
def Wd (w : World) (p tb : Nat) (fo : Option Addr) (fn fc : Nat) (ro : Option Addr) (rn rc : Nat) : Prop := w.heap[p]? = some (.cells #[.pointer (some ⟨tb, 0, none⟩), .slice fo fn fc, .slice ro rn rc] 84 (0, 0))
section
variable {w w' : World} {p tb fn fc rn rc : Nat} {fo ro : Option Addr}
theorem Wd.lt (h : Wd w p tb fo fn fc ro rn rc) : p < w.heap.size := heap_lt h
theorem Wd.c0 (h : Wd w p tb fo fn fc ro rn rc) : w.cell? ⟨p, 0, none⟩ = some (.pointer (some ⟨tb, 0, none⟩)) := by unfold Wd at h; simp [World.cell?, h]
theorem Wd.c1 (h : Wd w p tb fo fn fc ro rn rc) : w.cell? ⟨p, 1, none⟩ = some (.slice fo fn fc) := by unfold Wd at h; simp [World.cell?, h]
theorem Wd.c2 (h : Wd w p tb fo fn fc ro rn rc) : w.cell? ⟨p, 2, none⟩ = some (.slice ro rn rc) := by unfold Wd at h; simp [World.cell?, h]
theorem Wd.f (h : Wd w p tb fo fn fc ro rn rc) (i : Nat) : w.frozen? ⟨p, i, none⟩ = false := by unfold Wd at h; simp [World.frozen?, h]
theorem Wd.set1 (h : Wd w p tb fo fn fc ro rn rc) (fo' : Option Addr) (fn' fc' : Nat) : Wd (w.setCell ⟨p, 1, none⟩ (.slice fo' fn' fc')) p tb fo' fn' fc' ro rn rc := by
  unfold Wd; rw [heap_setCell_self h]; rfl
theorem Wd.set2 (h : Wd w p tb fo fn fc ro rn rc) (ro' : Option Addr) (rn' rc' : Nat) : Wd (w.setCell ⟨p, 2, none⟩ (.slice ro' rn' rc')) p tb fo fn fc ro' rn' rc' := by
  unfold Wd; rw [heap_setCell_self h]; rfl
theorem Wd.fr {S : Nat → Prop} (h : Wd w p tb fo fn fc ro rn rc) (hf : Fr S w w') (hn : ¬ S p) : Wd w' p tb fo fn fc ro rn rc := (hf.block p h.lt hn).trans h
theorem Wd.ne {t : TypeId} {cur : Array Value} {k : Nat} (h : Wd w p tb fo fn fc ro rn rc) (hk : w.heap[k]? = some (.cells cur t (0, 0))) (ht : t ≠ 84) : k ≠ p := fun e => by
  subst e; unfold Wd at h; rw [h] at hk; simp at hk; exact ht hk.2.symm
end
/-- The writer: what it has framed, and what it has not; O: the blocks that are its own. -/
def WrM (w : World) (p : Nat) (O : Nat → Prop) (tb : Nat) (F R : List Int) : Prop :=
  ∃ fo fn fc ro rn rc, Wd w p tb fo fn fc ro rn rc ∧ O p ∧ Rw w 0 fo fn fc F ∧ Rw w 0 ro rn rc R ∧
    (∀ k, (Value.slice fo fn fc).ownBlock = some k → O k ∧ (Value.slice ro rn rc).ownBlock ≠ some k) ∧ (∀ k, (Value.slice ro rn rc).ownBlock = some k → O k) ∧ (∀ k, O k → k < w.heap.size)
/-- What is its own is new, or was. -/
def Gr (O O' : Nat → Prop) (w : World) : Prop := ∀ k, O' k → O k ∨ w.heap.size ≤ k
theorem Gr.refl (O : Nat → Prop) (w : World) : Gr O O w := fun k h => .inl h
theorem Gr.trans {O O' O'' : Nat → Prop} {w w' : World} (h : Gr O O' w) (h' : Gr O' O'' w') (hs : w.heap.size ≤ w'.heap.size) : Gr O O'' w := fun k hk => by
  rcases h' k hk with h1 | h1
  · exact h k h1
  · exact .inr (by omega)
theorem Fr.gr {O O' : Nat → Prop} {a b c : World} (h : Fr O a b) (hg : Gr O O' a) (h' : Fr O' b c) : Fr O a c := h.trans h' fun i hi hx => by
  rcases hg i hx with h1 | h1
  · exact h1
  · omega
theorem WrM.fr {S : Nat → Prop} {w w' : World} {p tb : Nat} {O : Nat → Prop} {F R : List Int} (h : WrM w p O tb F R) (hf : Fr S w w') (hn : ∀ k, O k → ¬ S k) : WrM w' p O tb F R := by
  obtain ⟨fo, fn, fc, ro, rn, rc, h1, h2, h3, h4, h5, h6, h7⟩ := h
  exact ⟨fo, fn, fc, ro, rn, rc, h1.fr hf (hn _ h2), h2, h3.fr hf (fun k hk => hn _ (h5 k hk).1), h4.fr hf (fun k hk => hn _ (h6 k hk)), h5, h6, fun k hk => Nat.lt_of_lt_of_le (h7 k hk) hf.size⟩
theorem WrM.below {w w' : World} {p tb : Nat} {O : Nat → Prop} {F R : List Int} (h : WrM w p O tb F R) (hb : Below w.heap.size w w') : WrM w' p O tb F R := h.fr (Fr.of_below (S := fun _ => False) hb) (fun _ _ h => h)
theorem WrM.lt {w : World} {p tb : Nat} {O : Nat → Prop} {F R : List Int} (h : WrM w p O tb F R) : p < w.heap.size ∧ O p := by
  obtain ⟨fo, fn, fc, ro, rn, rc, h1, h2, _⟩ := h
  exact ⟨h1.lt, h2⟩
theorem WrM.olt {w : World} {p tb : Nat} {O : Nat → Prop} {F R : List Int} (h : WrM w p O tb F R) : ∀ k, O k → k < w.heap.size := by
  obtain ⟨fo, fn, fc, ro, rn, rc, h1, h2, h3, h4, h5, h6, h7⟩ := h
  exact h7

theorem metaNew_any (tb : Nat) (w : World) : Calls Try.prog 20 #[.pointer (some ⟨tb, 0, none⟩)] w fun r w' => r = .returned (.pointer (some ⟨w.heap.size, 0, none⟩)) ∧ WrM w' w.heap.size (fun k => k = w.heap.size) tb [] [] ∧ Below w.heap.size w w' ∧ w'.heap.size = w.heap.size + 1 := by
  go_enter Try.func20, Try.ntmps20
  go_wp2
  go_ret
  refine ⟨rfl, ⟨none, 0, 0, none, 0, 0, heap_alloc_new w _, rfl, Rw.none _ _, Rw.none _ _, fun k hk => by simp [Value.ownBlock] at hk, fun k hk => by simp [Value.ownBlock] at hk, fun k hk => by subst hk; simp⟩, (Below.refl _ _).alloc (Nat.le_refl _) _, by simp⟩

set_option maxRecDepth 100000 in
theorem frameOf_any (p tb n c fn fc rn rc : Nat) (fo ro ao : Option Addr) (T : Nat → Nat) (zs : List Int) (w : World) (h : Wd w p tb fo fn fc ro rn rc) (hT : Tb w tb T) (htb : tb < w.heap.size) (hS : Small T) (hb : Bs w ao n zs) (hc : n ≤ c) (hnil : ao = none → c = 0) (hn : n ≤ 128) :
    Calls Try.prog 42 #[.pointer (some ⟨p, 0, none⟩), .slice ao n c] w fun r w' => ∃ ao' c', r = .returned (.slice ao' (put T zs).length c') ∧ New w w' ao' (put T zs).length c' (put T zs) := by
  have h0 := h.c0
  have H := hide (Put_any tb n c T ao zs w hT htb hS hb hc hnil (by omega))
  have HZ := hide hb.1
  clear h hT hS hb hnil
  go_enter Try.func42, Try.ntmps42
  go_wp2_with fail
  refine H.out.mono ?_
  rintro r w1 (⟨h, _⟩ | ⟨_, ao', c', rfl, hN⟩)
  · rw [HZ.out] at h; omega
  have HN := hide hN
  clear hN H
  go_wp2
  go_ret
  exact ⟨_, _, rfl, HN.out⟩
end Go.Proofs.Ytmhgjilpgbkaaaa

/- Layer 10: whether an entry may stand in a list, by the program: isKind, mayBe, newList and the function that it hands out; few. -/
import Derived.Test.YtdenbbljbkpbdaaDirRow
import Derived.OwnWalk
namespace Go.Proofs.Ytdenbbljbkpbdaa
set_option linter.unusedVariables false
set_option maxRecDepth 100000
open Go.RowKit Go.Maps
open Nam Cur Dir

theorem isKind_any (k : Int) (w : World) : Calls Try.prog 45 #[.int .i64 k] w fun e w' => e = .returned (.bool (decide (1 ≤ k ∧ k ≤ 3))) ∧ w' = w := by
  go_enter Try.func45, Try.ntmps45
  go_wp2
  all_goals
    go_ret
    refine ⟨ret_bool ?_, rfl⟩
    rw [Bool.eq_iff_iff, decide_eq_true_eq]
    simp_all
    try omega
theorem mayBe_any (E : Ent) (w : World) : Calls Try.prog 32 #[.agg (ev E)] w fun e w' => e = .returned (.bool (ok E)) ∧ Below w.heap.size w w' := by
  obtain ⟨z, hz⟩ : ∃ z, valid E.name.toList = z := ⟨_, rfl⟩
  have HO : Hid (ok E = decide (z = 0 ∧ (1 ≤ E.kind ∧ E.kind ≤ 3) ∧ 0 ≤ E.ref ∧ E.ref ≤ 4294967295)) := by show ok E = _; unfold ok; rw [hz]
  have HZ := hide hz
  clear hz
  obtain ⟨w1, hw1⟩ : ∃ w1, w1 = w.alloc (.cells (ev E) 35) := ⟨_, rfl⟩
  have h1 : w1.heap[w.heap.size]? = some (.cells (ev E) 35 (0, 0)) := by rw [hw1]; exact heap_new rfl
  have HB1 : Hid (Below w.heap.size w w1) := by rw [hw1]; exact below_one _ _
  have HW1 := hide hw1
  have HC1 : Hid (∀ w2, Below w1.heap.size w1 w2 → ∀ k, w2.cell? ⟨w.heap.size, k, none⟩ = (ev E)[k]?) := fun w2 hb k => by
    rw [hb.cell (p := ⟨w.heap.size, k, none⟩) (heap_lt h1)]; exact cell_of_row _ _ _ _ _ _ h1
  clear h1 hw1
  unfold ev at HW1 HC1 ⊢
  go_enter Try.func32, Try.ntmps32
  go_wp2_with fail
  rw [← HW1.out]
  refine (Valid_any E.name w1).mono ?_
  rintro e w2 ⟨rfl, hb2⟩
  rw [HZ.out]
  have c1 : w2.cell? ⟨w.heap.size, 1, none⟩ = some (.int .i64 E.kind) := HC1.out w2 hb2 1
  have c2 : w2.cell? ⟨w.heap.size, 2, none⟩ = some (.int .i64 E.ref) := HC1.out w2 hb2 2
  have HB2 := hide (HB1.out.trans (hb2.mono HB1.out.size))
  clear hb2
  go_wp2_with (go_at_call 45; refine (isKind_any _ _).mono ?_; rintro e w' ⟨rfl, rfl⟩)
  all_goals
    go_ret
    refine ⟨ret_bool ?_, HB2.out⟩
    rw [HO.out, Bool.eq_iff_iff, decide_eq_true_eq]
    simp_all
    try omega
namespace Dir
/-- The variable of newList at the block q: the last name. -/
def Cl (w : World) (q : Nat) (s : ByteArray) : Prop := w.heap[q]? = some (.cells #[.string s] 9 (0, 0))
theorem Cl.cell {w : World} {q : Nat} {s : ByteArray} (h : Cl w q s) : w.cell? ⟨q, 0, none⟩ = some (.string s) := cell_of_row _ _ _ _ _ _ h
theorem Cl.free {w : World} {q : Nat} {s : ByteArray} (h : Cl w q s) (k : Nat) : w.frozen? ⟨q, k, none⟩ = false := by unfold Cl at h; simp [World.frozen?, h]
theorem Cl.lt {w : World} {q : Nat} {s : ByteArray} (h : Cl w q s) : q < w.heap.size := heap_lt h
theorem Cl.fr {S : Nat → Prop} {w w' : World} {q : Nat} {s : ByteArray} (h : Cl w q s) (hf : Fr S w w') (hn : ¬ S q) : Cl w' q s := (hf.block _ h.lt hn).trans h
theorem Cl.below {w w' : World} {q : Nat} {s : ByteArray} (h : Cl w q s) (hb : Below w.heap.size w w') : Cl w' q s := (hb.block _ h.lt).trans h
theorem Cl.set {w : World} {q : Nat} {s : ByteArray} (h : Cl w q s) (t : ByteArray) : Cl (w.setCell ⟨q, 0, none⟩ (.string t)) q t := by unfold Cl at *; rw [heap_setCell_self h]; rfl
end Dir
theorem newList_any (w : World) : Calls Try.prog 17 #[] w fun e w' => ∃ q, e = .returned (.func (.func 31) #[] #[.pointer (some ⟨q, 0, none⟩)]) ∧ Cl w' q em ∧ w.heap.size ≤ q ∧ Below w.heap.size w w' := by
  go_enter Try.func17, Try.ntmps17
  go_wp2
  go_ret
  exact ⟨w.heap.size, rfl, heap_new rfl, Nat.le_refl _, below_one _ _⟩
theorem goesOn_any (E : Ent) (q : Nat) (s : ByteArray) (w : World) (h : Cl w q s) : Calls Try.prog 31 #[.agg (ev E), .pointer (some ⟨q, 0, none⟩)] w fun e w' => e = .returned (.bool (nx s E)) ∧ Cl w' q E.name ∧ Fr (One q) w w' := by
  obtain ⟨b, hb⟩ : ∃ b, Op.bytesLess s.toList E.name.toList = b := ⟨_, rfl⟩
  have HE : Hid (nx s E = (b && ok E)) := by show nx s E = _; unfold nx; rw [hb]
  have HB := hide hb
  obtain ⟨w2, hw2⟩ : ∃ w2, w2 = (w.setCell ⟨q, 0, none⟩ (.string E.name)).alloc (.cells (ev E) 35) := ⟨_, rfl⟩
  have hq := h.lt
  have HC2 : Hid (Cl w2 q E.name) := by rw [hw2]; exact (h.set E.name).below (below_one _ _)
  have HF2 : Hid (Fr (One q) w w2) := by rw [hw2]; exact ((Fr.refl (One q) w).set (p := ⟨q, 0, none⟩) _ (fun _ => rfl)).alloc _
  have HW2 := hide hw2
  have c0 : w.cell? ⟨q, 0, none⟩ = some (.string s) := h.cell
  have f0 : w.frozen? ⟨q, 0, none⟩ = false := h.free 0
  have HM := hide (mayBe_any E w2)
  clear hw2 h
  unfold ev at HM HW2 ⊢
  cases b with
  | false =>
    go_enter Try.func31, Try.ntmps31
    go_wp2_with fail
    rw [← HW2.out]
    go_ret
    exact ⟨ret_bool HE.out.symm, HC2.out, HF2.out⟩
  | true =>
    go_enter Try.func31, Try.ntmps31
    go_wp2_with fail
    rw [← HW2.out]
    refine HM.out.mono ?_
    rintro e w3 ⟨rfl, hb3⟩
    have HC3 := hide (HC2.out.below hb3)
    have HF3 := hide (HF2.out.then (Fr.of_below hb3))
    clear hb3
    go_wp2
    go_ret
    exact ⟨ret_bool HE.out.symm, HC3.out, HF3.out⟩
/-- At most 60 entries. -/
theorem few_any (a : Option Addr) (n c : Nat) (L : List Ent) (w : World) (hl : Es w a n L) (hc : n ≤ c) (hm : c ≤ 9223372036854775807) : Calls Try.prog 9 #[.slice a n c] w fun e w' => ∃ k, e = .returned (.slice a k c) ∧ Es w a k (L.take 60) ∧ k ≤ c ∧ k ≤ 60 ∧ w' = w := by
  have H := hide hl
  clear hl
  go_enter Try.func9, Try.ntmps9
  go_wp2
  · have h : (60 : Int) < n := by assumption
    go_ret
    exact ⟨60, rfl, H.out.take 60 (by omega), by omega, by omega, rfl⟩
  · have h : (n : Int) ≤ 60 := by assumption
    go_ret
    refine ⟨n, rfl, ?_, hc, by omega, rfl⟩
    rw [List.take_of_length_le (by have := H.out.1; omega)]
    exact H.out
end Go.Proofs.Ytdenbbljbkpbdaa

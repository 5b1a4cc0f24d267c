/- Layer 8: whether a superblock may be, by the program. -/
import Derived.Test.YthghodmjpdooaaaDoorSupLeaf
namespace Go.Proofs.YthghodmjpdooaaaDoor
set_option linter.unusedVariables false
open Go.RowKit Go.Maps
open Sup

/-- A superblock's cells. -/
def sv (s : Sb) : Array Value := #[.int .i64 s.size, .int .i64 s.inodes, .int .i64 s.inodeAt, .int .i64 s.dirAt, .int .i64 s.fragAt, .int .i64 s.idAt, .int .i64 s.xattrAt, .int .i64 s.ids, .int .i64 s.frags, .int .i64 s.root]
/-- The places that must not fall. -/
def pl (s : Sb) : Nat → Int
  | 0 => 64
  | 1 => s.inodeAt
  | 2 => s.dirAt
  | 3 => s.fragAt
  | 4 => s.idAt
  | 5 => s.xattrAt
  | 6 => s.size
  | _ => 1048576
theorem rises_pl (s : Sb) : rises 8 (pl s) = s.srt := by
  unfold rises Sb.srt
  rw [decide_eq_decide]
  constructor
  · intro h
    exact ⟨h 0 (by omega), h 1 (by omega), h 2 (by omega), h 3 (by omega), h 4 (by omega), h 5 (by omega), h 6 (by omega)⟩
  · rintro ⟨h0, h1, h2, h3, h4, h5, h6⟩ i hi
    match i, hi with
    | 0, _ => exact h0
    | 1, _ => exact h1
    | 2, _ => exact h2
    | 3, _ => exact h3
    | 4, _ => exact h4
    | 5, _ => exact h5
    | 6, _ => exact h6
theorem below_drewN {B : Nat} {a b : World} (h : Below B a b) (n : Nat) : Below B a (b.drewN n) := ⟨h.os, h.tape, h.output, h.size, h.block⟩
theorem sorted_at (q : Bool) (b c : Nat) (s : Sb) (w : World) (t : TypeId) (hq : s.srt = q) (hb : b = w.heap.size) :
    Calls Tryd.prog 22 #[.slice (some ⟨b, 0, none⟩) 8 c] (w.alloc (.cells #[.int .i64 64, .int .i64 s.inodeAt, .int .i64 s.dirAt, .int .i64 s.fragAt, .int .i64 s.idAt, .int .i64 s.xattrAt, .int .i64 s.size, .int .i64 1048576] t)) fun e w' => e = .returned (.bool q) ∧ ∃ n, w' = (w.alloc (.cells #[.int .i64 64, .int .i64 s.inodeAt, .int .i64 s.dirAt, .int .i64 s.fragAt, .int .i64 s.idAt, .int .i64 s.xattrAt, .int .i64 s.size, .int .i64 1048576] t)).drewN n := by
  subst hq hb
  rw [← rises_pl]
  refine IsSorted_any w.heap.size 8 c (pl s) _ (fun i hi => ?_) (by omega) (by omega)
  rw [cell_of_row _ w.heap.size i _ _ _ (heap_alloc_new _ _)]
  match i, hi with
  | 0, _ => rfl
  | 1, _ => rfl
  | 2, _ => rfl
  | 3, _ => rfl
  | 4, _ => rfl
  | 5, _ => rfl
  | 6, _ => rfl
  | 7, _ => rfl
theorem within_at (q : Bool) (n a b : Int) (w : World) (hq : inn n a b = q) : Calls Tryd.prog 23 #[.int .i64 n, .int .i64 a, .int .i64 b] w fun e w' => e = .returned (.bool q) ∧ w' = w := by
  subst hq
  exact within_any n a b w
set_option maxRecDepth 100000 in
set_option maxHeartbeats 4000000 in
theorem May_any (s : Sb) (w : World) : Calls Tryd.prog 12 #[.agg (sv s)] w fun e w' => e = .returned (.bool s.may) ∧ Below w.heap.size w w' := by
  unfold sv
  have HB : Hid (∀ (o o' : Obj) (n : Nat), Below w.heap.size w (((w.alloc o).alloc o').drewN n)) := fun o o' n => below_drewN (((Below.refl _ _).alloc (Nat.le_refl _) _).alloc (by simp) _) n
  cases h0 : s.srt with
  | false =>
    have HM : Hid (s.may = false) := by show _ = _; unfold Sb.may; rw [h0]; rfl
    have H0 := hide h0
    clear h0
    go_enter Tryd.func12, Tryd.ntmps12
    go_wp2_with (first
      | (go_at_call 23; refine (within_any _ _ _ _).mono ?_; rintro e w1 ⟨rfl, rfl⟩)
      | (go_at_call 22; refine (sorted_at _ (w.heap.size + 1) 8 s _ _ H0.out (by simp)).mono ?_; rintro e w1 ⟨rfl, n, rfl⟩))
    go_ret
    exact ⟨ret_bool HM.out.symm, HB.out _ _ _⟩
  | true =>
    have H0 := hide h0
    cases h1 : inn s.inodes 1 1024 with
    | false =>
      have HM : Hid (s.may = false) := by show _ = _; unfold Sb.may; rw [h0, h1]; rfl
      clear h0
      go_enter Tryd.func12, Tryd.ntmps12
      go_wp2_with (first
        | (go_at_call 23; refine (within_any _ _ _ _).mono ?_; rintro e w1 ⟨rfl, rfl⟩)
        | (go_at_call 22; refine (sorted_at _ (w.heap.size + 1) 8 s _ _ H0.out (by simp)).mono ?_; rintro e w1 ⟨rfl, n, rfl⟩))
      go_ret
      exact ⟨ret_bool HM.out.symm, HB.out _ _ _⟩
    | true =>
      cases h2 : inn s.ids 1 2048 with
      | false =>
        have HM : Hid (s.may = false) := by show _ = _; unfold Sb.may; rw [h0, h1, h2]; rfl
        clear h0
        go_enter Tryd.func12, Tryd.ntmps12
        go_wp2_with (first
          | (go_at_call 23; refine (within_any _ _ _ _).mono ?_; rintro e w1 ⟨rfl, rfl⟩)
          | (go_at_call 22; refine (sorted_at _ (w.heap.size + 1) 8 s _ _ H0.out (by simp)).mono ?_; rintro e w1 ⟨rfl, n, rfl⟩))
        go_ret
        exact ⟨ret_bool HM.out.symm, HB.out _ _ _⟩
      | true =>
        cases h3 : inn s.frags 0 1024 with
        | false =>
          have HM : Hid (s.may = false) := by show _ = _; unfold Sb.may; rw [h0, h1, h2, h3]; rfl
          clear h0
          go_enter Tryd.func12, Tryd.ntmps12
          go_wp2_with (first
            | (go_at_call 23; refine (within_any _ _ _ _).mono ?_; rintro e w1 ⟨rfl, rfl⟩)
            | (go_at_call 22; refine (sorted_at _ (w.heap.size + 1) 8 s _ _ H0.out (by simp)).mono ?_; rintro e w1 ⟨rfl, n, rfl⟩))
          go_ret
          exact ⟨ret_bool HM.out.symm, HB.out _ _ _⟩
        | true =>
          have HM : Hid (s.may = inn s.root 0 4294967295) := by show _ = _; unfold Sb.may; rw [h0, h1, h2, h3]; rfl
          clear h0
          go_enter Tryd.func12, Tryd.ntmps12
          go_wp2_with (first
            | (go_at_call 23; refine (within_any _ _ _ _).mono ?_; rintro e w1 ⟨rfl, rfl⟩)
            | (go_at_call 22; refine (sorted_at _ (w.heap.size + 1) 8 s _ _ H0.out (by simp)).mono ?_; rintro e w1 ⟨rfl, n, rfl⟩))
          go_ret
          exact ⟨ret_bool HM.out.symm, HB.out _ _ _⟩
end Go.Proofs.YthghodmjpdooaaaDoor

/- The walk of crc.New: it hands the table of its rule back, and writes nothing that was there. -/
import Derived.Test.YthghodmjpdooaaaDoorCrcLeaf
import Derived.Deep.WholeRow
import Derived.Deep.LoopGhost
import Derived.Laws.ResultCell
namespace Go.Proofs.YthghodmjpdooaaaDoor
set_option linter.unusedVariables false
open Go.RowKit Go.Maps
open Lz (g)
open Crc (stp steps ent bt run more)

/-- 256 numbers as a table's cells. -/
def tab (T : Nat → Nat) : Array Value := ((List.range 256).map fun j => Value.int .u32 (T j)).toArray
theorem tab_size (T : Nat → Nat) : (tab T).size = 256 := by simp [tab]
theorem tab_at (T : Nat → Nat) (i : Nat) (h : i < 256) : (tab T)[i]? = some (.int .u32 (T i)) := by simp [tab, h]
theorem tab_one (T : Nat → Nat) : (tab T).all (·.oneCell') = true := by
  simp [tab, Value.oneCell']
/-- The table of the rule up to i. -/
def upTo (i : Nat) : Nat → Nat := fun j => if j < i then ent j else 0
theorem tab_zero : tab (upTo 0) = Array.replicate 256 (.int .u32 0) := by
  apply Array.ext_getElem?
  intro i
  by_cases h : i < 256
  · rw [tab_at _ _ h]
    simp [upTo, h]
  · simp [tab, h]
theorem tab_set (i : Nat) (h : i < 256) : (tab (upTo i)).setIfInBounds i (.int .u32 (ent i)) = tab (upTo (i + 1)) := by
  apply Array.ext_getElem?
  intro j
  by_cases hj : j < 256
  · rw [tab_at _ _ hj]
    by_cases e : i = j
    · subst e
      rw [Array.getElem?_setIfInBounds_self_of_lt (by rw [tab_size]; exact hj)]
      simp [upTo]
    · rw [Array.getElem?_setIfInBounds_ne e, tab_at _ _ hj]
      have : (j < i + 1) = (j < i) := by simp; omega
      simp [upTo, this]
  · rw [Array.getElem?_eq_none (by rw [Array.size_setIfInBounds, tab_size]; omega), Array.getElem?_eq_none (by rw [tab_size]; omega)]
theorem tab_congr {T U : Nat → Nat} (h : ∀ i, i < 256 → T i = U i) : tab T = tab U := by
  apply Array.ext_getElem?
  intro j
  by_cases hj : j < 256
  · rw [tab_at _ _ hj, tab_at _ _ hj, h j hj]
  · rw [Array.getElem?_eq_none (by rw [tab_size]; omega), Array.getElem?_eq_none (by rw [tab_size]; omega)]
theorem tab_full : tab (upTo 256) = tab ent := tab_congr fun i h => by simp [upTo, h]

theorem infoTable : (Tryd.prog.info? 27).map (fun i => (i.zero, i.size)) = some (some (.agg (Array.replicate 256 (.int .u32 0))), 256) := by kernel_rfl

set_option maxRecDepth 100000 in
set_option maxHeartbeats 400000 in
theorem New_any (w : World) : Calls Tryd.prog 9 #[] w fun e w' => e = .returned (.agg (tab ent)) ∧ Below w.heap.size w w' := by
  obtain ⟨hz, hi'⟩ := zero_of_info infoTable
  go_enter Tryd.func9, Tryd.ntmps9
  go_wp2
  rw [← tab_zero]
  obtain ⟨w1, hw1⟩ : ∃ w1, w1 = w.alloc (Obj.cells (tab (upTo 0)) 27) := ⟨_, rfl⟩
  have hs1 : w1.heap.size = w.heap.size + 1 := by rw [hw1]; simp
  rw [← hw1, ← hs1]
  have HW : Hid (w1 = w.alloc (Obj.cells (tab (upTo 0)) 27)) := hw1
  clear hw1 hs1
  go_loopw [3] (fun s3 wr => ∃ i : Nat, i ≤ 256 ∧ s3 = .int .i64 i ∧ wr = w1.alloc (.cells (tab (upTo i)) 27)) (fun s3 _ => 256 - (intOf s3).toNat)
  case atStart => exact ⟨0, by omega, rfl, rfl⟩
  case round =>
    obtain ⟨i, hi, rfl, rfl⟩ := hrel
    by_cases hlt : i < 256
    · have hcell := tab_at (upTo i) i hlt
      have hset := tab_set i hlt
      go_wp2_with fail
      refine (entry_any i _ (by omega)).mono ?_
      rintro r wx ⟨rfl, rfl⟩
      go_wp2
      go_roundw
      case rel => exact ⟨i + 1, by omega, by go_num, rfl⟩
      case measure => simp [intOf]; omega
    · obtain rfl : i = 256 := by omega
      rw [tab_full]
      obtain ⟨C, hC⟩ : ∃ C, C = tab ent := ⟨_, rfl⟩
      have hCs : C.size = 256 := by rw [hC]; exact tab_size _
      have hC1 : C.all (·.oneCell') = true := by rw [hC]; exact tab_one _
      rw [← hC]
      have HC : Hid (C = tab ent) := hC
      clear hC
      have hh : (w1.alloc (Obj.cells C 27)).heap[w.heap.size]? = some (Obj.cells (tab (upTo 0)) 27 (0, 0)) := by
        rw [HW.out]; exact heap_alloc2_old w _ _
      have HB : Hid (Below w.heap.size w ((w1.alloc (Obj.cells C 27)).setRow w.heap.size C)) := by
        have h1 : Below w.heap.size w (w1.alloc (Obj.cells C 27)) := by
          rw [HW.out]; exact ((Below.refl _ _).alloc (Nat.le_refl _) _).alloc (by simp) _
        exact ⟨h1.os, h1.tape, h1.output, by rw [setRow_size]; exact h1.size, fun k hk => by rw [setRow_other _ _ _ _ (by omega)]; exact h1.block k hk⟩
      go_wp2_with (first
        | refine wpList_load_row rfl _ _ rfl w1.heap.size rfl 27 C (0, 0) _ (heap_alloc_new w1 _) Tryd.underlying27 rfl (by rw [hCs]; exact hi') ?_
        | refine wpList_store_row rfl _ _ _ rfl w.heap.size C rfl rfl 27 (tab (upTo 0)) hh (by rw [hCs]; exact hi') (by rw [hCs]; exact tab_size _) hC1 ?_)
      refine bodyPost_ret (v := .agg C) ?_ rfl ⟨by rw [HC.out], HB.out⟩
      exact results_cell_row rfl _ _ w.heap.size 27 C (0, 0) _ rfl (setRow_heap _ _ _ _ _ _ hh) Tryd.underlying27 rfl (by rw [hCs]; exact hi')
end Go.Proofs.YthghodmjpdooaaaDoor

/- Layer 6: strings.Clone: a copy of a text, in a row of bytes of its own. -/
import Derived.Test.YtlaeplfbkpjpgaaNamLeaf
import Derived.Lib.BufferWrite
import Derived.Lib.UnsafeStr
import Derived.Laws.MakeOwn
namespace Go.Proofs.Ytlaeplfbkpjpgaa
set_option linter.unusedVariables false
open Go.RowKit Go.Maps
open Nam

theorem cellsByte : Try.prog.cellsOf 5 = 1 := by kernel_rfl
/-- A new row of as many noughts as a text has bytes. -/
theorem make_bytes (s : ByteArray) (hs : s.size ≤ 100000000) : ∃ M : Array Value, M.size = s.size ∧ ∀ W : World, (Instr.makeSlice 40 (.int .i64 (s.size : Int)) (.int .i64 (s.size : Int))).run Try.prog W = .ok (.slice (some ⟨W.heap.size, 0, none⟩) s.size s.size) (W.alloc (.cells M 5)) := by
  obtain ⟨i0, hi, hz0, hz1, hz2⟩ := info_parts infoByte
  refine ⟨madeCells (Value.int .u8 0).cells (((s.size : Nat) : Int).toNat * i0.size), by rw [size_madeCells, hz1]; simp, fun W => ?_⟩
  have h := run_make (P := Try.prog) W 40 5 i0 (.int .u8 0) Try.underlying40 hi hz0 .i64 .i64 (s.size : Int) (s.size : Int) (by omega) (by omega) (by rw [hz2]; omega) (by omega)
  simpa using h
/-- A text copied into that row. -/
theorem copy_text (w : World) (s : ByteArray) (M : Array Value) (hM : M.size = s.size) : ∃ w2, (Builtin.copy_ #[40, 9] 3 #[.slice (some ⟨w.heap.size, 0, none⟩) s.size s.size, .string s]).run Try.prog (w.alloc (.cells M 5)) = .ok (.int .i64 s.size) w2 ∧
    w2.heap[w.heap.size]? = some (.cells (Lib.byteCells s.data.toList).toArray 5 (0, 0)) ∧ Below w.heap.size w w2 := by
  have hinfo : (Try.prog.info? 5).map (·.size) = some 1 := by kernel_rfl
  have h := Lib.run_copy_row_string (P := Try.prog) (w.alloc (.cells M 5)) 40 9 3 5 w.heap.size 0 s.size s.size s M 5 Try.underlying40 hinfo (heap_alloc_new w _) (Nat.le_refl _) (by omega)
  rw [List.take_zero, List.nil_append, List.drop_eq_nil_of_le (by rw [Array.length_toList]; omega), List.append_nil] at h
  refine ⟨_, h, setRow_heap _ _ M _ _ _ (heap_alloc_new w _), ?_⟩
  exact ((Below.refl _ w).alloc (Nat.le_refl _) _).trans ⟨rfl, rfl, rfl, by simp, fun k hk => setRow_other _ _ _ _ (by omega)⟩
/-- The row seen as a text. -/
theorem text_of (w w2 : World) (s : ByteArray) (h0 : s.size ≠ 0) (hs : s.size ≤ 100000000) (hg : w2.heap[w.heap.size]? = some (.cells (Lib.byteCells s.data.toList).toArray 5 (0, 0))) (hb : Below w.heap.size w w2) :
    ∃ w3, (Builtin.unsafeString_ #[50, 3] 9 #[.pointer (some ⟨w.heap.size, 0, none⟩), .int .i64 s.size]).run Try.prog w2 = .ok (.string s) w3 ∧ Below w.heap.size w w3 := by
  have hn : s.data.toList.length = s.size := rfl
  have h := Lib.run_unsafeString_row (P := Try.prog) w2 50 3 9 5 Try.underlying50 cellsByte w.heap.size s.size (by simp [World.shape?, hg, Lib.byteCells]) s.data.toList
    (fun e => h0 (by rw [← hn, e]; rfl)) (by rw [hn]; exact Nat.le_refl _) (by rw [hn]; omega) (fun j x hx => by
      rw [Addr.add_lit, Nat.zero_add, cell_of_row _ _ _ _ _ _ hg]
      simp [Lib.byteCells, hx])
  exact ⟨_, h, Lib.below_freeze hb (p := ⟨w.heap.size, 0, none⟩) (Nat.le_refl _) _⟩
set_option maxRecDepth 100000 in
theorem stringsliteClone_any (s : ByteArray) (w : World) (hs : s.size ≤ 100000000) : Calls Try.prog 34 #[.string s] w fun e w' => e = .returned (.string s) ∧ Below w.heap.size w w' := by
  by_cases h0 : s.size = 0
  · have e : s = ⟨#[]⟩ := ByteArray.ext (Array.eq_empty_of_size_eq_zero h0)
    subst e
    go_enter Try.func34, Try.ntmps34
    go_wp2
    go_ret
    exact ⟨rfl, Below.refl _ _⟩
  · obtain ⟨M, hM, hmk⟩ := make_bytes s hs
    obtain ⟨w2, hcp, hg, hb⟩ := copy_text w s M hM
    obtain ⟨w3, hus, hb3⟩ := text_of w w2 s h0 hs hg hb
    have h1 : ((s.size : Int) == 0) = false := beq_eq_false_iff_ne.2 (by omega)
    clear hM hg hb
    go_enter Try.func34, Try.ntmps34
    go_wp2
    go_ret
    exact ⟨rfl, hb3⟩
theorem Clone_any (s : ByteArray) (w : World) (hs : s.size ≤ 100000000) : Calls Try.prog 28 #[.string s] w fun e w' => e = .returned (.string s) ∧ Below w.heap.size w w' := by
  go_enter Try.func28, Try.ntmps28
  go_wp2_with (go_at_call 34; refine (stringsliteClone_any s _ hs).mono ?_; rintro e w' ⟨rfl, hb⟩)
  go_ret
  exact ⟨rfl, hb⟩
end Go.Proofs.Ytlaeplfbkpjpgaa

/- Layer 9: InodeLong: how many bytes a record has. -/
import Derived.Test.YtmhgjilpgbkaaaaInoShown
namespace Go.Proofs.Ytmhgjilpgbkaaaa
set_option linter.unusedVariables false
open Go.RowKit Go.Maps
open Lz (g)
open Cur
open Ino

set_option maxRecDepth 100000 in
set_option maxHeartbeats 2000000 in
theorem long_walk (s : Rec) (w : World) (hs : s.In ∧ s.target.size ≤ 9223372036854775807) : Calls Try.prog 8 #[.agg (iv s)] w fun e w' => e = .returned (.bool true) ∧ Below w.heap.size w w' := by
  clear hs
  obtain ⟨w1, hw1⟩ : ∃ w1, w1 = w.alloc (.cells (iv s) 23) := ⟨_, rfl⟩
  have hb1 : w1.heap[w.heap.size]? = some (.cells (iv s) 23 (0, 0)) := by rw [hw1]; exact heap_new rfl
  have HB1 : Hid (Below w.heap.size w w1) := by rw [hw1]; exact below_one _ _
  have HC : Hid (∀ wX, Below w1.heap.size w1 wX → ∀ k, wX.cell? ⟨w.heap.size, k, none⟩ = (iv s)[k]?) := fun wX h k => cell_of_row _ _ _ _ _ _ ((h.block _ (heap_lt hb1)).trans hb1)
  have HX : Hid (∀ wX, Below w1.heap.size w1 wX → wX.heap[w.heap.size]? = some (.cells (iv s) 23 (0, 0))) := fun wX h => (h.block _ (heap_lt hb1)).trans hb1
  have HW1 := hide hw1
  clear hw1 hb1
  have HP := hide (iPut_any s)
  unfold iv at HW1 ⊢
  go_enter Try.func8, Try.ntmps8
  go_wp2_with fail
  rw [← HW1.out]
  refine (shown_any w1).mono ?_
  rintro r w2 ⟨rfl, b2⟩
  have HB2 := hide b2
  have hx2 := HX.out w2 b2
  clear b2
  go_wp2_with (refine wpList_load_rec (by rfl) _ rfl w.heap.size rfl 23 (iv s) (0, 0) hx2 rfl ?_)
  refine (HP.out w2).mono ?_
  rintro r w3 (⟨hm, ao, c, rfl, hN⟩ | ⟨hm, rfl, b3⟩)
  · have b13 : Below w1.heap.size w1 w3 := HB2.out.trans (hN.bel.mono HB2.out.size)
    have HB3 : Hid (Below w.heap.size w w3) := HB1.out.trans (b13.mono HB1.out.size)
    have c0 : w3.cell? ⟨w.heap.size, 0, none⟩ = some (.int .i64 s.kind) := HC.out w3 b13 0
    have c10 : w3.cell? ⟨w.heap.size, 10, none⟩ = some (.string s.target) := HC.out w3 b13 10
    have hl := ownB_length hm
    have e : (putB s).length = 13 + (ownB s).length := by simp [putB, headB_length]
    rcases kinds (kind_may hm) with hk | hk | hk
    · have e2 : (putB s).length = 21 := by rw [e, hl.1 hk]
      rw [e2]
      rw [hk] at c0
      clear e e2 hl hN b13 hm hk
      go_wp2
      go_ret
      exact ⟨rfl, HB3.out⟩
    · have e2 : (putB s).length = 22 := by rw [e, hl.2.1 hk]
      rw [e2]
      rw [hk] at c0
      clear e e2 hl hN b13 hm hk
      go_wp2
      go_ret
      exact ⟨rfl, HB3.out⟩
    · have h6 := (link_facts hk (may_facts hm).2.2.2.2.2.2).1
      have e2 : (putB s).length = 14 + s.target.size := by rw [e, hl.2.2 hk]; omega
      rw [e2]
      rw [hk] at c0
      have hwr : IntKind.i64.wrap (14 + (s.target.size : Int)) = 14 + (s.target.size : Int) := by rw [IntKind.wrap_i64]; omega
      clear e e2 hl hN b13 hm hk
      go_wp2
      go_ret
      exact ⟨by simp, HB3.out⟩
  · have b13 : Below w1.heap.size w1 w3 := HB2.out.trans (b3.mono HB2.out.size)
    have HB3 : Hid (Below w.heap.size w w3) := HB1.out.trans (b13.mono HB1.out.size)
    clear hm b3 b13
    go_wp2
    go_ret
    exact ⟨rfl, HB3.out⟩
end Go.Proofs.Ytmhgjilpgbkaaaa

/- Layer 10: the document's examples hold: what stands at the head of each statement. -/
import Derived.Test.YtdenbbljbkpbdaaDirLook
namespace Go.Proofs.Ytdenbbljbkpbdaa
set_option linter.unusedVariables false
set_option maxRecDepth 100000
open Go.RowKit Go.Maps
open Nam Cur Cap Dir

namespace Dir
def exE : Ent := ⟨⟨#[97]⟩, 2, 5⟩
theorem ex_may : may [exE] = true := by
  have e : exE.name.toList = [97] := toList_mk [97]
  have h : ok exE = true := by
    rw [ok_iff, e]
    decide
  unfold may
  rw [rise_cons, nx_em, h]
  rfl
theorem ex_put : putB [exE] = [1, 97, 2, 5, 0, 0, 0] := by rw [putB_one]; decide
theorem ex_a : lk ⟨#[97]⟩ [exE] = (exE, 0) := by rw [lk, if_pos (show exE.name = (⟨#[97]⟩ : ByteArray) from rfl)]
theorem ex_b : lk ⟨#[98]⟩ [exE] = (z0, 20) := by rw [lk, if_neg (by decide)]; rfl
end Dir
theorem shown_any (w : World) : Calls Try.prog 8 #[] w fun r w' => r = .returned (.bool true) ∧ Below w.heap.size w w' := by
  obtain ⟨w1, hw1⟩ : ∃ w1, w1 = w.alloc (.cells (ev exE) 35) := ⟨_, rfl⟩
  have b1 : Below w.heap.size w w1 := by rw [hw1]; exact below_one _ _
  have h1 : w1.heap[w.heap.size]? = some (.cells (ev exE) 35 (0, 0)) := by rw [hw1]; exact heap_new rfl
  have hE : Es w1 (some ⟨w.heap.size, 0, none⟩) 1 [exE] := by
    refine ⟨rfl, .inr ⟨w.heap.size, 0, rfl, heap_lt h1, fun i hi => ?_⟩⟩
    obtain rfl : i = 0 := by omega
    intro j v hv
    rw [show gl [exE] 0 = exE from rfl] at hv
    rw [Nat.zero_mul, Nat.zero_add, cell_of_row _ _ _ _ _ _ h1]
    simpa using hv
  have HP := hide (dPut_any (some ⟨w.heap.size, 0, none⟩) 1 1 [exE] w1 hE (by omega) (by omega) (by omega))
  unfold DPuts at HP
  rw [ex_may, ex_put] at HP
  have HB1 := hide b1
  have HW1 := hide hw1
  clear b1 h1 hE hw1
  unfold ev exE at HW1
  simp only at HW1
  go_enter Try.func8, Try.ntmps8
  go_wp2_with fail
  rw [← HW1.out]
  refine HP.out.mono ?_
  rintro r w2 (⟨_, ao, c, rfl, hN⟩ | ⟨h, _⟩)
  rotate_left
  · cases h
  have HN := hide hN
  have HB2 := hide (HB1.out.trans (hN.bel.mono HB1.out.size))
  have HA := hide (dLook_any 7 c ao [exE] ⟨#[97]⟩ w2 ex_may (by rw [ex_put]; exact hN.bs) hN.cap hN.nil (by omega))
  rw [ex_a] at HA
  clear hN HP HW1 HB1
  unfold ev exE at HA
  simp only [List.length_cons, List.length_nil] at HA HN ⊢
  go_wp2_with fail
  refine HA.out.mono ?_
  rintro r w3 ⟨rfl, b3⟩
  obtain ⟨w4, hw4⟩ : ∃ w4, w4 = w3.alloc (.cells (ev exE) 35) := ⟨_, rfl⟩
  have b34 : Below w3.heap.size w3 w4 := by rw [hw4]; exact below_one _ _
  have b24 : Below w2.heap.size w2 w4 := b3.trans (b34.mono b3.size)
  have h4 : w4.heap[w3.heap.size]? = some (.cells (ev exE) 35 (0, 0)) := by rw [hw4]; exact heap_new rfl
  have HB := hide (dLook_any 7 c ao [exE] ⟨#[98]⟩ w4 ex_may (by rw [ex_put]; exact HN.out.bs.below b24) HN.out.cap HN.out.nil (by omega))
  rw [ex_b] at HB
  have HB4 := hide (HB2.out.trans (b24.mono HB2.out.size))
  have HW4 := hide hw4
  have H4 := hide h4
  have HBs4 := hide (HN.out.bs.below b24)
  clear b3 b34 b24 hw4 h4 HA
  unfold ev exE at HW4
  unfold ev z0 at HB
  simp only at HW4 HB
  go_wp2_with fail
  rw [← HW4.out]
  refine HB.out.mono ?_
  rintro r w5 ⟨rfl, b5⟩
  have h5 := (b5.block _ (heap_lt H4.out)).trans H4.out
  have y0 : w5.cell? ⟨w3.heap.size, 0, none⟩ = some (.string ⟨#[97]⟩) := cell_of_row _ _ _ _ _ _ h5
  have y1 : w5.cell? ⟨w3.heap.size, 1, none⟩ = some (.int .i64 2) := cell_of_row _ _ _ _ _ _ h5
  have y2 : w5.cell? ⟨w3.heap.size, 2, none⟩ = some (.int .i64 5) := cell_of_row _ _ _ _ _ _ h5
  obtain ⟨w6, hw6⟩ : ∃ w6, w6 = w5.alloc (.cells #[.string ⟨#[]⟩, .int .i64 0, .int .i64 0] 35) := ⟨_, rfl⟩
  have b56 : Below w5.heap.size w5 w6 := by rw [hw6]; exact below_one _ _
  have hs : (convert 25 9 (.slice ao 7 c)).run Try.prog w6 = _ := str_any ((HBs4.out.below b5).below b56) c
  have e : strOfNums [1, 97, 2, 5, 0, 0, 0] = ⟨#[1, 97, 2, 5, 0, 0, 0]⟩ := rfl
  rw [e] at hs
  have b46 : Below w4.heap.size w4 w6 := b5.trans (b56.mono b5.size)
  have HB6 := hide (HB4.out.trans (b46.mono HB4.out.size))
  have h6 := (b56.block _ (heap_lt h5)).trans h5
  have hl6 := heap_lt h5
  rw [hw6] at hs
  have HW6 := hide hw6
  clear b5 b56 b46 e h5 h6 hw6
  go_wp2
  go_ret
  rw [← HW6.out]
  exact ⟨rfl, HB6.out⟩
end Go.Proofs.Ytdenbbljbkpbdaa

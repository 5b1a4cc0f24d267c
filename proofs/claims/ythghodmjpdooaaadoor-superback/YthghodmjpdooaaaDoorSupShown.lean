/- Layer 8: the document's examples hold: what stands at the head of each statement; a table of the call's own. -/
import Derived.Test.YthghodmjpdooaaaDoorSupTake2
namespace Go.Proofs.YthghodmjpdooaaaDoor
set_option linter.unusedVariables false
open Go.RowKit Go.Maps
open Lz (g)
open Crc (ent more)
open Cur
open Sup

def zsb : Sb := ⟨0, 0, 0, 0, 0, 0, 0, 0, 0, 0⟩
theorem zsb_not : ¬ zsb.ok := fun h => by have h1 : (64 : Int) ≤ 0 := h.1.1; omega
set_option maxRecDepth 100000 in
set_option maxHeartbeats 4000000 in
theorem shown_any (w : World) (hW : Wid w) : Calls Tryd.prog 8 #[] w fun r w' => r = .returned (.bool true) ∧ Below w.heap.size w w' := by
  obtain ⟨hz, hi'⟩ := zero_of_info infoTable
  have HW := hide hW
  clear hW
  go_enter Tryd.func8, Tryd.ntmps8
  go_wp2_with fail
  refine (New_any w).mono ?_
  rintro r w1 ⟨rfl, hbel⟩
  obtain ⟨C, hC⟩ : ∃ C, C = tab ent := ⟨_, rfl⟩
  rw [← hC]
  have HC := hide hC
  clear hC
  go_wp2_with (refine wpList_store_table rfl _ _ rfl ent C HC.out rfl rfl _ (by simp) ?_; intro w2 ht2 hT2 hlt2 hb2')
  have b2 : Below w.heap.size w w2 := hbel.trans (hb2'.mono hbel.size)
  have HB2 := hide b2
  have HT2 := hide hT2
  clear ht2 hT2 hb2' hbel HC b2
  refine (Put_any w1.heap.size ent zsb w2 small_ent HT2.out hlt2 (HW.out.below HB2.out HW.out.pos)).mono ?_
  rintro r w3 ⟨⟨h, _⟩ | ⟨_, rfl⟩, b3⟩
  · exact absurd h zsb_not
  have HB3 : Hid (Below w.heap.size w w3) := HB2.out.trans (b3.mono HB2.out.size)
  have HT3 := hide (HT2.out.below b3 hlt2)
  have hlt3 : w1.heap.size < w3.heap.size := Nat.lt_of_lt_of_le hlt2 b3.size
  clear b3
  go_wp2_with fail
  refine (Take_any w1.heap.size 0 0 ent none [] w3 small_ent HT3.out hlt3 (HW.out.below HB3.out HW.out.pos) ⟨rfl, fun i => by simp [g], .inl rfl⟩ (by omega)).mono ?_
  rintro r w4 ⟨⟨h, _⟩ | ⟨_, rfl⟩, b4⟩
  · exact absurd h.1 (by simp)
  have HB4 : Hid (Below w.heap.size w w4) := HB3.out.trans (b4.mono HB3.out.size)
  clear b4
  unfold zv
  go_wp2
  go_ret
  exact ⟨rfl, HB4.out.alloc HB4.out.size _⟩
end Go.Proofs.YthghodmjpdooaaaDoor

/- Layer 8: Put, by the program. -/
import Derived.Test.YthghodmjpdooaaaDoorSupBlock
namespace Go.Proofs.YthghodmjpdooaaaDoor
set_option linter.unusedVariables false
open Go.RowKit Go.Maps
open Lz (g)
open Crc (ent more)
open Cur
open Sup

/-- What Put answers: 64 bytes in a block of their own, or the error. -/
def PutAns (T : Nat → Nat) (s : Sb) (w : World) (e : Ending) (w' : World) : Prop :=
  (s.ok ∧ ∃ b, e = .returned (.tuple #[.slice (some ⟨b, 0, none⟩) 64 64, .int .i64 0]) ∧ w.heap.size ≤ b ∧ w'.heap[b]? = some (.cells (bl (put T s)) 44 (0, 0))) ∨ (¬ s.ok ∧ e = .returned (.tuple #[.slice none 0 0, .int .i64 1]))
set_option maxRecDepth 100000 in
set_option maxHeartbeats 4000000 in
theorem Put_any (tb : Nat) (T : Nat → Nat) (s : Sb) (w : World) (hS : Small T) (hT : Tb w tb T) (htb : tb < w.heap.size) (hW : Wid w) :
    Calls Tryd.prog 10 #[.pointer (some ⟨tb, 0, none⟩), .agg (sv s)] w fun e w' => PutAns T s w e w' ∧ Below w.heap.size w w' := by
  have HT := hide hT
  have HW := hide hW
  have hm := May_any s
  obtain ⟨hz, hi'⟩ := zero_of_info zero64
  clear hT hW
  obtain ⟨w1, hw1⟩ : ∃ w1, w1 = w.alloc (.cells (sv s) 23) := ⟨_, rfl⟩
  have hb1 : w1.heap[w.heap.size]? = some (.cells (sv s) 23 (0, 0)) := by rw [hw1]; exact heap_new rfl
  have b1 : Below w.heap.size w w1 := by rw [hw1]; exact (Below.refl _ _).alloc (Nat.le_refl _) _
  have hlt1 := heap_lt hb1
  have HW1 := hide hw1
  have HB1 := hide b1
  clear hw1 b1
  obtain ⟨C, hC⟩ : ∃ C, C = sv s := ⟨_, rfl⟩
  have HC := hide hC
  rw [← hC]
  rw [← hC] at hb1 HW1 hm
  have HI : Hid ((Tryd.prog.info? 23).map (·.size) = some C.size) := by rw [hC]; exact infoSuper
  clear hC
  cases hq : s.may with
  | false =>
    rw [hq] at hm
    have HQ : Hid (¬ s.ok) := may_not.1 hq
    clear hq
    go_enter Tryd.func10, Tryd.ntmps10
    go_wp2_with (refine wpList_load_row rfl _ _ rfl w.heap.size rfl 23 C (0, 0) _ (heap_alloc_new w _) Tryd.underlying23 rfl HI.out ?_)
    rw [← HW1.out]
    refine (hm w1).mono ?_
    rintro r w2 ⟨rfl, b2⟩
    have HB2 : Hid (Below w.heap.size w w2) := HB1.out.trans (b2.mono HB1.out.size)
    clear b2
    go_wp2
    go_ret2
    exact ⟨.inr ⟨HQ.out, rfl⟩, HB2.out⟩
  | true =>
    rw [hq] at hm
    have HQ : Hid (s.ok) := may_iff.1 hq
    clear hq
    go_enter Tryd.func10, Tryd.ntmps10
    go_wp2_with (refine wpList_load_row rfl _ _ rfl w.heap.size rfl 23 C (0, 0) _ (heap_alloc_new w _) Tryd.underlying23 rfl HI.out ?_)
    rw [← HW1.out]
    refine (hm w1).mono ?_
    rintro r w2 ⟨rfl, b2⟩
    have HB2 : Hid (Below w.heap.size w w2) := HB1.out.trans (b2.mono HB1.out.size)
    have hb2 : w2.heap[w.heap.size]? = some (.cells C 23 (0, 0)) := (b2.block _ hlt1).trans hb1
    have hs2 := HB2.out.size
    have HK := hide (blockOf_any tb T s w2 HQ.out hS (HT.out.below HB2.out htb) (by omega) (HW.out.below HB2.out HW.out.pos))
    clear b2 hm
    rw [← HC.out] at HK
    go_wp2_with (refine wpList_load_row rfl _ _ rfl w.heap.size rfl 23 C (0, 0) _ hb2 Tryd.underlying23 rfl HI.out ?_)
    refine HK.out.mono ?_
    rintro r w3 ⟨rfl, b3⟩
    have HB3 : Hid (Below w.heap.size w w3) := HB2.out.trans (b3.mono HB2.out.size)
    obtain ⟨X, hX⟩ : ∃ X, X = bl (put T s) := ⟨_, rfl⟩
    have hXs : X.size = 64 := by rw [hX, bl_size]
    have hX1 : X.all (·.oneCell') = true := by rw [hX]; exact bl_one _
    rw [← hX]
    have HX := hide hX
    clear b3 hb2 hX HK
    go_wp2_with (refine wpList_store_row rfl _ _ _ rfl w3.heap.size X rfl rfl 44 (Array.replicate 64 (.int .u8 0)) (heap_alloc_new w3 _) (by rw [hXs]; exact infoBlock) (by rw [hXs]; simp) hX1 ?_; rw [World.setRow_alloc_new])
    go_ret2
    exact ⟨.inl ⟨HQ.out, w3.heap.size, rfl, HB3.out.size, by rw [← HX.out]; exact heap_new rfl⟩, HB3.out.alloc HB3.out.size _⟩
end Go.Proofs.YthghodmjpdooaaaDoor

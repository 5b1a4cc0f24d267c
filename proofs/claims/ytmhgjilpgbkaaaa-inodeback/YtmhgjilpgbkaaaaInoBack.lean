/- Layer 9: InodeBack: a record that was put is taken as it was, and is none if it is cut, or goes on. -/
import Derived.Test.YtmhgjilpgbkaaaaInoShown
import Derived.Test.YtmhgjilpgbkaaaaInoTake
namespace Go.Proofs.Ytmhgjilpgbkaaaa
set_option linter.unusedVariables false
open Go.RowKit Go.Maps
open Lz (g)
open Cur
open Ino

namespace Ino
set_option maxRecDepth 100000 in
theorem equal_self (s : Rec) (w : World) : (Op.equalIn 10000 23 (.agg (iv s)) (.agg (iv s))).run Try.prog w = .ok true w := by
  unfold iv
  go_simp
theorem tak_put {s : Rec} (h : s.may = true) : takR (putB s) = s ∧ takE (putB s) = 0 := by
  unfold takR takE
  rw [if_pos (good_put h), if_pos (good_put h), (read_put h).1]
  exact ⟨rfl, rfl⟩
theorem tak_not {zs : List Int} (h : good zs = false) : takR zs = zr ∧ takE zs = 2 := by
  unfold takR takE
  rw [h]
  exact ⟨rfl, rfl⟩
end Ino
set_option maxRecDepth 100000 in
set_option maxHeartbeats 4000000 in
theorem back_walk (s : Rec) (w : World) (hs : s.In ∧ s.target.size ≤ 9223372036854775807) : Calls Try.prog 6 #[.agg (iv s)] w fun e w' => e = .returned (.bool true) ∧ Below w.heap.size w w' := by
  clear hs
  obtain ⟨w1, hw1⟩ : ∃ w1, w1 = w.alloc (.cells (iv s) 23) := ⟨_, rfl⟩
  have hb1 : w1.heap[w.heap.size]? = some (.cells (iv s) 23 (0, 0)) := by rw [hw1]; exact heap_new rfl
  have HB1 : Hid (Below w.heap.size w w1) := by rw [hw1]; exact below_one _ _
  have HX : Hid (∀ wX, Below w1.heap.size w1 wX → wX.heap[w.heap.size]? = some (.cells (iv s) 23 (0, 0))) := fun wX h => (h.block _ (heap_lt hb1)).trans hb1
  have HW1 := hide hw1
  clear hw1 hb1
  have HP := hide (iPut_any s)
  have HM := hide (May_any s)
  have hEq := equal_self s
  unfold iv at HW1
  go_enter Try.func6, Try.ntmps6
  go_wp2_with fail
  unfold iv
  rw [← HW1.out]
  refine (shown_any w1).mono ?_
  rintro r w2 ⟨rfl, b2⟩
  have HB2 := hide b2
  have hx2 := HX.out w2 b2
  clear b2
  go_wp2_with (refine wpList_load_rec (by rfl) _ rfl w.heap.size rfl 23 (iv s) (0, 0) hx2 rfl ?_)
  refine (HP.out w2).mono ?_
  rintro r w3 (⟨hm, ao, c, rfl, hN⟩ | ⟨hm, rfl, b3⟩)
  rotate_left
  · have b13 : Below w1.heap.size w1 w3 := HB2.out.trans (b3.mono HB2.out.size)
    have HB3 : Hid (Below w.heap.size w w3) := HB1.out.trans (b13.mono HB1.out.size)
    have hx3 := HX.out w3 b13
    rw [hm] at HM
    clear hm b3 b13 hx2 HP
    go_wp2_with (refine wpList_load_rec (by rfl) _ rfl w.heap.size rfl 23 (iv s) (0, 0) hx3 rfl ?_)
    refine (HM.out w3).mono ?_
    rintro r w4 ⟨rfl, b4⟩
    have HB4 : Hid (Below w.heap.size w w4) := HB3.out.trans (b4.mono HB3.out.size)
    clear b4
    go_wp2
    go_ret
    exact ⟨rfl, HB4.out⟩
  · have b13 : Below w1.heap.size w1 w3 := HB2.out.trans (hN.bel.mono HB2.out.size)
    rw [hm] at HM
    have hle := putB_least hm
    have hby := putB_bytes hm
    have t1 := tak_put hm
    have t2 := tak_not (cut_not hm)
    have t3 := tak_not (more_not hm)
    have hBs := hN.bs
    have hcap := hN.cap
    have hmx := hN.max
    have HNil := hide hN.nil
    generalize putB s = Z at *
    obtain ⟨t, ht⟩ : ∃ t, Z.length = t + 1 := ⟨Z.length - 1, by omega⟩
    generalize hzl : Z.length = m at *
    rw [show m - 1 = t by omega] at t2
    have HBs := hide hBs
    have HBy := hide hby
    have HB13 := hide b13
    have T1 := hide t1
    have T2 := hide t2
    have T3 := hide t3
    have HTk := hide ht
    have HZl := hide hzl
    have hm0 : ((m : Int) == 0) = false := by simp; omega
    have hwt : IntKind.i64.wrap ((m : Int) - 1) = (t : Int) := by rw [IntKind.wrap_i64]; omega
    have htc : (t : Int) ≤ (c : Int) := by omega
    have ht0 : (0 : Int) ≤ (t : Int) := by omega
    clear hm hN b13 hBs hby t1 t2 t3 ht hzl hx2 HP
    go_wp2_with fail
    refine (iTake_any m c ao Z w3 HBs.out hcap HNil.out (by omega)).mono ?_
    rintro r w4 ⟨he, b4⟩
    rw [T1.out.1, T1.out.2] at he
    subst he
    obtain ⟨w5, hw5⟩ : ∃ w5, w5 = w4.alloc (.cells (iv s) 23) := ⟨_, rfl⟩
    have b35 : Below w3.heap.size w3 w5 := by rw [hw5]; exact b4.alloc b4.size _
    have hy5 : w5.heap[w4.heap.size]? = some (.cells (iv s) 23 (0, 0)) := by rw [hw5]; exact heap_new rfl
    have H5 := hide hy5
    have HB35 := hide b35
    have HW5 := hide hw5
    clear b4 b35 hy5 hw5
    go_wp2_with (refine wpList_store_row rfl _ _ _ rfl w4.heap.size (iv s) rfl rfl 23 _ (heap_alloc_new w4 _) infoRec rfl (iv_one _) ?_; rw [World.setRow_alloc_new, ← HW5.out])
    refine (iTake_any t c ao (Z.take t) w5 ((HBs.out.below HB35.out).take t (by have := HTk.out; omega)) (by omega) HNil.out (by have := HTk.out; omega)).mono ?_
    rintro r w6 ⟨he, b6⟩
    rw [T2.out.1, T2.out.2] at he
    subst he
    obtain ⟨w7, hw7⟩ : ∃ w7, w7 = w6.alloc (.cells (iv zr) 23) := ⟨_, rfl⟩
    have b57 : Below w5.heap.size w5 w7 := by rw [hw7]; exact b6.alloc b6.size _
    have b37 : Below w3.heap.size w3 w7 := HB35.out.trans (b57.mono HB35.out.size)
    have H7 : Hid (w7.heap[w4.heap.size]? = some (.cells (iv s) 23 (0, 0))) := (b57.block _ (heap_lt H5.out)).trans H5.out
    have HB37 := hide b37
    have HW7 := hide hw7
    have ho := emptyB (w := w7) (Nat.le_refl _)
    have hsrc : Bs (w7.alloc (.cells #[] 5)) ao m Z := (HBs.out.below b37).alloc _
    have hk8 : 0 + m ≤ 100000000 := by omega
    have hk9 : m + 1 ≤ 100000000 := by omega
    clear b6 b57 b37 hw7 H5
    go_wp2_with (first
      | (refine wpList_store_row rfl _ _ _ rfl w6.heap.size (iv zr) rfl rfl 23 _ (heap_alloc_new w6 _) infoRec rfl (iv_one _) ?_; rw [World.setRow_alloc_new, ← HW7.out])
      | (at_builtin
         refine wpList_append_bs _ (by rfl) (.tmp 55) (.tmp 56) (by rfl) w7.heap.size _ 0 0 [] (by rfl) ho ao m c Z (by rfl) hsrc HNil.out hk8 (by simp) ?_
         intro ao8 c8 w8 ho1 hg1
         have HB78 : Hid (Below w7.heap.size w7 w8) := ((Below.refl _ w7).alloc (Nat.le_refl _) _).grown hg1 (by simp) (fun kk e => (ho.lt kk e).1)
         have ho8 : (w8.alloc (.cells #[.int .u8 0] 5)).ownsRow w7.heap.size 5 1 (.slice ao8 m c8) m (bv Z) := by rw [Nat.zero_add, List.nil_append] at ho1; exact ho1.alloc _
         have hs8 : Bs (w8.alloc (.cells #[.int .u8 0] 5)) (some ⟨w8.heap.size, 0, none⟩) 1 [0] := bs_new w8 (0, 0) [0] (fun x hx => by simp at hx; omega)
         have hz8 := HB78.out.size
         rw [Nat.zero_add]
         clear ho1 hg1 ho hsrc)
      | (at_builtin
         refine wpList_append_bs _ (by rfl) (.tmp 57) (.tmp 58) (by rfl) w7.heap.size ao8 m c8 Z (by rfl) ho8 (some ⟨w8.heap.size, 0, none⟩) 1 1 [0] (by rfl) hs8 (fun h => by simp at h) hk9 (by simp; omega) ?_
         intro ao9 c9 w9 ho9 hg9
         have HB79 : Hid (Below w7.heap.size w7 w9) := (HB78.out.alloc HB78.out.size _).grown hg9 (by simp; omega) (fun kk e => (ho8.lt kk e).1)
         have HO9 := hide ho9
         clear ho9 hg9 ho8 hs8))
    have HBx : Hid (Bs w9 ao9 (m + 1) (Z ++ [0])) := bs_of_owns HO9.out (HBy.out.append (fun x hx => by simp at hx; omega))
    refine (iTake_any (m + 1) c9 ao9 (Z ++ [0]) w9 HBx.out (cap_of_owns HO9.out) (nil_cap HO9.out) (by omega)).mono ?_
    rintro r wA ⟨he, bA⟩
    rw [T3.out.1, T3.out.2] at he
    subst he
    obtain ⟨wB, hwB⟩ : ∃ wB, wB = wA.alloc (.cells (iv zr) 23) := ⟨_, rfl⟩
    have b9B : Below w9.heap.size w9 wB := by rw [hwB]; exact bA.alloc bA.size _
    have b7B : Below w7.heap.size w7 wB := HB79.out.trans (b9B.mono HB79.out.size)
    have HBB7 : Hid (wB.heap[w4.heap.size]? = some (.cells (iv s) 23 (0, 0))) := (b7B.block _ (heap_lt H7.out)).trans H7.out
    have b3B : Below w3.heap.size w3 wB := HB37.out.trans (b7B.mono HB37.out.size)
    have b1B : Below w1.heap.size w1 wB := HB13.out.trans (b3B.mono HB13.out.size)
    have hxB := HX.out wB b1B
    have HBw : Hid (Below w.heap.size w wB) := HB1.out.trans (b1B.mono HB1.out.size)
    have HWB := hide hwB
    have H1B := hide b1B
    clear bA b9B b7B b3B b1B hwB H7
    go_wp2_with (first
      | (refine wpList_store_row rfl _ _ _ rfl wA.heap.size (iv zr) rfl rfl 23 _ (heap_alloc_new wA _) infoRec rfl (iv_one _) ?_; rw [World.setRow_alloc_new, ← HWB.out])
      | refine wpList_load_rec (by rfl) _ rfl w.heap.size rfl 23 (iv s) (0, 0) hxB rfl ?_)
    refine (HM.out wB).mono ?_
    rintro r wC ⟨rfl, bC⟩
    have hxC := HX.out wC (H1B.out.trans (bC.mono H1B.out.size))
    have hyC : wC.heap[w4.heap.size]? = some (.cells (iv s) 23 (0, 0)) := (bC.block _ (heap_lt HBB7.out)).trans HBB7.out
    have HBC : Hid (Below w.heap.size w wC) := HBw.out.trans (bC.mono HBw.out.size)
    clear bC
    go_wp2_with (first
      | refine wpList_load_rec (by rfl) _ rfl w.heap.size rfl 23 (iv s) (0, 0) hxC rfl ?_
      | refine wpList_load_rec (by rfl) _ rfl w4.heap.size rfl 23 (iv s) (0, 0) hyC rfl ?_)
    go_ret
    exact ⟨rfl, HBC.out⟩
end Go.Proofs.Ytmhgjilpgbkaaaa

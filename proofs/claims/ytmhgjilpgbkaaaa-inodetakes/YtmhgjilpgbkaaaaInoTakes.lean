/- Layer 9: InodeTakes: any bytes are taken as a record, or refused, as the document says. -/
import Derived.Test.YtmhgjilpgbkaaaaInoRefTake
import Derived.Test.YtmhgjilpgbkaaaaInoShown
import Derived.Deep.CutBlock
import Derived.Deep.CutRange
namespace Go.Proofs.Ytmhgjilpgbkaaaa
set_option linter.unusedVariables false
open Go.RowKit Go.Maps
open Lz (g)
open Cur
open Ino

namespace Ino
set_option maxRecDepth 100000 in
theorem equal_rec (s : Rec) (w : World) : (Op.equalIn 10000 23 (.agg (iv s)) (.agg (iv s))).run Try.prog w = .ok true w := by
  unfold iv
  go_simp
end Ino
set_option maxRecDepth 100000 in
set_option maxHeartbeats 4000000 in
theorem takes_walk (a0 : Option Addr) (len0 cap0 : Nat) (z0 : List Int) (w : World) (w0 : RowB w a0 len0 cap0 z0) :
    Calls Try.prog 4 #[.slice a0 len0 cap0] w fun e w' => e = .returned (.bool true) ∧ Below w.heap.size w w' := by
  obtain ⟨hbs, hlc, hcm, hby, hnil⟩ := w0.bs (min len0 300) (by omega)
  have HBS := hide hbs
  have HN := hide hnil
  clear w0 hbs hby hnil
  generalize z0.take (min len0 300) = zs at HBS
  go_enter Try.func4, Try.ntmps4
  go_wp2_with fail
  refine (shown_any w).mono ?_
  rintro r ws ⟨rfl, bs0⟩
  have HB0 := hide bs0
  clear bs0
  go_upto_if 11 with fail
  go_cut [0] from 12 to 13 (fun s0 wx => s0 = .slice a0 (min len0 300) cap0 ∧ wx = ws)
  case first =>
    by_cases h3 : 300 < len0
    · have e3 : min len0 300 = 300 := by omega
      go_wp2_with fail
      go_meet
      case rel => exact ⟨by rw [e3], rfl⟩
    · have e3 : min len0 300 = len0 := by omega
      go_wp2_with fail
      go_meet
      case rel => exact ⟨by rw [e3], rfl⟩
  case rest =>
  obtain ⟨rfl, hwc⟩ := hcut
  obtain rfl := hwc.symm
  have hm2 : min len0 300 ≤ cap0 := by omega
  have hm1 : min len0 300 ≤ 300 := by omega
  generalize min len0 300 = m at *
  have hk8 : 0 + m ≤ 100000000 := by omega
  have HS3 := hide (HBS.out.below HB0.out)
  have ho := emptyB (w := ws) (Nat.le_refl _)
  have hsrc : Bs (ws.alloc (.cells #[] 5)) a0 m zs := HS3.out.alloc _
  go_wp2_with (first
    | (at_builtin
       refine wpList_append_bs _ (by rfl) (.tmp 15) (.tmp 16) (by rfl) ws.heap.size _ 0 0 [] (by rfl) ho a0 m cap0 zs (by rfl) hsrc HN.out hk8 (by simp) ?_
       intro ao c w4 ho1 hg1
       have HB34 : Hid (Below ws.heap.size ws w4) := ((Below.refl _ ws).alloc (Nat.le_refl _) _).grown hg1 (by simp) (fun kk e => (ho.lt kk e).1)
       have HO1 : Hid (w4.ownsRow ws.heap.size 5 1 (.slice ao m c) m (bv zs)) := by rw [Nat.zero_add, List.nil_append] at ho1; exact ho1
       clear ho1 hg1))
  have HB4 : Hid (Below w.heap.size w w4) := HB0.out.trans (HB34.out.mono HB0.out.size)
  have HS4 := hide (bs_of_owns HO1.out HS3.out.bytes)
  have hoc := cap_of_owns HO1.out
  have HOn := hide (nil_cap HO1.out)
  clear ho hsrc HO1
  refine (iTake_any m c ao zs w4 HS4.out hoc HOn.out (by omega)).mono ?_
  rintro r w5 ⟨rfl, b5⟩
  have HR := hide (fun (w' : World) (h : Below w.heap.size w w') => refITake_any m cap0 a0 zs w' (HBS.out.below h) hm2 hcm HN.out (by omega))
  have HB5 : Hid (Below w.heap.size w w5) := HB4.out.trans (b5.mono HB4.out.size)
  generalize takR zs = s at *
  generalize takE zs = cd at *
  have hEq := equal_rec s
  clear b5 HS4 HB34 HS3
  obtain ⟨w6, hw6⟩ : ∃ w6, w6 = w5.alloc (.cells (iv s) 23) := ⟨_, rfl⟩
  have hx6 : w6.heap[w5.heap.size]? = some (.cells (iv s) 23 (0, 0)) := by rw [hw6]; exact heap_new rfl
  have HB6 : Hid (Below w.heap.size w w6) := by rw [hw6]; exact HB5.out.alloc HB5.out.size _
  have HW6 := hide hw6
  have hlt6 := heap_lt hx6
  clear hw6
  go_wp2_with (refine wpList_store_row rfl _ _ _ rfl w5.heap.size (iv s) rfl rfl 23 _ (heap_alloc_new w5 _) infoRec rfl (iv_one _) ?_; rw [World.setRow_alloc_new, ← HW6.out])
  refine (HR.out w6 HB6.out).mono ?_
  rintro r w7 ⟨rfl, b7⟩
  have hx7 : w7.heap[w5.heap.size]? = some (.cells (iv s) 23 (0, 0)) := (b7.block _ hlt6).trans hx6
  have HB7 : Hid (Below w.heap.size w w7) := HB6.out.trans (b7.mono HB6.out.size)
  have hlt7 := heap_lt hx7
  obtain ⟨w8, hw8⟩ : ∃ w8, w8 = w7.alloc (.cells (iv s) 23) := ⟨_, rfl⟩
  have hx8 : w8.heap[w5.heap.size]? = some (.cells (iv s) 23 (0, 0)) := by rw [hw8]; exact (Below.heap_alloc _ _ _ hlt7).trans hx7
  have hy8 : w8.heap[w7.heap.size]? = some (.cells (iv s) 23 (0, 0)) := by rw [hw8]; exact heap_new rfl
  have HB8 : Hid (Below w.heap.size w w8) := by rw [hw8]; exact HB7.out.alloc HB7.out.size _
  have HW8 := hide hw8
  have hcc : (cd == cd) = true := by simp
  clear b7 hw8 hx7 HR hx6
  go_wp2_with (first
    | (refine wpList_store_row rfl _ _ _ rfl w7.heap.size (iv s) rfl rfl 23 _ (heap_alloc_new w7 _) infoRec rfl (iv_one _) ?_; rw [World.setRow_alloc_new, ← HW8.out])
    | refine wpList_load_rec (by rfl) _ rfl w5.heap.size rfl 23 (iv s) (0, 0) hx8 rfl ?_
    | refine wpList_load_rec (by rfl) _ rfl w7.heap.size rfl 23 (iv s) (0, 0) hy8 rfl ?_)
  go_ret
  exact ⟨rfl, HB8.out⟩
end Go.Proofs.Ytmhgjilpgbkaaaa

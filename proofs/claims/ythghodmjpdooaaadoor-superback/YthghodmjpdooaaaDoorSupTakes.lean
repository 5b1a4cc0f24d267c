/- Layer 8: SuperTakes: of any bytes the superblock is read, or refused, as the document says. -/
import Derived.Test.YthghodmjpdooaaaDoorSupRefTake
import Derived.Test.YthghodmjpdooaaaDoorSupShown
import Derived.Laws.StructEq
namespace Go.Proofs.YthghodmjpdooaaaDoor
set_option linter.unusedVariables false
open Go.RowKit Go.Maps
open Lz (g)
open Crc (ent more)
open Cur
open Sup

/-- A superblock's cells loaded behind '&&'. -/
theorem wpList_load_super {ops : Array Oper} {rest : List Oper} {o : Oper} {a : Act} {w : World} {Q : Exit → Act → World → Prop} (hw : Region.wanted o (yielded ops a.tmps) = true) (x : Operand) (ho : o.op = .load 23 x)
    (b : Nat) (hx : a.eval x = .pointer (some ⟨b, 0, none⟩)) (t : TypeId) (cs : Array Value) (fr : Nat × Nat) (hg : w.heap[b]? = some (.cells cs t fr)) (hs : cs.size = 10)
    (h : wpList Tryd.prog ops Q rest (a.put o.dst (.agg cs)) w) : wpList Tryd.prog ops Q (o :: rest) a w :=
  wpList_step fun K hK => by
    rw [if_pos hw]
    exact wp_load_row 23 x ho b hx t cs fr _ hg Tryd.underlying23 rfl (by rw [hs]; exact infoSuper) (hK _ _ h)
theorem take_same {T : Nat → Nat} {zs : List Int} {e e' : Ending} (h : TakeAns T zs e) (h' : TakeAns T zs e') : e' = e ∧ ∃ (s : Sb) (c : Int), e = .returned (.tuple #[.agg (sv s), .int .i64 c]) := by
  rcases h with ⟨h1, h2⟩ | ⟨h1, h2⟩
  · rcases h' with ⟨k1, k2⟩ | ⟨k1, k2⟩
    · exact ⟨k2.trans h2.symm, _, _, h2⟩
    · exact absurd h1 k1
  · rcases h' with ⟨k1, k2⟩ | ⟨k1, k2⟩
    · exact absurd k1 h1
    · exact ⟨k2.trans h2.symm, zsb, _, h2⟩
set_option maxRecDepth 100000 in
theorem equal_self (s : Sb) (w : World) : (Op.equalIn 10000 23 (.agg (sv s)) (.agg (sv s))).run Tryd.prog w = .ok true w := by
  unfold sv
  go_simp
set_option maxRecDepth 100000 in
set_option maxHeartbeats 4000000 in
theorem takes_walk (a0 : Option Addr) (len0 cap0 : Nat) (z0 : List Int) (w : World) (w0 : RowB w a0 len0 cap0 z0) (hW : Wid w) :
    Calls Tryd.prog 4 #[.slice a0 len0 cap0] w fun e w' => e = .returned (.bool true) ∧ Below w.heap.size w w' := by
  obtain ⟨hz, hi'⟩ := zero_of_info infoTable
  obtain ⟨hbs, hlc, hcm, hby, hnil⟩ := w0.bs (min len0 300) (by omega)
  have HBS := hide hbs
  have HN := hide hnil
  have HW := hide hW
  clear w0 hbs hby hnil hW
  generalize z0.take (min len0 300) = zs at HBS
  go_enter Tryd.func4, Tryd.ntmps4
  go_wp2_with fail
  refine (shown_any w HW.out).mono ?_
  rintro r ws ⟨rfl, bs0⟩
  have HB0 := hide bs0
  clear bs0
  go_upto_if 12 with fail
  go_cut [0] from 13 to 14 (fun s0 wx => s0 = .slice a0 (min len0 300) cap0 ∧ wx = ws)
  case first =>
    by_cases h3 : 300 < len0
    · have e3 : min len0 300 = 300 := by omega
      go_wp2_with fail
      go_meet
      case rel => exact ⟨by rw [e3], rfl⟩
    · have e3 : min len0 300 = len0 := by omega
      go_wp2_with fail
      go_meet
      case rel => exact ⟨by rw [e3], rfl⟩
  case rest =>
  obtain ⟨rfl, hwc⟩ := hcut
  obtain rfl := hwc.symm
  have hm2 : min len0 300 ≤ cap0 := by omega
  have hm1 : min len0 300 ≤ 300 := by omega
  generalize min len0 300 = m at *
  go_wp2_with fail
  refine (New_any ws).mono ?_
  rintro r w2 ⟨rfl, b2⟩
  obtain ⟨C, hC⟩ : ∃ C, C = tab ent := ⟨_, rfl⟩
  rw [← hC]
  have HC := hide hC
  clear hC
  have hk8 : 0 + m ≤ 100000000 := by omega
  go_wp2_with (first
    | (refine wpList_store_table rfl _ _ rfl ent C HC.out rfl rfl _ (by simp) ?_; intro w3 ht3 hT3 hlt3 hb3; have b3 : Below w.heap.size w w3 := (HB0.out.trans (b2.mono HB0.out.size)).trans (hb3.mono (Nat.le_trans HB0.out.size b2.size)); have HB3 := hide b3; have HT3 := hide hT3; have HS3 := hide (HBS.out.below b3); have ho := emptyB (w := w3) (Nat.le_refl _); have hsrc : Bs (w3.alloc (.cells #[] 5)) a0 m zs := HS3.out.alloc _; clear ht3 hT3 hb3 b2 HB0 b3)
    | (at_builtin
       refine wpList_append_bs _ (by rfl) (.tmp 17) (.tmp 18) (by rfl) w3.heap.size _ 0 0 [] (by rfl) ho a0 m cap0 zs (by rfl) hsrc HN.out hk8 (by simp) ?_
       intro ao c w4 ho1 hg1
       have HB34 : Hid (Below w3.heap.size w3 w4) := ((Below.refl _ w3).alloc (Nat.le_refl _) _).grown hg1 (by simp) (fun kk e => (ho.lt kk e).1)
       have HO1 : Hid (w4.ownsRow w3.heap.size 5 1 (.slice ao m c) m (bv zs)) := by rw [Nat.zero_add, List.nil_append] at ho1; exact ho1
       clear ho1 hg1))
  have HB4 : Hid (Below w.heap.size w w4) := HB3.out.trans (HB34.out.mono HB3.out.size)
  have HS4 := hide (bs_of_owns HO1.out HS3.out.bytes)
  clear ho hsrc HO1
  refine (Take_any w2.heap.size m c ent ao zs w4 small_ent (HT3.out.below HB34.out hlt3) (Nat.lt_of_lt_of_le hlt3 HB34.out.size) (HW.out.below HB4.out HW.out.pos) HS4.out (by omega)).mono ?_
  rintro r w5 ⟨hA, b5⟩
  have HR := hide (fun (w' : World) (h : Below w.heap.size w w') => refTake_any m cap0 a0 zs w' (HBS.out.below h) hm2 hcm (by omega))
  have HA := hide hA
  obtain ⟨-, s, cd, rfl⟩ := take_same hA hA
  have HB5 : Hid (Below w.heap.size w w5) := HB4.out.trans (b5.mono HB4.out.size)
  obtain ⟨X, hX⟩ : ∃ X, X = sv s := ⟨_, rfl⟩
  have hXs : X.size = 10 := by rw [hX]; rfl
  have hX1 : X.all (·.oneCell') = true := by rw [hX]; exact sv_one _
  have hEq : ∀ w', (Op.equalIn 10000 23 (.agg X) (.agg X)).run Tryd.prog w' = .ok true w' := fun w' => by rw [hX]; exact equal_self s w'
  rw [← hX]
  rw [← hX] at HA
  clear hA b5 hX HS4 HB34 HB3 HT3 HS3
  obtain ⟨w6, hw6⟩ : ∃ w6, w6 = w5.alloc (.cells X 23) := ⟨_, rfl⟩
  have hx6 : w6.heap[w5.heap.size]? = some (.cells X 23 (0, 0)) := by rw [hw6]; exact heap_new rfl
  have HB6 : Hid (Below w.heap.size w w6) := by rw [hw6]; exact HB5.out.alloc HB5.out.size _
  have HW6 := hide hw6
  have hlt6 := heap_lt hx6
  clear hw6
  go_wp2_with (refine wpList_store_row rfl _ _ _ rfl w5.heap.size X rfl rfl 23 _ (heap_alloc_new w5 _) (by rw [hXs]; exact infoSuper) (by rw [hXs]; rfl) hX1 ?_; rw [World.setRow_alloc_new])
  rw [← HW6.out]
  refine (HR.out w6 HB6.out).mono ?_
  rintro r w7 ⟨hA7, b7⟩
  obtain ⟨e7, -⟩ := take_same HA.out hA7
  subst e7
  have hx7 : w7.heap[w5.heap.size]? = some (.cells X 23 (0, 0)) := (b7.block _ hlt6).trans hx6
  have HB7 : Hid (Below w.heap.size w w7) := HB6.out.trans (b7.mono HB6.out.size)
  have hlt7 := heap_lt hx7
  obtain ⟨w8, hw8⟩ : ∃ w8, w8 = w7.alloc (.cells X 23) := ⟨_, rfl⟩
  have hx8 : w8.heap[w5.heap.size]? = some (.cells X 23 (0, 0)) := by rw [hw8]; exact (Below.heap_alloc _ _ _ hlt7).trans hx7
  have hy8 : w8.heap[w7.heap.size]? = some (.cells X 23 (0, 0)) := by rw [hw8]; exact heap_new rfl
  have HB8 : Hid (Below w.heap.size w w8) := by rw [hw8]; exact HB7.out.alloc HB7.out.size _
  have HW8 := hide hw8
  have hcc : (cd == cd) = true := by simp
  clear hA7 b7 hw8 hx7 HA HR
  go_wp2_with (first
    | (refine wpList_store_row rfl _ _ _ rfl w7.heap.size X rfl rfl 23 _ (heap_alloc_new w7 _) (by rw [hXs]; exact infoSuper) (by rw [hXs]; rfl) hX1 ?_; rw [World.setRow_alloc_new, ← HW8.out])
    | refine wpList_load_super (by rfl) _ rfl w5.heap.size rfl 23 X (0, 0) hx8 hXs ?_
    | refine wpList_load_super (by rfl) _ rfl w7.heap.size rfl 23 X (0, 0) hy8 hXs ?_)
  go_ret
  exact ⟨rfl, HB8.out⟩
end Go.Proofs.YthghodmjpdooaaaDoor

/- Layer 8: what a block's numbers say, by the program: numbers.super, block.super. -/
import Derived.Test.YthghodmjpdooaaaDoorSupPut
namespace Go.Proofs.YthghodmjpdooaaaDoor
set_option linter.unusedVariables false
open Go.RowKit Go.Maps
open Lz (g)
open Crc (ent more)
open Cur
open Sup

set_option maxRecDepth 100000 in
theorem nsuper_any (s : Sb) (w : World) : Calls Tryd.prog 36 #[.agg (nv s)] w fun e w' => e = .returned (.agg (sv s)) ∧ Below w.heap.size w w' := by
  unfold nv
  go_enter Tryd.func36, Tryd.ntmps36
  go_wp2
  refine bodyPost_ret (v := .agg (sv s)) ?_ rfl ⟨rfl, ((Below.refl _ _).alloc (Nat.le_refl _) _).alloc (by simp) _⟩
  exact results_cell_row rfl _ _ (w.heap.size + 1) 23 (sv s) (0, 0) _ rfl (heap_new (by simp)) Tryd.underlying23 rfl infoSuper
theorem sv_one (s : Sb) : (sv s).all (·.oneCell') = true := by simp [sv, Value.oneCell']
/-- The first i numbers that were read. -/
def na (zs : List Int) (i : Nat) : Array Value := ((List.range 10).map fun j => Value.int .i64 (if j < i then rn zs j else 0)).toArray
theorem na_size (zs : List Int) (i : Nat) : (na zs i).size = 10 := by simp [na]
theorem na_zero (zs : List Int) : na zs 0 = Array.replicate 10 (.int .i64 0) := rfl
theorem na_full (zs : List Int) : na zs 10 = nv (sbOf zs) := rfl
theorem na_at (zs : List Int) (i j : Nat) (hj : j < 10) : (na zs i)[j]? = some (.int .i64 (if j < i then rn zs j else 0)) := by simp [na, hj]
theorem na_set (zs : List Int) (i : Nat) (hi : i < 10) : (na zs i).setIfInBounds i (.int .i64 (rn zs i)) = na zs (i + 1) := by
  apply Array.ext_getElem?
  intro j
  rw [Array.getElem?_setIfInBounds, na_size]
  by_cases hj : j < 10
  · rw [na_at zs (i + 1) j hj, na_at zs i j hj]
    by_cases e : i = j
    · subst e; rw [if_pos rfl, if_pos hi, if_pos (by omega)]
    · rw [if_neg e]
      by_cases h : j < i
      · rw [if_pos h, if_pos (by omega)]
      · rw [if_neg h, if_neg (by omega)]
  · rw [if_neg (by omega), Array.getElem?_eq_none (by rw [na_size]; omega), Array.getElem?_eq_none (by rw [na_size]; omega)]
theorem wdv_at (i : Nat) (hi : i < 10) : wdv[i]? = some (.int .i64 (wd i)) := by
  match i, hi with
  | 0, _ => rfl
  | 1, _ => rfl
  | 2, _ => rfl
  | 3, _ => rfl
  | 4, _ => rfl
  | 5, _ => rfl
  | 6, _ => rfl
  | 7, _ => rfl
  | 8, _ => rfl
  | 9, _ => rfl
theorem numA_rn {zs : List Int} (hz : zs.length = 64) (i : Nat) (hi : i < 10) : numA (wd i) (zs.drop (spot i), 0) = rn zs i := by
  have h1 := wd_fit i
  have h2 := spot_le i hi
  unfold numA pa rn
  rw [if_pos (by omega), if_neg (by simp; omega)]; simp
theorem numS_rn {zs : List Int} (hz : zs.length = 64) (i : Nat) (hi : i < 10) : numS (wd i) (zs.drop (spot i), 0) = (zs.drop (spot (i + 1)), 0) := by
  have h1 := wd_fit i
  have h2 := spot_le i hi
  unfold numS ps
  rw [if_pos (by omega), if_neg (by simp; omega)]
  simp [spot_succ, List.drop_drop]
def zv : Array Value := #[.int .i64 0, .int .i64 0, .int .i64 0, .int .i64 0, .int .i64 0, .int .i64 0, .int .i64 0, .int .i64 0, .int .i64 0, .int .i64 0]
theorem zero10 : (Tryd.prog.info? 66).map (fun i => (i.zero, i.size)) = some (some (.agg (Array.replicate 10 (.int .i64 0))), 10) := by kernel_rfl
theorem info65 : (Tryd.prog.info? 65).map (·.size) = some 10 := by kernel_rfl
set_option maxRecDepth 100000 in
set_option maxHeartbeats 4000000 in
theorem bsuper_any (zs : List Int) (w : World) (hz : zs.length = 64) (hb : Bytes zs) (hW : Wid w) :
    Calls Tryd.prog 25 #[.agg (bl zs)] w fun e w' => e = .returned (.agg (sv (sbOf zs))) ∧ Below w.heap.size w w' := by
  obtain ⟨z1, i1⟩ := zero_of_info zero10
  obtain ⟨C, hC⟩ : ∃ C, C = bl zs := ⟨_, rfl⟩
  have hCs : C.size = 64 := by rw [hC]; simp [bl, bv, hz]
  rw [← hC]
  have HW := hide hW
  have HB := hide hb
  obtain ⟨W2, hW2⟩ : ∃ W2, W2 = (w.alloc (.cells C 44)).alloc (.cells zv 23) := ⟨_, rfl⟩
  have b2 : Below w.heap.size w W2 := by rw [hW2]; exact ((Below.refl _ _).alloc (Nat.le_refl _) _).alloc (by simp) _
  have HR : Hid (W2.heap[w.heap.size + 1]? = some (.cells zv 23 (0, 0))) := by rw [hW2]; exact heap_new (by simp)
  have s2 : W2.heap.size = w.heap.size + 2 := by rw [hW2]; simp
  have HS : Hid (Bs W2 (some ⟨w.heap.size, 4, none⟩) 60 (zs.drop 4)) := by
    have hc : W2.heap[w.heap.size]? = some (.cells (bl zs) 44 (0, 0)) := by
      rw [hW2, ← hC]; exact (Below.heap_alloc _ _ _ (by simp)).trans (heap_new rfl)
    refine ⟨by simp [hz], bytes_drop hb.g 4, .inr ⟨w.heap.size, 4, rfl, by omega, fun i hi => ?_⟩⟩
    rw [cell_of_row _ _ _ _ _ _ hc, Lz.g_drop]
    simp at hi
    have hi' : 4 + i < zs.length := by omega
    rw [Lz.g_lt _ _ hi']
    simp [bl, bv, hi']
  have HC := hide hC
  have HW2 := hide hW2
  have HB2 := hide b2
  have hs2 : w.heap.size + 2 ≤ W2.heap.size := by omega
  clear hC hb hW hW2 b2 s2
  unfold zv at HW2
  go_enter Tryd.func25, Tryd.ntmps25
  go_wp2_with fail
  rw [← HW2.out]
  refine (Read_any 60 60 (some ⟨w.heap.size, 4, none⟩) (zs.drop 4) W2 HS.out (by omega) (fun h => by simp at h) (by omega)).mono ?_
  rintro r w3 ⟨p, rfl, hp, hR3, b3⟩
  obtain ⟨t0, fz0, hwd⟩ := (HW.out.below HB2.out HW.out.pos).below b3 (by omega)
  obtain ⟨D, hD⟩ : ∃ D, D = wdv := ⟨_, rfl⟩
  rw [← hD] at hwd
  have hDs : D.size = 10 := by rw [hD]; rfl
  have HD := hide hD
  have hpl := hR3.lt
  have hs3 := b3.size
  obtain ⟨w4, hw4⟩ : ∃ w4, w4 = w3.alloc (.cells (na zs 0) 66) := ⟨_, rfl⟩
  have hwd4 : w4.heap[0]? = some (.cells D t0 fz0) := by rw [hw4]; exact (Below.heap_alloc _ _ _ (by omega)).trans hwd
  have HN4 : Hid (w4.heap[w3.heap.size]? = some (.cells (na zs 0) 66 (0, 0))) := by rw [hw4]; exact heap_new rfl
  have b34 : Below w3.heap.size w3 w4 := by rw [hw4]; exact (Below.refl _ _).alloc (Nat.le_refl _) _
  have HR4 : Hid (RdP w4 p w3.heap.size (zs.drop (spot 0), 0)) := hR3.below b34
  have HB4 : Hid (Below W2.heap.size W2 w4) := b3.trans (b34.mono b3.size)
  have HW4 := hide hw4
  rw [na_zero] at HW4
  clear hD b3 hR3 hwd hw4 b34 HS HW2
  go_wp2_with (refine wpList_load_row rfl _ _ rfl 0 rfl t0 D fz0 _ (by rw [← HW4.out]; exact hwd4) Tryd.underlying65 rfl (by rw [hDs]; exact info65) ?_)
  rw [← HW4.out]
  obtain ⟨N, hN⟩ : ∃ N, N = w3.heap.size := ⟨_, rfl⟩
  rw [← hN] at HN4 HR4 hpl hs3
  rw [← hN]
  clear hN HW4
  go_loopw [10] (fun s10 wr => ∃ i : Nat, s10 = .int .i64 i ∧ i ≤ 10 ∧ RdP wr p N (zs.drop (spot i), 0) ∧ wr.heap[N]? = some (.cells (na zs i) 66 (0, 0)) ∧ Below W2.heap.size W2 wr) (fun s10 _ => 10 - (intOf s10).toNat)
  case atStart => exact ⟨0, rfl, by omega, HR4.out, HN4.out, HB4.out⟩
  case round =>
    obtain ⟨i, rfl, hi, hR, hNr, hB⟩ := hrel
    have HRr := hide hR
    have HNr := hide hNr
    have HBr := hide hB
    clear hR hNr hB HR4 HN4 HB4 hwd4
    by_cases hlt : i < 10
    · have hlt' : (i : Int) < 10 := by omega
      have hix : ∀ w', (Instr.index 65 (.agg D) (.int .i64 i)).run Tryd.prog w' = .ok (.int .i64 (wd i)) w' := fun w' => run_index_int w' D i _ Tryd.underlying65 hlt (by rw [HD.out]; exact wdv_at i hlt)
      have HNm := hide (Num_any p N (wd i) (zs.drop (spot i), 0) wr HRr.out (by have := wd_fit i; omega))
      rw [numA_rn hz i hlt, numS_rn hz i hlt] at HNm
      go_wp2_with fail
      refine HNm.out.mono ?_
      rintro r w5 ⟨rfl, hR5, hF5⟩
      have hN5 : w5.heap[N]? = some (.cells (na zs i) 66 (0, 0)) := (hF5.block N (heap_lt HNr.out) (by show ¬ N = p; omega)).trans HNr.out
      have c5 : w5.cell? ⟨N, i, none⟩ = some (.int .i64 0) := by rw [cell_of_row _ _ _ _ _ _ hN5, na_at zs i i hlt, if_neg (by omega)]
      have f5 : w5.frozen? ⟨N, i, none⟩ = false := by simp [World.frozen?, hN5]
      have HF : Hid (∃ i' : Nat, Value.int .i64 ((i : Int) + 1) = .int .i64 i' ∧ i' ≤ 10 ∧ RdP (w5.setCell ⟨N, i, none⟩ (.int .i64 (rn zs i))) p N (zs.drop (spot i'), 0) ∧ (w5.setCell ⟨N, i, none⟩ (.int .i64 (rn zs i))).heap[N]? = some (.cells (na zs i') 66 (0, 0)) ∧ Below W2.heap.size W2 (w5.setCell ⟨N, i, none⟩ (.int .i64 (rn zs i)))) := by
        have hset : Fr (One N) w5 (w5.setCell ⟨N, i, none⟩ (.int .i64 (rn zs i))) := (Fr.refl _ _).set _ (fun _ => rfl)
        have hb5 : Below W2.heap.size W2 w5 := HBr.out.trans (hF5.one_below HBr.out.size hp)
        refine ⟨i + 1, by go_num, by omega, hR5.above hset (fun k hk => by rw [show k = N from hk]; exact Nat.le_refl _) (by show ¬ p = N; omega), ?_, hb5.trans (hset.one_below hb5.size hs3)⟩
        rw [heap_setCell_self hN5, na_set zs i hlt]
      clear hR5 hF5 hN5 HNm
      go_wp2
      go_roundw
      case rel => exact HF.out
      case measure => simp [intOf]; omega
    · obtain rfl : i = 10 := by omega
      have hNr := HNr.out
      rw [na_full] at hNr
      obtain ⟨E, hE⟩ : ∃ E, E = nv (sbOf zs) := ⟨_, rfl⟩
      rw [← hE] at hNr
      have HE := hide hE
      have HI : Hid ((Tryd.prog.info? 66).map (·.size) = some E.size) := by rw [hE]; exact infoNums
      have hm := nsuper_any (sbOf zs) wr
      obtain ⟨X, hX⟩ : ∃ X, X = sv (sbOf zs) := ⟨_, rfl⟩
      rw [← hE, ← hX] at hm
      have HM := hide hm
      have HXs : Hid ((Tryd.prog.info? 23).map (·.size) = some X.size) := by rw [hX]; exact infoSuper
      have hX1 : X.all (·.oneCell') = true := by rw [hX]; exact sv_one _
      have hXs : X.size = 10 := by rw [hX]; rfl
      have HX := hide hX
      have HR' : Hid (wr.heap[w.heap.size + 1]? = some (.cells zv 23 (0, 0))) := (HBr.out.block _ (by omega)).trans HR.out
      clear hE hm hX HNr HRr
      go_wp2_with (refine wpList_load_row rfl _ _ rfl N rfl 66 E (0, 0) _ hNr Tryd.underlying66 rfl HI.out ?_)
      refine HM.out.mono ?_
      rintro r w6 ⟨rfl, b6⟩
      have hR6 : w6.heap[w.heap.size + 1]? = some (.cells zv 23 (0, 0)) := (b6.block _ (heap_lt HR'.out)).trans HR'.out
      have HB6 : Hid (Below w.heap.size w (w6.setRow (w.heap.size + 1) X)) := by
        have h1 := HB2.out.trans (HBr.out.mono HB2.out.size)
        exact below_setRow (h1.trans (b6.mono h1.size)) (by omega) X
      clear b6 hNr HM
      go_wp2_with (refine wpList_store_row rfl _ _ _ rfl (w.heap.size + 1) X rfl rfl 23 zv hR6 HXs.out (by rw [hXs]; rfl) hX1 ?_)
      refine bodyPost_ret (v := .agg X) ?_ rfl ⟨by rw [HX.out], HB6.out⟩
      exact results_cell_row rfl _ _ (w.heap.size + 1) 23 X (0, 0) _ rfl (setRow_heap _ _ _ _ _ _ hR6) Tryd.underlying23 rfl HXs.out
end Go.Proofs.YthghodmjpdooaaaDoor

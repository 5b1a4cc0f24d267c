/- Layer 8: a superblock's bytes, by the program: numbersOf, blockOf. -/
import Derived.Test.YthghodmjpdooaaaDoorSupMay
import Derived.Laws.CopyOwn
import Derived.Deep.RegionHeld3
import Derived.Deep.RegionLaw
namespace Go.Proofs.YthghodmjpdooaaaDoor
set_option linter.unusedVariables false
open Go.RowKit Go.Maps
open Lz (g)
open Crc (ent more)
open Cur
open Sup

/-- The widths' cells: what the package variable holds. -/
def wdv : Array Value := #[.int .i64 4, .int .i64 4, .int .i64 4, .int .i64 4, .int .i64 4, .int .i64 4, .int .i64 4, .int .i64 2, .int .i64 2, .int .i64 2]
def Wid (w : World) : Prop := ∃ t fz, w.heap[0]? = some (.cells wdv t fz)
theorem Wid.below {w w' : World} {B : Nat} (h : Wid w) (hb : Below B w w') (hB : 0 < B) : Wid w' := by
  obtain ⟨t, fz, h⟩ := h
  exact ⟨t, fz, (hb.block 0 hB).trans h⟩
theorem Wid.pos {w : World} (h : Wid w) : 0 < w.heap.size := by
  obtain ⟨t, fz, h⟩ := h
  exact heap_lt h
theorem Wid.cell {w : World} (h : Wid w) (i : Nat) (hi : i < 10) : w.cell? ⟨0, i, none⟩ = some (.int .i64 (wd i)) := by
  obtain ⟨t, fz, h⟩ := h
  rw [cell_of_row w 0 i _ _ _ h]
  match i, hi with
  | 0, _ => rfl
  | 1, _ => rfl
  | 2, _ => rfl
  | 3, _ => rfl
  | 4, _ => rfl
  | 5, _ => rfl
  | 6, _ => rfl
  | 7, _ => rfl
  | 8, _ => rfl
  | 9, _ => rfl
/-- The numbers' cells, in the order in which they stand in a block. -/
def nv (s : Sb) : Array Value := #[.int .i64 s.size, .int .i64 s.inodeAt, .int .i64 s.dirAt, .int .i64 s.fragAt, .int .i64 s.idAt, .int .i64 s.xattrAt, .int .i64 s.root, .int .i64 s.inodes, .int .i64 s.ids, .int .i64 s.frags]
theorem nv_at (s : Sb) (i : Nat) (hi : i < 10) : (nv s)[i]? = some (.int .i64 (s.n i)) := by
  match i, hi with
  | 0, _ => rfl
  | 1, _ => rfl
  | 2, _ => rfl
  | 3, _ => rfl
  | 4, _ => rfl
  | 5, _ => rfl
  | 6, _ => rfl
  | 7, _ => rfl
  | 8, _ => rfl
  | 9, _ => rfl
theorem heap_new {w : World} {o : Obj} {k : Nat} (hk : k = w.heap.size) : (w.alloc o).heap[k]? = some o := by subst hk; exact heap_alloc_new w o
theorem infoSuper : (Tryd.prog.info? 23).map (·.size) = some 10 := by kernel_rfl
theorem infoNums : (Tryd.prog.info? 66).map (·.size) = some 10 := by kernel_rfl
theorem infoBlock : (Tryd.prog.info? 44).map (·.size) = some 64 := by kernel_rfl
set_option maxRecDepth 100000 in
theorem numbersOf_any (s : Sb) (w : World) : Calls Tryd.prog 28 #[.agg (sv s)] w fun e w' => e = .returned (.agg (nv s)) ∧ Below w.heap.size w w' := by
  unfold sv
  go_enter Tryd.func28, Tryd.ntmps28
  go_wp2
  refine bodyPost_ret (v := .agg (nv s)) ?_ rfl ⟨rfl, ((Below.refl _ _).alloc (Nat.le_refl _) _).alloc (by simp) _⟩
  exact results_cell_row rfl _ _ (w.heap.size + 1) 66 (nv s) (0, 0) _ rfl (heap_new (by simp)) Tryd.underlying66 rfl infoNums
/-- Bytes as a block's cells. -/
def bl (zs : List Int) : Array Value := (bv zs).toArray
theorem zero64 : (Tryd.prog.info? 44).map (fun i => (i.zero, i.size)) = some (some (.agg (Array.replicate 64 (.int .u8 0))), 64) := by kernel_rfl
theorem run_index_int {t : TypeId} {n : Nat} (w : World) (C : Array Value) (i : Nat) (x : Int) (ht : Tryd.prog.underlying t = some (.array n 3)) (hi : i < n) (hC : C[i]? = some (.int .i64 x)) : (Instr.index t (.agg C) (.int .i64 i)).run Tryd.prog w = .ok (.int .i64 x) w := by
  simp [Instr.index, run_underlying ht, run_underlying Tryd.underlying3, asIntOf, part, isAgg, hC, go_sem]
  intro h; omega
theorem wNum_pre {s : Sb} (h : s.ok) (i : Nat) (hi : i < 10) : wNum (s.n i) (wd i) (pre s i, 0) = (pre s (i + 1), 0) := by
  have h1 := ok_fits h i hi
  have h2 := wd_fit i
  unfold wNum wByt
  rw [if_pos ⟨by omega, by omega, h1.1, by simpa using h1.2⟩, if_pos rfl, pre_succ]
  simp
theorem n_64 {s : Sb} (h : s.ok) (i : Nat) (hi : i < 10) : -9223372036854775808 ≤ s.n i ∧ s.n i ≤ 9223372036854775807 := by
  have h1 := ok_fits h i hi
  have h2 := pow256 (wd_fit i).2
  omega
theorem bl_size (T : Nat → Nat) (s : Sb) : (bl (put T s)).size = 64 := by simp [bl, bv, put_length]
theorem bl_one (zs : List Int) : (bl zs).all (·.oneCell') = true := by
  rw [Array.all_eq_true]
  intro i hi
  exact bv_one zs _ (by simp [bl])
theorem splice_full {T : Nat → Nat} {s : Sb} {F : List Int} (hF : F.length = 42) (hB : F ++ List.replicate 22 0 = put T s) : (splice (List.replicate 64 (Value.int .u8 0)) 0 (bv F)).toArray = bl (put T s) := by
  rw [← hB]
  unfold splice bl
  rw [bv_append, bv_length, hF]
  congr 1
theorem src_of {w : World} {ao : Option Addr} {n : Nat} {zs : List Int} (h : Bs w ao n zs) (hn : n ≠ 0) : ∃ ad, ao = some ad ∧ ∀ j v, (bv zs)[j]? = some v → w.cell? (ad.add j) = some v := by
  obtain ⟨hz, hby, h0 | ⟨b, off, rfl, hb, hs⟩⟩ := h
  · omega
  · refine ⟨_, rfl, ?_⟩
    have := news_seg hs n
    rw [List.take_of_length_le (by omega)] at this
    exact this
set_option maxRecDepth 100000 in
set_option maxHeartbeats 4000000 in
theorem blockOf_any (tb : Nat) (T : Nat → Nat) (s : Sb) (w : World) (hs : s.ok) (hS : Small T) (hT : Tb w tb T) (htb : tb < w.heap.size) (hW : Wid w) :
    Calls Tryd.prog 17 #[.pointer (some ⟨tb, 0, none⟩), .agg (sv s)] w fun e w' => e = .returned (.agg (bl (put T s))) ∧ Below w.heap.size w w' := by
  have kc : ∀ (o1 o2 o3 : Obj) (C : Array Value) (n c : Nat), (convert 29 29 (.slice (some ⟨w.heap.size + 1 + 1 + 1, 0, none⟩) n c)).run Tryd.prog ((((w.alloc o1).alloc o2).alloc o3).alloc (.cells C 5)) = .ok (.slice (some ⟨w.heap.size + 1 + 1 + 1, 0, none⟩) n c) ((((w.alloc o1).alloc o2).alloc o3).alloc (.cells C 5 (C.size, C.size + 1))) := fun o1 o2 o3 C n c => by
    have := Lib.run_convert_bytes_const (P := Tryd.prog) (((w.alloc o1).alloc o2).alloc o3) 29 5 C n c Tryd.underlying29 Tryd.underlying5
    have e : (((w.alloc o1).alloc o2).alloc o3).heap.size = w.heap.size + 1 + 1 + 1 := by simp
    rw [e] at this
    exact this
  obtain ⟨hz, hi'⟩ := zero_of_info zero64
  have HT := hide hT
  have HW := hide hW
  have HS := hide hs
  clear hT hW hs
  obtain ⟨W2, hW2⟩ : ∃ W2, W2 = (w.alloc (.cells (sv s) 23)).alloc (.cells (Array.replicate 64 (.int .u8 0)) 44) := ⟨_, rfl⟩
  obtain ⟨W3, hW3⟩ : ∃ W3, W3 = W2.alloc (.cells #[.slice none 0 0, .int .i64 0] 64) := ⟨_, rfl⟩
  obtain ⟨W4, hW4⟩ : ∃ W4, W4 = W3.alloc (.cells #[.int .u8 76, .int .u8 77, .int .u8 76, .int .u8 65] 5 (4, 5)) := ⟨_, rfl⟩
  have s2 : W2.heap.size = w.heap.size + 1 + 1 := by rw [hW2]; simp
  have s3 : W3.heap.size = w.heap.size + 1 + 1 + 1 := by rw [hW3]; simp [s2]
  have s4 : W4.heap.size = w.heap.size + 1 + 1 + 1 + 1 := by rw [hW4]; simp [s3]
  have s3' : W3.heap.size = W2.heap.size + 1 := by rw [s3, s2]
  have b2 : Below w.heap.size w W2 := by rw [hW2]; exact ((Below.refl _ _).alloc (Nat.le_refl _) _).alloc (by simp) _
  have b4 : Below W2.heap.size W2 W4 := by rw [hW4, hW3]; exact ((Below.refl _ _).alloc (Nat.le_refl _) _).alloc (by simp) _
  have HR0 : Hid (W2.heap[w.heap.size + 1]? = some (.cells (Array.replicate 64 (.int .u8 0)) 44 (0, 0))) := by rw [hW2]; exact heap_new (by simp)
  have HB0 : Hid (W2.heap[w.heap.size]? = some (.cells (sv s) 23 (0, 0))) := by
    rw [hW2]; exact (Below.heap_alloc _ _ _ (by simp)).trans (heap_new rfl)
  have HP4 : Hid (WrP W4 W2.heap.size W3.heap.size (.slice none 0 0) ([], 0)) := by
    have h := WrP.new W2 W3.heap.size
    rw [← hW3] at h
    rw [hW4]; exact h.below ((Below.refl _ _).alloc (Nat.le_refl _) _)
  have HL4 : Hid (Bs W4 (some ⟨W3.heap.size, 0, none⟩) 4 [76, 77, 76, 65]) := by
    rw [hW4]; exact bs_new W3 (4, 5) [76, 77, 76, 65] (pre_bytes s 0)
  have HW2 := hide hW2
  have HW3 := hide hW3
  have HW4 := hide hW4
  have HB2 := hide b2
  have HB4 := hide b4
  clear hW2 hW3 hW4 b2 b4
  unfold sv at HW2
  unfold sv
  go_enter Tryd.func17, Tryd.ntmps17
  go_wp2_with fail
  rw [← HW2.out, ← HW3.out, ← HW4.out, ← s2, ← s3']
  refine (wBytes_any W2.heap.size W3.heap.size 4 4 (some ⟨W3.heap.size, 0, none⟩) (.slice none 0 0) [76, 77, 76, 65] ([], 0) W4 HP4.out (by omega) HL4.out (fun h => by simp at h) (by simp)).mono ?_
  rintro r w5 ⟨rfl, v5, h5, f5, l5⟩
  have b5 : Below W2.heap.size W2 w5 := HB4.out.trans ((f5.two_below (by omega) (Nat.le_refl _) (fun k hk => by simp [Value.ownBlock] at hk)))
  have hb5 : w5.heap[w.heap.size]? = some (.cells (sv s) 23 (0, 0)) := (b5.block _ (by omega)).trans HB0.out
  have HP5 : Hid (WrP w5 W2.heap.size W3.heap.size v5 (pre s 0, 0)) := h5
  have HB5 := hide b5
  have HS2 := hide s2
  have HS3 := hide s3
  have hw2 : w.heap.size + 2 ≤ W2.heap.size := by omega
  have hw3 : W2.heap.size < W3.heap.size := by omega
  have hw5 : W3.heap.size ≤ w5.heap.size := by have := f5.size; omega
  clear h5 f5 l5 HP4 HL4 b5 s2 s3 s4 s3' HB4 kc
  go_wp2_with (refine wpList_load_row rfl _ _ rfl w.heap.size rfl 23 (sv s) (0, 0) _ hb5 Tryd.underlying23 rfl infoSuper ?_)
  refine (numbersOf_any s w5).mono ?_
  rintro r w6 ⟨rfl, b6⟩
  have HB6 : Hid (Below W2.heap.size W2 w6) := HB5.out.trans (b6.mono HB5.out.size)
  have HP6 := hide (HP5.out.below b6)
  have hw6 : W3.heap.size ≤ w6.heap.size := Nat.le_trans hw5 b6.size
  obtain ⟨C, hC⟩ : ∃ C, C = nv s := ⟨_, rfl⟩
  rw [← hC]
  have HC := hide hC
  clear hC b6 hb5 HB5 HP5 hw5
  go_wp2
  go_loopw [14] (fun s14 wr => ∃ (i : Nat) (v : Value), s14 = .int .i64 i ∧ i ≤ 10 ∧ WrP wr W2.heap.size W3.heap.size v (pre s i, 0) ∧ Below W2.heap.size W2 wr ∧ W3.heap.size ≤ wr.heap.size) (fun s14 _ => 10 - (intOf s14).toNat)
  case atStart => exact ⟨0, v5, rfl, by omega, HP6.out, HB6.out, hw6⟩
  case round =>
    obtain ⟨i, v, rfl, hi, hP, hB, hsz⟩ := hrel
    have HP := hide hP
    have HB := hide hB
    clear hP hB HP6 HB6 hw6
    by_cases hlt : i < 10
    · have hlt' : (i : Int) < 10 := by omega
      have hcn : C[i]? = some (.int .i64 (s.n i)) := by rw [HC.out]; exact nv_at s i hlt
      have hcw : wr.cell? ⟨0, i, none⟩ = some (.int .i64 (wd i)) := ((HW.out.below HB2.out HW.out.pos).below HB.out (by omega)).cell i hlt
      have hix : ∀ w', (Instr.index 66 (.agg C) (.int .i64 i)).run Tryd.prog w' = .ok (.int .i64 (s.n i)) w' := fun w' => run_index_int w' C i _ Tryd.underlying66 hlt hcn
      have HN := hide (wNum_any W2.heap.size W3.heap.size v (s.n i) (wd i) (pre s i, 0) wr HP.out hsz (by have := pre_length s i; have := spot_le i hlt; simp only [*]; omega) (n_64 HS.out i hlt) (by have := wd_fit i; omega))
      clear hcn
      go_wp2_with fail
      refine HN.out.mono ?_
      rintro r w7 ⟨rfl, hD⟩
      rw [wNum_pre HS.out i hlt] at hD
      obtain ⟨v7, h7, f7, l7⟩ := hD
      have HP7 := hide h7
      have HB7 : Hid (Below W2.heap.size W2 w7) := HB.out.trans (f7.two_below (by omega) (Nat.le_refl _) (fun k hk => Nat.le_trans (Nat.le_of_lt hw3) (HP.out.base k hk)))
      have hw7 : W3.heap.size ≤ w7.heap.size := Nat.le_trans hsz f7.size
      clear h7 f7 l7 HN hix
      go_wp2
      go_roundw
      case rel => exact ⟨i + 1, v7, by go_num, by omega, HP7.out, HB7.out, hw7⟩
      case measure => simp [intOf]; omega
    · obtain rfl : i = 10 := by omega
      have HP' : Hid (WrP wr W2.heap.size W3.heap.size v (body s, 0)) := HP.out
      have hbl := body_length s
      have HTr : Hid (Tb wr tb T) := (HT.out.below HB2.out htb).below HB.out (by omega)
      clear HP
      go_wp2_with fail
      refine (Done_any W2.heap.size W3.heap.size v (body s, 0) wr HP'.out (by simp only [hbl]; omega)).mono ?_
      rintro r w7 ⟨ao7, c7, rfl, B7, hc7, hm7, nil7, b7⟩
      obtain ⟨S, hS'⟩ : ∃ S, S = more T 0 (body s) := ⟨_, rfl⟩
      have hSl : S < 4294967296 := by rw [hS']; exact Crc.more_lt hS _ (by omega)
      have HS7 : Hid (Calls Tryd.prog 30 #[.pointer (some ⟨tb, 0, none⟩), .slice ao7 38 c7] w7 fun e w' => e = .returned (.int .u32 S) ∧ w' = w7) := by
        have := Sum_any tb (body s).length c7 T ao7 (body s) w7 (HTr.out.below b7 (by omega)) hS B7 (by omega)
        rw [hbl, ← hS'] at this
        exact this
      have HP7 := hide (HP'.out.below b7)
      have HB7 : Hid (Below W2.heap.size W2 w7) := HB.out.trans (b7.mono HB.out.size)
      have hw7 : W3.heap.size ≤ w7.heap.size := Nat.le_trans hsz b7.size
      have HSm := hide hS'
      have HN8 := hide (wNum_any W2.heap.size W3.heap.size v S 4 (body s, 0) w7 HP7.out hw7 (by simp only [hbl]; omega) (by omega) (by omega))
      have HE8 : Hid (wNum S 4 (body s, 0) = (body s ++ by' 4 S, 0)) := by
        show _ = _
        unfold wNum wByt
        rw [if_pos ⟨by omega, by omega, by omega, by show (S : Int) < 256 ^ 4; omega⟩, if_pos rfl]; rfl
      clear B7 nil7 b7 HP' HTr HB hS'
      go_wp2_with fail
      refine HS7.out.mono ?_
      rintro r w8 ⟨rfl, hw8⟩
      obtain rfl := hw8.symm
      clear hw8 HS7
      go_wp2_with fail
      refine HN8.out.mono ?_
      rintro r w8 ⟨rfl, hD⟩
      rw [HE8.out] at hD
      obtain ⟨v8, h8, f8, l8⟩ := hD
      have HP8 := hide h8
      have HB8 : Hid (Below W2.heap.size W2 w8) := HB7.out.trans (f8.two_below (by omega) (Nat.le_refl _) (fun k hk => Nat.le_trans (Nat.le_of_lt hw3) (HP7.out.base k hk)))
      have hw8 : W3.heap.size ≤ w8.heap.size := Nat.le_trans hw7 f8.size
      clear h8 f8 l8 HN8 HE8 HP7 HB7
      go_wp2_with fail
      obtain ⟨w9, hw9⟩ : ∃ w9, w9 = w8.alloc (.cells (Array.replicate 64 (.int .u8 0)) 44) := ⟨_, rfl⟩
      rw [← hw9]
      have b89 : Below w8.heap.size w8 w9 := by rw [hw9]; exact (Below.refl _ _).alloc (Nat.le_refl _) _
      have z9 : w9.heap[w8.heap.size]? = some (.cells (List.replicate 64 (Value.int .u8 0)).toArray 44 (0, 0)) := by rw [hw9, List.toArray_replicate]; exact heap_new rfl
      have hlt9 : w8.heap.size < w9.heap.size := heap_lt z9
      obtain ⟨F, hF⟩ : ∃ F, F = body s ++ by' 4 S := ⟨_, rfl⟩
      have hFl : F.length = 42 := by rw [hF]; simp [hbl, by_length]
      rw [← hF] at HP8
      have HD : Hid (Calls Tryd.prog 31 #[.pointer (some ⟨W2.heap.size, 0, none⟩)] w9.drew fun r w' => ∃ ao c, r = .returned (.slice ao 42 c) ∧ Bs w' ao 42 F ∧ Below w9.heap.size w9 w') := by
        have hp : WrP w9.drew W2.heap.size W3.heap.size v8 (F, 0) := HP8.out.below (b89.trans ((Below.refl _ w9).drew.mono b89.size))
        refine (Done_any W2.heap.size W3.heap.size v8 (F, 0) w9.drew hp (by simp only [hFl]; omega)).mono ?_
        rintro r w' ⟨ao, c, rfl, h1, h2, h3, h4, h5⟩
        rw [hFl] at h1
        exact ⟨ao, c, by rw [hFl], h1, ⟨h5.os, h5.tape, h5.output, h5.size, h5.block⟩⟩
      have HF := hide hF
      have HZ9 := hide z9
      have HB9 : Hid (Below W2.heap.size W2 w9) := HB8.out.trans (b89.mono HB8.out.size)
      have hw98 : W2.heap.size ≤ w8.heap.size := by omega
      clear hw9 b89 z9 hF HP8 hbl hc7
      have hcs : (bv F).length = 42 := by rw [bv_length, hFl]
      go_region_law ((first
        | (go_simp; go_at_call 31; refine HD.out.mono ?_; rintro r wD ⟨aoD, cD, rfl, hBD, hbD⟩; have HBD := hide hBD; have HbD := hide hbD; clear hBD hbD; dsimp only)
        | (refine step_copy_splice (by rfl) (.tmp 29) (.tmp 30) 29 29 (by rfl) 5 Tryd.underlying29 (by kernel_rfl) _ _ 64 64 42 cD (by rfl) (by rfl) w8.heap.size 0 (List.replicate 64 (Value.int .u8 0)) 44 ((HbD.out.block _ hlt9).trans HZ9.out) (bv F) (by rw [hcs]; decide) (fun _ => ⟨rfl, src_of HBD.out (by omega)⟩) (by rw [hcs]; simp) (bv_one F) w8.heap.size w9 (HbD.out.mono (Nat.le_of_lt hlt9)) (Nat.le_refl _) ?_; intro w10 hg10 hb10; have HB10 := hide hb10; clear hb10)))
      obtain ⟨X, hX⟩ : ∃ X, X = bl (put T s) := ⟨_, rfl⟩
      have hXs : X.size = 64 := by rw [hX, bl_size]
      have hX1 : X.all (·.oneCell') = true := by rw [hX]; exact bl_one _
      have h10 : w10.heap[w8.heap.size]? = some (.cells X 44 (0, 0)) := by
        rw [hg10.out, hX, splice_full (T := T) (s := s) hFl (by rw [HF.out, HSm.out]; simp [put])]
      have hB10 : Below W2.heap.size W2 w10 := HB9.out.trans (HB10.out.mono hw98)
      have hR10 : w10.heap[w.heap.size + 1]? = some (.cells (Array.replicate 64 (.int .u8 0)) 44 (0, 0)) := (hB10.block _ (by omega)).trans HR0.out
      have HBf : Hid (Below w.heap.size w (w10.setRow (w.heap.size + 1) X)) := below_setRow (HB2.out.trans (hB10.mono HB2.out.size)) (by omega) X
      have HX := hide hX
      clear hX hg10 hB10 HB9 HB10 HBD HbD HZ9 hcs HD
      go_wp2_with (first
        | refine wpList_load_row rfl _ _ rfl w8.heap.size rfl 44 X (0, 0) _ h10 Tryd.underlying44 rfl (by rw [hXs]; exact infoBlock) ?_
        | refine wpList_store_row rfl _ _ _ rfl (w.heap.size + 1) X rfl rfl 44 (Array.replicate 64 (.int .u8 0)) hR10 (by rw [hXs]; exact infoBlock) (by rw [hXs]; simp) hX1 ?_)
      refine bodyPost_ret (v := .agg X) ?_ rfl ⟨by rw [HX.out], HBf.out⟩
      exact results_cell_row rfl _ _ (w.heap.size + 1) 44 X (0, 0) _ rfl (setRow_heap _ _ _ _ _ _ hR10) Tryd.underlying44 rfl (by rw [hXs]; exact infoBlock)
end Go.Proofs.YthghodmjpdooaaaDoor

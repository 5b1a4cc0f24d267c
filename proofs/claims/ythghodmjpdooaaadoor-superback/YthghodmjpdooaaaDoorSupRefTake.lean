/- Layer 8: Take, by the document's answer. -/
import Derived.Test.YthghodmjpdooaaaDoorSupRefPut
import Derived.Test.YthghodmjpdooaaaDoorCurRef
import Derived.Test.YthghodmjpdooaaaDoorSupTake2
namespace Go.Proofs.YthghodmjpdooaaaDoor
set_option linter.unusedVariables false
open Go.RowKit Go.Maps
open Lz (g)
open Crc (ent more)
open Cur
open Sup

theorem str_inj {xs ys : List Int} (hx : Bytes xs) (hy : Bytes ys) (h : strOfNums xs = strOfNums ys) : xs = ys := by
  refine u8_inj hx hy ?_
  have := congrArg (fun b : ByteArray => b.data.toList) h
  simpa [strOfNums, u8] using this
theorem str_eq {x y : List Int} (hx : Bytes x) (hy : Bytes y) : ((strOfNums x).toList == (strOfNums y).toList) = decide (x = y) := by
  rw [Bool.eq_iff_iff, beq_iff_eq, decide_eq_true_eq]
  refine ⟨fun h => str_inj hx hy ?_, fun h => by rw [h]⟩
  rw [ByteArray.toList_eq, ByteArray.toList_eq] at h
  exact ByteArray.ext (Array.toList_inj.1 h)
/-- The superblock of which the first i numbers were read. -/
def sa (zs : List Int) (i : Nat) : Sb := ⟨if 0 < i then rn zs 0 else 0, if 7 < i then rn zs 7 else 0, if 1 < i then rn zs 1 else 0, if 2 < i then rn zs 2 else 0, if 3 < i then rn zs 3 else 0, if 4 < i then rn zs 4 else 0, if 5 < i then rn zs 5 else 0, if 8 < i then rn zs 8 else 0, if 9 < i then rn zs 9 else 0, if 6 < i then rn zs 6 else 0⟩
theorem sa_full (zs : List Int) : sa zs 10 = sbOf zs := rfl
/-- Where a number's field lies. -/
def fp (i : Nat) : Nat := [0, 2, 3, 4, 5, 6, 9, 1, 7, 8].getD i 0
theorem sa_set (zs : List Int) (i : Nat) (hi : i < 10) : (sv (sa zs i)).setIfInBounds (fp i) (.int .i64 (rn zs i)) = sv (sa zs (i + 1)) ∧ ∃ x, (sv (sa zs i))[fp i]? = some (.int .i64 x) := by
  match i, hi with
  | 0, _ => exact ⟨rfl, _, rfl⟩
  | 1, _ => exact ⟨rfl, _, rfl⟩
  | 2, _ => exact ⟨rfl, _, rfl⟩
  | 3, _ => exact ⟨rfl, _, rfl⟩
  | 4, _ => exact ⟨rfl, _, rfl⟩
  | 5, _ => exact ⟨rfl, _, rfl⟩
  | 6, _ => exact ⟨rfl, _, rfl⟩
  | 7, _ => exact ⟨rfl, _, rfl⟩
  | 8, _ => exact ⟨rfl, _, rfl⟩
  | 9, _ => exact ⟨rfl, _, rfl⟩
/-- The reference's reader at q and the superblock at N, behind the first i numbers. -/
def RJ (W : World) (q N L : Nat) (zs : List Int) (i : Nat) (w : World) : Prop := RdR w q L (zs.drop (spot i), 0) ∧ w.heap[N]? = some (.cells (sv (sa zs i)) 23 (0, 0)) ∧ Below W.heap.size W w
theorem rdr_above {w w' : World} {q N L : Nat} {s : St} (h : RdR w q L s) (hf : Fr (One N) w w') (hN : L ≤ N) (hq : q ≠ N) : RdR w' q L s := by
  obtain ⟨ao, n, c, ys, h1, h2, h3, h4, h5, h6, h7, h8, h9⟩ := h
  exact ⟨ao, n, c, ys, h1.fr hf hq, h2.fr h7 hf (fun a ha hl _ hk => by have : a.block = N := hk; omega), h3, h4, h5, h6, Nat.le_trans h7 hf.size, h8, h9⟩
theorem refRd_at (W : World) (q N L i : Nat) (zs : List Int) (n : Int) (w : World) (hz : zs.length = 64) (hi : i < 10) (hqN : q ≠ N) (hL : L ≤ N) (hWq : W.heap.size ≤ q) (hWN : W.heap.size ≤ N) (h : RJ W q N L zs i w) (hn : (wd i : Int) = n) :
    Calls Tryd.prog 26 #[.pointer (some ⟨q, 0, none⟩), .int .i64 n] w fun r w' => r = .returned (.int .i64 (rn zs i)) ∧ (∃ x, w'.cell? ⟨N, fp i, none⟩ = some (.int .i64 x)) ∧ w'.frozen? ⟨N, fp i, none⟩ = false ∧ RJ W q N L zs (i + 1) (w'.setCell ⟨N, fp i, none⟩ (.int .i64 (rn zs i))) := by
  subst hn
  obtain ⟨h1, h2, h3⟩ := h
  refine (refNum_any q L (wd i) (zs.drop (spot i), 0) w h1 (by have := wd_fit i; unfold In64; omega)).mono ?_
  rintro r w' ⟨rfl, h4, h5⟩
  rw [numA_rn hz i hi]
  rw [numS_rn hz i hi] at h4
  have h6 : w'.heap[N]? = some (.cells (sv (sa zs i)) 23 (0, 0)) := (h5.block N (heap_lt h2) (fun e => hqN (show q = N from (show N = q from e).symm))).trans h2
  have hset : Fr (One N) w' (w'.setCell ⟨N, fp i, none⟩ (.int .i64 (rn zs i))) := (Fr.refl _ _).set _ (fun _ => rfl)
  have hb : Below W.heap.size W w' := h3.trans (h5.one_below h3.size hWq)
  obtain ⟨x, hx⟩ := (sa_set zs i hi).2
  refine ⟨rfl, ⟨x, by rw [cell_of_row _ _ _ _ _ _ h6, hx]⟩, by simp [World.frozen?, h6], rdr_above h4 hset hL hqN, ?_, hb.trans (hset.one_below hb.size hWN)⟩
  rw [heap_setCell_self h6, (sa_set zs i hi).1]
set_option maxRecDepth 100000 in
set_option maxHeartbeats 4000000 in
theorem refTake_short (len cap : Nat) (ao : Option Addr) (zs : List Int) (w : World) (hz : zs.length = len) (h64 : len < 64) :
    Calls Tryd.prog 15 #[.slice ao len cap] w fun e w' => TakeAns ent zs e ∧ Below w.heap.size w w' := by
  have HG : Hid (¬ good ent zs) := fun h => by have := h.1; omega
  clear hz
  go_enter Tryd.func15, Tryd.ntmps15
  go_wp2
  refine bodyPost_ret (v := .tuple #[.agg zv, .int .i64 2]) ?_ rfl ⟨.inr ⟨HG.out, rfl⟩, (Below.refl _ _).alloc (Nat.le_refl _) _⟩
  exact results_cr2 (p := 2) (u := 3) rfl _ _ w.heap.size zv rfl (load_super (heap_new rfl) rfl)
set_option maxRecDepth 100000 in
set_option maxHeartbeats 4000000 in
theorem refTake_long (len cap : Nat) (ao : Option Addr) (zs : List Int) (w : World) (hB : Bs w ao len zs) (h64 : 64 ≤ len) (hlc : len ≤ cap) (hcm : cap ≤ 9223372036854775807) (hl : len ≤ 1000000) :
    Calls Tryd.prog 15 #[.slice ao len cap] w fun e w' => TakeAns ent zs e ∧ Below w.heap.size w w' := by
  obtain ⟨b, off, rfl, hbl, hseg⟩ : ∃ b off, ao = some ⟨b, off, none⟩ ∧ b < w.heap.size ∧ Seg w b off zs := by
    rcases hB.2.2 with h | h
    · omega
    · exact h
  have hz := hB.1
  have HB := hide hB
  obtain ⟨F, hF⟩ : ∃ F, F = zs.take 64 := ⟨_, rfl⟩
  have hFl : F.length = 64 := by rw [hF]; simp; omega
  have hFb : Bytes F := by rw [hF]; exact hB.bytes.take 64
  have HBF : Hid (Bs w (some ⟨b, off, none⟩) 64 F) := by rw [hF]; exact hB.take 64 h64
  have HF := hide hF
  have e4 : (F.drop 4).length = 60 := by simp [hFl]
  have hb4 : BsB w w.heap.size (some ⟨b, off + 4, none⟩) 60 (F.drop 4) := by
    have := BsB.cut (B := w.heap.size) hseg hbl hB.2.1 4 64 60 rfl (by omega)
    rw [← hF] at this
    exact this
  have HB4 := hide hb4
  obtain ⟨w1, hw1⟩ : ∃ w1, w1 = w.alloc (.cells zv 23) := ⟨_, rfl⟩
  obtain ⟨w2, hw2⟩ : ∃ w2, w2 = w1.alloc (.cells #[.slice (some ⟨b, off + 4, none⟩) 60 (cap - 4), .int .i64 0] 58) := ⟨_, rfl⟩
  obtain ⟨w3, hw3⟩ : ∃ w3, w3 = w2.alloc (.cells zv 23) := ⟨_, rfl⟩
  have s1 : w1.heap.size = w.heap.size + 1 := by rw [hw1]; simp
  have s2 : w2.heap.size = w.heap.size + 1 + 1 := by rw [hw2]; simp [s1]
  have s3 : w3.heap.size = w.heap.size + 1 + 1 + 1 := by rw [hw3]; simp [s2]
  have b1 : Below w.heap.size w w1 := by rw [hw1]; exact (Below.refl _ _).alloc (Nat.le_refl _) _
  have b12 : Below w1.heap.size w1 w2 := by rw [hw2]; exact (Below.refl _ _).alloc (Nat.le_refl _) _
  have b23 : Below w2.heap.size w2 w3 := by rw [hw3]; exact (Below.refl _ _).alloc (Nat.le_refl _) _
  have b13 : Below w1.heap.size w1 w3 := b12.trans (b23.mono b12.size)
  have h10 : w1.heap[w.heap.size]? = some (.cells zv 23 (0, 0)) := by rw [hw1]; exact heap_new rfl
  have HJ : Hid (RJ w1 (w.heap.size + 1) (w.heap.size + 1 + 1) w.heap.size F 0 w3) := by
    have hd : Hd 58 w3 (w.heap.size + 1) (some ⟨b, off + 4, none⟩) 60 (cap - 4) 0 := by
      refine (b23.block _ (by omega)).trans ?_
      rw [hw2]; exact heap_new s1.symm
    refine ⟨⟨some ⟨b, off + 4, none⟩, 60, cap - 4, F.drop 4, hd, hb4.below (b1.trans (b13.mono b1.size)), by omega, by omega, by omega, fun h => by simp at h, by omega, fun _ => rfl, .inl rfl⟩, ?_, b13⟩
    rw [hw3]; exact heap_new s2.symm
  have H10 := hide h10
  have HB1 := hide b1
  have HW1 := hide hw1
  have HW2 := hide hw2
  have HW3 := hide hw3
  have hs1 : w1.heap.size ≤ w.heap.size + 1 := by omega
  clear hF hb4 hseg hw1 hw2 hw3 b1 b12 b23 b13 h10 s2 s3 hB
  unfold zv at HW1 HW3
  rw [HW2.out, HW1.out] at HW3
  go_enter Tryd.func15, Tryd.ntmps15
  go_wp2_with fail
  rw [← HW3.out]
  refine (refRd_at w1 (w.heap.size + 1) (w.heap.size + 1 + 1) w.heap.size 0 F 4 w3 hFl (by omega) (by omega) (by omega) (by omega) (by omega) HJ.out rfl).mono ?_
  rintro r u0 ⟨rfl, ⟨x0, c0⟩, f0, j1⟩
  have c0' : u0.cell? ⟨w.heap.size + 1 + 1, 0, none⟩ = some (.int .i64 x0) := c0
  have f0' : u0.frozen? ⟨w.heap.size + 1 + 1, 0, none⟩ = false := f0
  obtain ⟨v1, hv1⟩ : ∃ v, v = u0.setCell ⟨w.heap.size + 1 + 1, 0, none⟩ (.int .i64 (rn F 0)) := ⟨_, rfl⟩
  have HJ1 : Hid (RJ w1 (w.heap.size + 1) (w.heap.size + 1 + 1) w.heap.size F 1 v1) := by rw [hv1]; exact j1
  have HV1 := hide hv1
  clear c0 f0 j1 hv1 HJ
  go_wp2_with fail
  rw [← HV1.out]
  refine (refRd_at w1 (w.heap.size + 1) (w.heap.size + 1 + 1) w.heap.size 1 F 4 v1 hFl (by omega) (by omega) (by omega) (by omega) (by omega) HJ1.out rfl).mono ?_
  rintro r u1 ⟨rfl, ⟨x1, c1⟩, f1, j2⟩
  have c1' : u1.cell? ⟨w.heap.size + 1 + 1, 2, none⟩ = some (.int .i64 x1) := c1
  have f1' : u1.frozen? ⟨w.heap.size + 1 + 1, 2, none⟩ = false := f1
  obtain ⟨v2, hv2⟩ : ∃ v, v = u1.setCell ⟨w.heap.size + 1 + 1, 2, none⟩ (.int .i64 (rn F 1)) := ⟨_, rfl⟩
  have HJ2 : Hid (RJ w1 (w.heap.size + 1) (w.heap.size + 1 + 1) w.heap.size F 2 v2) := by rw [hv2]; exact j2
  have HV2 := hide hv2
  clear c1 f1 j2 hv2 HJ1
  go_wp2_with fail
  rw [← HV2.out]
  refine (refRd_at w1 (w.heap.size + 1) (w.heap.size + 1 + 1) w.heap.size 2 F 4 v2 hFl (by omega) (by omega) (by omega) (by omega) (by omega) HJ2.out rfl).mono ?_
  rintro r u2 ⟨rfl, ⟨x2, c2⟩, f2, j3⟩
  have c2' : u2.cell? ⟨w.heap.size + 1 + 1, 3, none⟩ = some (.int .i64 x2) := c2
  have f2' : u2.frozen? ⟨w.heap.size + 1 + 1, 3, none⟩ = false := f2
  obtain ⟨v3, hv3⟩ : ∃ v, v = u2.setCell ⟨w.heap.size + 1 + 1, 3, none⟩ (.int .i64 (rn F 2)) := ⟨_, rfl⟩
  have HJ3 : Hid (RJ w1 (w.heap.size + 1) (w.heap.size + 1 + 1) w.heap.size F 3 v3) := by rw [hv3]; exact j3
  have HV3 := hide hv3
  clear c2 f2 j3 hv3 HJ2
  go_wp2_with fail
  rw [← HV3.out]
  refine (refRd_at w1 (w.heap.size + 1) (w.heap.size + 1 + 1) w.heap.size 3 F 4 v3 hFl (by omega) (by omega) (by omega) (by omega) (by omega) HJ3.out rfl).mono ?_
  rintro r u3 ⟨rfl, ⟨x3, c3⟩, f3, j4⟩
  have c3' : u3.cell? ⟨w.heap.size + 1 + 1, 4, none⟩ = some (.int .i64 x3) := c3
  have f3' : u3.frozen? ⟨w.heap.size + 1 + 1, 4, none⟩ = false := f3
  obtain ⟨v4, hv4⟩ : ∃ v, v = u3.setCell ⟨w.heap.size + 1 + 1, 4, none⟩ (.int .i64 (rn F 3)) := ⟨_, rfl⟩
  have HJ4 : Hid (RJ w1 (w.heap.size + 1) (w.heap.size + 1 + 1) w.heap.size F 4 v4) := by rw [hv4]; exact j4
  have HV4 := hide hv4
  clear c3 f3 j4 hv4 HJ3
  go_wp2_with fail
  rw [← HV4.out]
  refine (refRd_at w1 (w.heap.size + 1) (w.heap.size + 1 + 1) w.heap.size 4 F 4 v4 hFl (by omega) (by omega) (by omega) (by omega) (by omega) HJ4.out rfl).mono ?_
  rintro r u4 ⟨rfl, ⟨x4, c4⟩, f4, j5⟩
  have c4' : u4.cell? ⟨w.heap.size + 1 + 1, 5, none⟩ = some (.int .i64 x4) := c4
  have f4' : u4.frozen? ⟨w.heap.size + 1 + 1, 5, none⟩ = false := f4
  obtain ⟨v5, hv5⟩ : ∃ v, v = u4.setCell ⟨w.heap.size + 1 + 1, 5, none⟩ (.int .i64 (rn F 4)) := ⟨_, rfl⟩
  have HJ5 : Hid (RJ w1 (w.heap.size + 1) (w.heap.size + 1 + 1) w.heap.size F 5 v5) := by rw [hv5]; exact j5
  have HV5 := hide hv5
  clear c4 f4 j5 hv5 HJ4
  go_wp2_with fail
  rw [← HV5.out]
  refine (refRd_at w1 (w.heap.size + 1) (w.heap.size + 1 + 1) w.heap.size 5 F 4 v5 hFl (by omega) (by omega) (by omega) (by omega) (by omega) HJ5.out rfl).mono ?_
  rintro r u5 ⟨rfl, ⟨x5, c5⟩, f5, j6⟩
  have c5' : u5.cell? ⟨w.heap.size + 1 + 1, 6, none⟩ = some (.int .i64 x5) := c5
  have f5' : u5.frozen? ⟨w.heap.size + 1 + 1, 6, none⟩ = false := f5
  obtain ⟨v6, hv6⟩ : ∃ v, v = u5.setCell ⟨w.heap.size + 1 + 1, 6, none⟩ (.int .i64 (rn F 5)) := ⟨_, rfl⟩
  have HJ6 : Hid (RJ w1 (w.heap.size + 1) (w.heap.size + 1 + 1) w.heap.size F 6 v6) := by rw [hv6]; exact j6
  have HV6 := hide hv6
  clear c5 f5 j6 hv6 HJ5
  go_wp2_with fail
  rw [← HV6.out]
  refine (refRd_at w1 (w.heap.size + 1) (w.heap.size + 1 + 1) w.heap.size 6 F 4 v6 hFl (by omega) (by omega) (by omega) (by omega) (by omega) HJ6.out rfl).mono ?_
  rintro r u6 ⟨rfl, ⟨x6, c6⟩, f6, j7⟩
  have c6' : u6.cell? ⟨w.heap.size + 1 + 1, 9, none⟩ = some (.int .i64 x6) := c6
  have f6' : u6.frozen? ⟨w.heap.size + 1 + 1, 9, none⟩ = false := f6
  obtain ⟨v7, hv7⟩ : ∃ v, v = u6.setCell ⟨w.heap.size + 1 + 1, 9, none⟩ (.int .i64 (rn F 6)) := ⟨_, rfl⟩
  have HJ7 : Hid (RJ w1 (w.heap.size + 1) (w.heap.size + 1 + 1) w.heap.size F 7 v7) := by rw [hv7]; exact j7
  have HV7 := hide hv7
  clear c6 f6 j7 hv7 HJ6
  go_wp2_with fail
  rw [← HV7.out]
  refine (refRd_at w1 (w.heap.size + 1) (w.heap.size + 1 + 1) w.heap.size 7 F 2 v7 hFl (by omega) (by omega) (by omega) (by omega) (by omega) HJ7.out rfl).mono ?_
  rintro r u7 ⟨rfl, ⟨x7, c7⟩, f7, j8⟩
  have c7' : u7.cell? ⟨w.heap.size + 1 + 1, 1, none⟩ = some (.int .i64 x7) := c7
  have f7' : u7.frozen? ⟨w.heap.size + 1 + 1, 1, none⟩ = false := f7
  obtain ⟨v8, hv8⟩ : ∃ v, v = u7.setCell ⟨w.heap.size + 1 + 1, 1, none⟩ (.int .i64 (rn F 7)) := ⟨_, rfl⟩
  have HJ8 : Hid (RJ w1 (w.heap.size + 1) (w.heap.size + 1 + 1) w.heap.size F 8 v8) := by rw [hv8]; exact j8
  have HV8 := hide hv8
  clear c7 f7 j8 hv8 HJ7
  go_wp2_with fail
  rw [← HV8.out]
  refine (refRd_at w1 (w.heap.size + 1) (w.heap.size + 1 + 1) w.heap.size 8 F 2 v8 hFl (by omega) (by omega) (by omega) (by omega) (by omega) HJ8.out rfl).mono ?_
  rintro r u8 ⟨rfl, ⟨x8, c8⟩, f8, j9⟩
  have c8' : u8.cell? ⟨w.heap.size + 1 + 1, 7, none⟩ = some (.int .i64 x8) := c8
  have f8' : u8.frozen? ⟨w.heap.size + 1 + 1, 7, none⟩ = false := f8
  obtain ⟨v9, hv9⟩ : ∃ v, v = u8.setCell ⟨w.heap.size + 1 + 1, 7, none⟩ (.int .i64 (rn F 8)) := ⟨_, rfl⟩
  have HJ9 : Hid (RJ w1 (w.heap.size + 1) (w.heap.size + 1 + 1) w.heap.size F 9 v9) := by rw [hv9]; exact j9
  have HV9 := hide hv9
  clear c8 f8 j9 hv9 HJ8
  go_wp2_with fail
  rw [← HV9.out]
  refine (refRd_at w1 (w.heap.size + 1) (w.heap.size + 1 + 1) w.heap.size 9 F 2 v9 hFl (by omega) (by omega) (by omega) (by omega) (by omega) HJ9.out rfl).mono ?_
  rintro r u9 ⟨rfl, ⟨x9, c9⟩, f9, j10⟩
  have c9' : u9.cell? ⟨w.heap.size + 1 + 1, 8, none⟩ = some (.int .i64 x9) := c9
  have f9' : u9.frozen? ⟨w.heap.size + 1 + 1, 8, none⟩ = false := f9
  obtain ⟨v10, hv10⟩ : ∃ v, v = u9.setCell ⟨w.heap.size + 1 + 1, 8, none⟩ (.int .i64 (rn F 9)) := ⟨_, rfl⟩
  have HJ10 : Hid (RJ w1 (w.heap.size + 1) (w.heap.size + 1 + 1) w.heap.size F 10 v10) := by rw [hv10]; exact j10
  have HV10 := hide hv10
  clear c9 f9 j10 hv10 HJ9
  have hss : sbOf F = sbOf zs := by rw [HF.out]; exact sbOf_take zs 64 (by omega)
  obtain ⟨s, hs⟩ : ∃ s, s = sbOf zs := ⟨_, rfl⟩
  obtain ⟨X, hX⟩ : ∃ X, X = sv s := ⟨_, rfl⟩
  have hXs : X.size = 10 := by rw [hX]; rfl
  have hX1 : X.all (·.oneCell') = true := by rw [hX]; exact sv_one _
  have hx10 : v10.heap[w.heap.size + 1 + 1]? = some (.cells X 23 (0, 0)) := by rw [hX, hs, ← hss]; exact HJ10.out.2.1
  have b10 : Below w1.heap.size w1 v10 := HJ10.out.2.2
  have hp := refPut_any s v10
  rw [← hX] at hp
  have HP := hide hp
  have HSb := hide hs
  have HXe : Hid (sv (sbOf zs) = X) := by show _ = _; rw [hX, hs]
  have HX10 := hide hx10
  have HB10 := hide b10
  have hsz0 : X[0]? = some (.int .i64 s.size) := by rw [hX]; rfl
  clear hss hs hX hp hx10 b10 HJ10
  go_wp2_with (refine wpList_load_row rfl _ _ rfl (w.heap.size + 1 + 1) rfl 23 X (0, 0) _ (by rw [← HV10.out]; exact HX10.out) Tryd.underlying23 rfl (by rw [hXs]; exact infoSuper) ?_)
  rw [← HV10.out]
  refine HP.out.mono ?_
  rintro r w11 ⟨hA, b11⟩
  have HB11 : Hid (Below w1.heap.size w1 w11) := HB10.out.trans (b11.mono HB10.out.size)
  have HX11 : Hid (w11.heap[w.heap.size + 1 + 1]? = some (.cells X 23 (0, 0))) := (b11.block _ (heap_lt HX10.out)).trans HX10.out
  have c11 : w11.cell? ⟨w.heap.size + 1 + 1, 0, none⟩ = some (.int .i64 s.size) := by rw [cell_of_row _ _ _ _ _ _ HX11.out, hsz0]
  have t2 : ∀ n, (convert 29 9 (.slice (some ⟨b, off, none⟩) 64 cap)).run Tryd.prog (w11.drewN n) = .ok (.string (strOfNums F)) (w11.drewN n) := fun n => str_any (HBF.out.below (below_drewN (HB1.out.trans (HB11.out.mono HB1.out.size)) n)) cap
  clear b11 HP HX10 HB10 hsz0
  rcases hA with ⟨hok, ao', c', rfl, hbs⟩ | ⟨hok, rfl⟩
  · have t1 : ∀ n, (convert 29 9 (.slice ao' 64 c')).run Tryd.prog (w11.drewN n) = .ok (.string (strOfNums (put ent s))) (w11.drewN n) := fun n => str_any (hbs.below (below_drewN (Below.refl _ _) n)) c'
    have hq := str_eq (put_bytes ent s) hFb
    clear hbs
    by_cases hbk : put ent s = F
    · rw [decide_eq_true hbk] at hq
      by_cases hsz : s.size = len
      · have hne : (s.size != (len : Int)) = false := by rw [hsz]; simp
        have HG : Hid (good ent zs) := ⟨by omega, by rw [← HSb.out]; exact hok, by rw [← HSb.out, hz]; exact hsz, by rw [← HSb.out, ← HF.out]; exact hbk.symm⟩
        clear hok hbk hsz
        go_wp2_with fail
        go_quiet (fail)
        obtain ⟨wq, hwq⟩ : ∃ wq, wq = w11.drewN nq := ⟨_, rfl⟩
        rw [← hwq]
        have HBq : Hid (Below w1.heap.size w1 wq) := by rw [hwq]; exact below_drewN HB11.out _
        have HXq : Hid (wq.heap[w.heap.size + 1 + 1]? = some (.cells X 23 (0, 0))) := by rw [hwq]; exact HX11.out
        clear hwq
        have HRf : Hid (wq.heap[w.heap.size]? = some (.cells zv 23 (0, 0)) ∧ Below w.heap.size w wq ∧ wq.heap[w.heap.size + 1 + 1]? = some (.cells X 23 (0, 0))) := ⟨(HBq.out.block _ (by omega)).trans H10.out, HB1.out.trans (HBq.out.mono HB1.out.size), HXq.out⟩
        go_wp2_with (first
          | refine wpList_load_row rfl _ _ rfl (w.heap.size + 1 + 1) rfl 23 X (0, 0) _ HRf.out.2.2 Tryd.underlying23 rfl (by rw [hXs]; exact infoSuper) ?_
          | refine wpList_store_row rfl _ _ _ rfl w.heap.size X rfl rfl 23 zv HRf.out.1 (by rw [hXs]; exact infoSuper) (by rw [hXs]; rfl) hX1 ?_)
        refine bodyPost_ret (v := .tuple #[.agg X, .int .i64 0]) ?_ rfl ⟨.inl ⟨HG.out, by rw [HXe.out]⟩, below_setRow HRf.out.2.1 (Nat.le_refl _) _⟩
        exact results_cr2 (p := 2) (u := 3) rfl _ _ w.heap.size X rfl (load_super (setRow_heap _ _ _ _ _ _ HRf.out.1) hXs)
      · have hne : (s.size != (len : Int)) = true := by simpa using hsz
        have HG : Hid (¬ good ent zs) := fun h => hsz (by rw [HSb.out, h.2.2.1, hz])
        clear hok hbk hsz
        go_wp2_with fail
        go_quiet (fail)
        obtain ⟨wq, hwq⟩ : ∃ wq, wq = w11.drewN nq := ⟨_, rfl⟩
        rw [← hwq]
        have HBq : Hid (Below w1.heap.size w1 wq) := by rw [hwq]; exact below_drewN HB11.out _
        have HXq : Hid (wq.heap[w.heap.size + 1 + 1]? = some (.cells X 23 (0, 0))) := by rw [hwq]; exact HX11.out
        clear hwq
        have HRf : Hid (wq.heap[w.heap.size]? = some (.cells zv 23 (0, 0)) ∧ Below w.heap.size w wq) := ⟨(HBq.out.block _ (by omega)).trans H10.out, HB1.out.trans (HBq.out.mono HB1.out.size)⟩
        go_wp2_with (refine wpList_store_row rfl _ _ _ rfl w.heap.size zv rfl rfl 23 zv HRf.out.1 infoSuper rfl zv_one ?_)
        refine bodyPost_ret (v := .tuple #[.agg zv, .int .i64 2]) ?_ rfl ⟨.inr ⟨HG.out, rfl⟩, below_setRow HRf.out.2 (Nat.le_refl _) _⟩
        exact results_cr2 (p := 2) (u := 3) rfl _ _ w.heap.size zv rfl (load_super (setRow_heap _ _ _ _ _ _ HRf.out.1) rfl)
    · rw [decide_eq_false hbk] at hq
      have HG : Hid (¬ good ent zs) := fun h => hbk (by rw [HF.out, HSb.out]; exact h.2.2.2.symm)
      clear hok hbk
      go_wp2_with fail
      go_quiet (fail)
      obtain ⟨wq, hwq⟩ : ∃ wq, wq = w11.drewN nq := ⟨_, rfl⟩
      rw [← hwq]
      have HBq : Hid (Below w1.heap.size w1 wq) := by rw [hwq]; exact below_drewN HB11.out _
      have HXq : Hid (wq.heap[w.heap.size + 1 + 1]? = some (.cells X 23 (0, 0))) := by rw [hwq]; exact HX11.out
      clear hwq
      have HRf : Hid (wq.heap[w.heap.size]? = some (.cells zv 23 (0, 0)) ∧ Below w.heap.size w wq) := ⟨(HBq.out.block _ (by omega)).trans H10.out, HB1.out.trans (HBq.out.mono HB1.out.size)⟩
      go_wp2_with (refine wpList_store_row rfl _ _ _ rfl w.heap.size zv rfl rfl 23 zv HRf.out.1 infoSuper rfl zv_one ?_)
      refine bodyPost_ret (v := .tuple #[.agg zv, .int .i64 2]) ?_ rfl ⟨.inr ⟨HG.out, rfl⟩, below_setRow HRf.out.2 (Nat.le_refl _) _⟩
      exact results_cr2 (p := 2) (u := 3) rfl _ _ w.heap.size zv rfl (load_super (setRow_heap _ _ _ _ _ _ HRf.out.1) rfl)
  · have HG : Hid (¬ good ent zs) := fun h => hok (by rw [HSb.out]; exact h.2.1)
    clear hok
    go_wp2_with fail
    go_quiet (fail)
    obtain ⟨wq, hwq⟩ : ∃ wq, wq = w11.drewN nq := ⟨_, rfl⟩
    rw [← hwq]
    have HBq : Hid (Below w1.heap.size w1 wq) := by rw [hwq]; exact below_drewN HB11.out _
    have HXq : Hid (wq.heap[w.heap.size + 1 + 1]? = some (.cells X 23 (0, 0))) := by rw [hwq]; exact HX11.out
    clear hwq
    have HRf : Hid (wq.heap[w.heap.size]? = some (.cells zv 23 (0, 0)) ∧ Below w.heap.size w wq) := ⟨(HBq.out.block _ (by omega)).trans H10.out, HB1.out.trans (HBq.out.mono HB1.out.size)⟩
    go_wp2_with (refine wpList_store_row rfl _ _ _ rfl w.heap.size zv rfl rfl 23 zv HRf.out.1 infoSuper rfl zv_one ?_)
    refine bodyPost_ret (v := .tuple #[.agg zv, .int .i64 2]) ?_ rfl ⟨.inr ⟨HG.out, rfl⟩, below_setRow HRf.out.2 (Nat.le_refl _) _⟩
    exact results_cr2 (p := 2) (u := 3) rfl _ _ w.heap.size zv rfl (load_super (setRow_heap _ _ _ _ _ _ HRf.out.1) rfl)
/-- The document's Take, of any bytes. -/
theorem refTake_any (len cap : Nat) (ao : Option Addr) (zs : List Int) (w : World) (hB : Bs w ao len zs) (hlc : len ≤ cap) (hcm : cap ≤ 9223372036854775807) (hl : len ≤ 1000000) :
    Calls Tryd.prog 15 #[.slice ao len cap] w fun e w' => TakeAns ent zs e ∧ Below w.heap.size w w' := by
  by_cases h : len < 64
  · exact refTake_short len cap ao zs w hB.1 h
  · exact refTake_long len cap ao zs w hB (by omega) hlc hcm hl
end Go.Proofs.YthghodmjpdooaaaDoor

/- Layer 9: Take, by the document's answer. -/
import Derived.Test.YtmhgjilpgbkaaaaInoRefPut
import Derived.Test.YtmhgjilpgbkaaaaInoTake
import Derived.Test.YtmhgjilpgbkaaaaCurRef
namespace Go.Proofs.Ytmhgjilpgbkaaaa
set_option linter.unusedVariables false
open Go.RowKit Go.Maps
open Cur
open Ino

namespace Ino
theorem str_inj {xs ys : List Int} (hx : Bytes xs) (hy : Bytes ys) (h : strOfNums xs = strOfNums ys) : xs = ys := by
  rw [← sb_str hx, h, sb_str hy]
theorem str_eq {x y : List Int} (hx : Bytes x) (hy : Bytes y) : ((strOfNums x).toList == (strOfNums y).toList) = decide (x = y) := by
  rw [Bool.eq_iff_iff, beq_iff_eq, decide_eq_true_eq]
  refine ⟨fun h => str_inj hx hy ?_, fun h => by rw [h]⟩
  rw [ByteArray.toList_eq, ByteArray.toList_eq] at h
  exact ByteArray.ext (Array.toList_inj.1 h)
theorem rdr_above {w w' : World} {q N L : Nat} {s : St} (h : RdR w q L s) (hf : Fr (One N) w w') (hN : L ≤ N) (hq : q ≠ N) : RdR w' q L s := by
  obtain ⟨ao, n, c, ys, h1, h2, h3, h4, h5, h6, h7, h8, h9⟩ := h
  exact ⟨ao, n, c, ys, h1.fr hf hq, h2.fr h7 hf (fun a ha hl _ hk => by have : a.block = N := hk; omega), h3, h4, h5, h6, Nat.le_trans h7 hf.size, h8, h9⟩
theorem rdr_below {w w' : World} {q L : Nat} {s : St} (h : RdR w q L s) (hb : Below w.heap.size w w') : RdR w' q L s := by
  obtain ⟨ao, n, c, ys, h1, h2, h3, h4, h5, h6, h7, h8, h9⟩ := h
  have hf : Fr (fun _ => False) w w' := Fr.of_below hb
  exact ⟨ao, n, c, ys, h1.fr hf id, h2.fr h7 hf (fun a ha hl _ hk => hk), h3, h4, h5, h6, Nat.le_trans h7 hf.size, h8, h9⟩
/-- The document's reader at p and a record at q, since W. -/
def TR (W : World) (p q L : Nat) (s : St) (r : Rec) (w : World) : Prop := RdR w p L s ∧ w.heap[q]? = some (.cells (iv r) 23 (0, 0)) ∧ Fr (PQ p q) W w
theorem TR.cell {W w : World} {p q L : Nat} {s : St} {r : Rec} (h : TR W p q L s r w) (k : Nat) : w.cell? ⟨q, k, none⟩ = (iv r)[k]? := cell_of_row _ _ _ _ _ _ h.2.1
theorem TR.free {W w : World} {p q L : Nat} {s : St} {r : Rec} (h : TR W p q L s r w) (k : Nat) : w.frozen? ⟨q, k, none⟩ = false := by simp [World.frozen?, h.2.1]
theorem TR.store {W w : World} {p q L : Nat} {s : St} {r r' : Rec} (h : TR W p q L s r w) (hq : L ≤ q) (hpq : p ≠ q) (k : Nat) (x : Value) (e : (iv r).setIfInBounds k x = iv r') : TR W p q L s r' (w.setCell ⟨q, k, none⟩ x) := by
  obtain ⟨h1, h2, h3⟩ := h
  refine ⟨rdr_above h1 ((Fr.refl (One q) w).set (p := ⟨q, k, none⟩) x (fun _ => rfl)) hq hpq, ?_, h3.set (p := ⟨q, k, none⟩) x (fun _ => .inr rfl)⟩
  rw [heap_setCell_self h2, e]
theorem TR.call {W w w' : World} {p q L : Nat} {s s' : St} {r : Rec} (h : TR W p q L s r w) (hpq : p ≠ q) (hR : RdR w' p L s') (hF : Fr (One p) w w') : TR W p q L s' r w' :=
  ⟨hR, (hF.block _ (heap_lt h.2.1) (fun e => hpq (Eq.symm e))).trans h.2.1, h.2.2.trans hF (fun i _ hi => .inl hi)⟩
theorem TR.below {W w w' : World} {p q L : Nat} {s : St} {r : Rec} (h : TR W p q L s r w) (hb : Below w.heap.size w w') : TR W p q L s r w' :=
  ⟨rdr_below h.1 hb, (hb.block _ (heap_lt h.2.1)).trans h.2.1, h.2.2.then (Fr.of_below hb)⟩
theorem ps_len (k : Nat) (s : St) : (ps k s).1.length ≤ s.1.length := by
  unfold ps fl
  repeat' split
  all_goals simp
theorem num_len (n : Int) (s : St) : (numS n s).1.length ≤ s.1.length := by
  unfold numS
  split
  · exact ps_len _ _
  · exact fl_length _ _
theorem read_size (zs : List Int) : (readR zs).target.size ≤ zs.length := by
  have h6 : (z6 (zs, 0)).1.length ≤ zs.length := by
    unfold z6 z5 z4 z3 z2 z1
    exact Nat.le_trans (num_len _ _) (Nat.le_trans (num_len _ _) (Nat.le_trans (num_len _ _) (Nat.le_trans (num_len _ _) (Nat.le_trans (num_len _ _) (num_len _ _)))))
  have h7 : (txtA (z6 (zs, 0))).length ≤ (z6 (zs, 0)).1.length := by
    unfold txtA
    exact Nat.le_trans (pa_le _ _) (num_len _ _)
  unfold readR ownR
  split
  · exact Nat.zero_le _
  · split
    · exact Nat.zero_le _
    · split
      · show (strOfNums (txtA (z6 (zs, 0)))).size ≤ _
        rw [strOfNums_size]; omega
      · exact Nat.zero_le _
end Ino
theorem rtake_num (W : World) (p q L : Nat) (s : St) (r : Rec) (n : Int) (w : World) (h : TR W p q L s r w) (hpq : p ≠ q) (hn : -9223372036854775808 ≤ n ∧ n ≤ 9223372036854775807) :
    Calls Try.prog 34 #[.pointer (some ⟨p, 0, none⟩), .int .i64 n] w fun e w' => e = .returned (.int .i64 (numA n s)) ∧ TR W p q L (numS n s) r w' :=
  (refNum_any p L n s w h.1 hn).mono (by rintro e w' ⟨h1, h2, h3⟩; exact ⟨h1, h.call hpq h2 h3⟩)
theorem rtake_text (W : World) (p q L : Nat) (s : St) (r : Rec) (w : World) (h : TR W p q L s r w) (hpq : p ≠ q) (hb : Bytes s.1) :
    Calls Try.prog 35 #[.pointer (some ⟨p, 0, none⟩)] w fun e w' => e = .returned (.string (strOfNums (txtA s))) ∧ TR W p q L (txtS s) r w' :=
  (refText_any p L s w h.1 hb).mono (by rintro e w' ⟨h1, h2, h3⟩; exact ⟨h1, h.call hpq h2 h3⟩)
set_option maxRecDepth 100000 in
set_option maxHeartbeats 8000000 in
theorem refITake_any (n c : Nat) (ao : Option Addr) (zs : List Int) (w : World) (hb : Bs w ao n zs) (hc : n ≤ c) (hcm : c ≤ 9223372036854775807) (hnil : ao = none → c = 0) (hn : n ≤ 1000000) :
    Calls Try.prog 15 #[.slice ao n c] w fun e w' => e = .returned (.tuple #[.agg (iv (takR zs)), .int .i64 (takE zs)]) ∧ Below w.heap.size w w' := by
  have hby := hb.bytes
  have hzl := hb.1
  obtain ⟨w0, hw0⟩ : ∃ w0, w0 = w.alloc (.cells (iv zr) 23) := ⟨_, rfl⟩
  have b0 : Below w.heap.size w w0 := by rw [hw0]; exact below_one _ _
  have h0 : w0.heap[w.heap.size]? = some (.cells (iv zr) 23 (0, 0)) := by rw [hw0]; exact heap_new rfl
  have hlt0 := heap_lt h0
  have HBs := hide hb
  have HBy := hide hby
  have HZl := hide hzl
  have HB0 := hide b0
  have H0 := hide h0
  have HW0 := hide hw0
  have HNil := hide hnil
  have HT : Hid (good zs = false → Ending.returned (.tuple #[.agg (iv zr), .int .i64 2]) = .returned (.tuple #[.agg (iv (takR zs)), .int .i64 (takE zs)])) := fun h => by unfold takR takE; rw [h]; rfl
  have HTy : Hid (good zs = true → Ending.returned (.tuple #[.agg (iv (readR zs)), .int .i64 0]) = .returned (.tuple #[.agg (iv (takR zs)), .int .i64 (takE zs)])) := fun h => by unfold takR takE; rw [if_pos h, if_pos h]
  generalize takR zs = QR at HT HTy ⊢
  generalize takE zs = QE at HT HTy ⊢
  have sz0 : w0.heap.size = w.heap.size + 1 := by rw [hw0]; simp
  have ho := emptyB (w := w0) (Nat.le_refl _)
  have hsrc : Bs (w0.alloc (.cells #[] 5)) ao n zs := (hb.below b0).alloc _
  rw [sz0, hw0] at ho
  rw [hw0] at hsrc
  have hk8 : 0 + n ≤ 100000000 := by omega
  clear hb b0 h0 hw0 hby hzl hnil
  unfold iv zr at HW0 ho hsrc
  simp only at HW0 ho hsrc
  go_enter Try.func15, Try.ntmps15
  go_wp2_with (first
    | (at_builtin
       refine wpList_append_bs _ (by rfl) (.tmp 8) (.tmp 9) (by rfl) (w.heap.size + 1) _ 0 0 [] (by rfl) ho ao n c zs (by rfl) hsrc HNil.out hk8 (by simp) ?_
       intro ao1 c1 w1 ho1 hg1
       have b1 : Below (w.heap.size + 1) w0 w1 := by
         rw [← HW0.out] at hg1
         exact ((Below.refl _ w0).alloc (by omega) _).grown hg1 (by simp; omega) (fun kk e => (ho.lt kk e).1)
       rw [Nat.zero_add, List.nil_append] at ho1
       have hw1s : w0.heap.size ≤ w1.heap.size := b1.size
       obtain ⟨w2, hw2⟩ : ∃ w2, w2 = (w1.alloc (.cells #[.slice ao1 n c1, .int .i64 0] 74)).alloc (.cells (iv zr) 23) := ⟨_, rfl⟩
       have b12 : Below w1.heap.size w1 w2 := by rw [hw2]; exact (below_one _ _).alloc (by simp) _
       have hRd : RdR w2 w1.heap.size w1.heap.size (zs, 0) := by
         have h1 : RdR (w1.alloc (.cells #[.slice ao1 n c1, .int .i64 0] 74)) w1.heap.size w1.heap.size (zs, 0) :=
           ⟨ao1, n, c1, zs, Hd.new _ _ _ _ _ _, (bs_of_owns ho1 HBy.out).toB.below (below_one _ _), cap_of_owns ho1, max_of_owns ho1, by omega, nil_cap ho1, by simp, fun _ => rfl, .inl rfl⟩
         rw [hw2]
         exact rdr_below h1 (below_one _ _)
       have h2 : w2.heap[w1.heap.size + 1]? = some (.cells (iv zr) 23 (0, 0)) := by rw [hw2]; exact heap_new (by simp)
       have b02 : Below w0.heap.size w0 w2 := by
         have : Below (w.heap.size + 1) w0 w2 := b1.trans (b12.mono (by omega))
         rw [← sz0] at this
         exact this
       have h20 : w2.heap[w.heap.size]? = some (.cells (iv zr) 23 (0, 0)) := (b02.block _ hlt0).trans H0.out
       have bw2 : Below w.heap.size w w2 := HB0.out.trans (b02.mono HB0.out.size)
       have hpq : w1.heap.size ≠ w1.heap.size + 1 := by omega
       have hL : w1.heap.size ≤ w1.heap.size + 1 := by omega
       have HJ0 : Hid (TR w2 w1.heap.size (w1.heap.size + 1) w1.heap.size (zs, 0) zr w2) := ⟨hRd, h2, Fr.refl _ _⟩
       have HR0 : Hid (∀ wX s r, TR w2 w1.heap.size (w1.heap.size + 1) w1.heap.size s r wX → wX.heap[w.heap.size]? = some (.cells (iv zr) 23 (0, 0)) ∧ Below w.heap.size w wX) := fun wX s r h => by
         refine ⟨(h.2.2.block _ (heap_lt h20) (fun hx => by rcases hx with hx | hx <;> omega)).trans h20, ?_⟩
         have := h.2.2.below w.heap.size (by have := heap_lt h20; omega) (fun k hk => by rcases hk with hk | hk <;> omega)
         exact bw2.trans this
       have HW2 := hide hw2
       clear ho1 hg1 b1 hw1s b12 hRd h2 b02 h20 bw2 hw2 ho hsrc))
  unfold iv zr at HW2
  simp only at HW2
  rw [← HW2.out]
  obtain ⟨S0, hS0⟩ : ∃ S : St, S = (zs, 0) := ⟨_, rfl⟩
  rw [← hS0] at HJ0
  have HS0 := hide hS0
  clear hS0
  refine (rtake_num w2 w1.heap.size (w1.heap.size + 1) w1.heap.size S0 ⟨0, 0, 0, 0, 0, 0, 0, 0, 0, 0, ⟨#[]⟩⟩ 1 w2 HJ0.out hpq (by omega)).mono ?_
  rintro e v0 ⟨he, hJ⟩
  obtain ⟨x0, hx0⟩ : ∃ x, x = numA 1 S0 := ⟨_, rfl⟩
  obtain ⟨S1, hS1⟩ : ∃ x, x = numS 1 S0 := ⟨_, rfl⟩
  rw [← hx0] at he
  rw [← hS1] at hJ
  subst he
  have HX0 := hide hx0
  have HS1 := hide hS1
  have c0 : v0.cell? ⟨w1.heap.size + 1, 0, none⟩ = some (.int .i64 0) := hJ.cell 0
  have f0 := hJ.free 0
  have hK := TR.store (r' := ⟨x0, 0, 0, 0, 0, 0, 0, 0, 0, 0, ⟨#[]⟩⟩) hJ hL hpq 0 (.int .i64 x0) rfl
  obtain ⟨u0, hu0⟩ : ∃ u, u = v0.setCell ⟨w1.heap.size + 1, 0, none⟩ (.int .i64 x0) := ⟨_, rfl⟩
  rw [← hu0] at hK
  have HJ1 := hide hK
  have HU0 := hide hu0
  clear hJ hK hu0 HJ0 hx0 hS1
  go_wp2_with fail
  rw [← HU0.out]
  clear c0 f0
  refine (rtake_num w2 w1.heap.size (w1.heap.size + 1) w1.heap.size S1 ⟨x0, 0, 0, 0, 0, 0, 0, 0, 0, 0, ⟨#[]⟩⟩ 2 u0 HJ1.out hpq (by omega)).mono ?_
  rintro e v1 ⟨he, hJ⟩
  obtain ⟨x1, hx1⟩ : ∃ x, x = numA 2 S1 := ⟨_, rfl⟩
  obtain ⟨S2, hS2⟩ : ∃ x, x = numS 2 S1 := ⟨_, rfl⟩
  rw [← hx1] at he
  rw [← hS2] at hJ
  subst he
  have HX1 := hide hx1
  have HS2 := hide hS2
  have c1 : v1.cell? ⟨w1.heap.size + 1, 1, none⟩ = some (.int .i64 0) := hJ.cell 1
  have f1 := hJ.free 1
  have hK := TR.store (r' := ⟨x0, x1, 0, 0, 0, 0, 0, 0, 0, 0, ⟨#[]⟩⟩) hJ hL hpq 1 (.int .i64 x1) rfl
  obtain ⟨u1, hu1⟩ : ∃ u, u = v1.setCell ⟨w1.heap.size + 1, 1, none⟩ (.int .i64 x1) := ⟨_, rfl⟩
  rw [← hu1] at hK
  have HJ2 := hide hK
  have HU1 := hide hu1
  clear hJ hK hu1 HJ1 hx1 hS2
  go_wp2_with fail
  rw [← HU1.out]
  clear c1 f1
  refine (rtake_num w2 w1.heap.size (w1.heap.size + 1) w1.heap.size S2 ⟨x0, x1, 0, 0, 0, 0, 0, 0, 0, 0, ⟨#[]⟩⟩ 2 u1 HJ2.out hpq (by omega)).mono ?_
  rintro e v2 ⟨he, hJ⟩
  obtain ⟨x2, hx2⟩ : ∃ x, x = numA 2 S2 := ⟨_, rfl⟩
  obtain ⟨S3, hS3⟩ : ∃ x, x = numS 2 S2 := ⟨_, rfl⟩
  rw [← hx2] at he
  rw [← hS3] at hJ
  subst he
  have HX2 := hide hx2
  have HS3 := hide hS3
  have c2 : v2.cell? ⟨w1.heap.size + 1, 2, none⟩ = some (.int .i64 0) := hJ.cell 2
  have f2 := hJ.free 2
  have hK := TR.store (r' := ⟨x0, x1, x2, 0, 0, 0, 0, 0, 0, 0, ⟨#[]⟩⟩) hJ hL hpq 2 (.int .i64 x2) rfl
  obtain ⟨u2, hu2⟩ : ∃ u, u = v2.setCell ⟨w1.heap.size + 1, 2, none⟩ (.int .i64 x2) := ⟨_, rfl⟩
  rw [← hu2] at hK
  have HJ3 := hide hK
  have HU2 := hide hu2
  clear hJ hK hu2 HJ2 hx2 hS3
  go_wp2_with fail
  rw [← HU2.out]
  clear c2 f2
  refine (rtake_num w2 w1.heap.size (w1.heap.size + 1) w1.heap.size S3 ⟨x0, x1, x2, 0, 0, 0, 0, 0, 0, 0, ⟨#[]⟩⟩ 2 u2 HJ3.out hpq (by omega)).mono ?_
  rintro e v3 ⟨he, hJ⟩
  obtain ⟨x3, hx3⟩ : ∃ x, x = numA 2 S3 := ⟨_, rfl⟩
  obtain ⟨S4, hS4⟩ : ∃ x, x = numS 2 S3 := ⟨_, rfl⟩
  rw [← hx3] at he
  rw [← hS4] at hJ
  subst he
  have HX3 := hide hx3
  have HS4 := hide hS4
  have c3 : v3.cell? ⟨w1.heap.size + 1, 3, none⟩ = some (.int .i64 0) := hJ.cell 3
  have f3 := hJ.free 3
  have hK := TR.store (r' := ⟨x0, x1, x2, x3, 0, 0, 0, 0, 0, 0, ⟨#[]⟩⟩) hJ hL hpq 3 (.int .i64 x3) rfl
  obtain ⟨u3, hu3⟩ : ∃ u, u = v3.setCell ⟨w1.heap.size + 1, 3, none⟩ (.int .i64 x3) := ⟨_, rfl⟩
  rw [← hu3] at hK
  have HJ4 := hide hK
  have HU3 := hide hu3
  clear hJ hK hu3 HJ3 hx3 hS4
  go_wp2_with fail
  rw [← HU3.out]
  clear c3 f3
  refine (rtake_num w2 w1.heap.size (w1.heap.size + 1) w1.heap.size S4 ⟨x0, x1, x2, x3, 0, 0, 0, 0, 0, 0, ⟨#[]⟩⟩ 2 u3 HJ4.out hpq (by omega)).mono ?_
  rintro e v4 ⟨he, hJ⟩
  obtain ⟨x4, hx4⟩ : ∃ x, x = numA 2 S4 := ⟨_, rfl⟩
  obtain ⟨S5, hS5⟩ : ∃ x, x = numS 2 S4 := ⟨_, rfl⟩
  rw [← hx4] at he
  rw [← hS5] at hJ
  subst he
  have HX4 := hide hx4
  have HS5 := hide hS5
  have c4 : v4.cell? ⟨w1.heap.size + 1, 4, none⟩ = some (.int .i64 0) := hJ.cell 4
  have f4 := hJ.free 4
  have hK := TR.store (r' := ⟨x0, x1, x2, x3, x4, 0, 0, 0, 0, 0, ⟨#[]⟩⟩) hJ hL hpq 4 (.int .i64 x4) rfl
  obtain ⟨u4, hu4⟩ : ∃ u, u = v4.setCell ⟨w1.heap.size + 1, 4, none⟩ (.int .i64 x4) := ⟨_, rfl⟩
  rw [← hu4] at hK
  have HJ5 := hide hK
  have HU4 := hide hu4
  clear hJ hK hu4 HJ4 hx4 hS5
  go_wp2_with fail
  rw [← HU4.out]
  clear c4 f4
  refine (rtake_num w2 w1.heap.size (w1.heap.size + 1) w1.heap.size S5 ⟨x0, x1, x2, x3, x4, 0, 0, 0, 0, 0, ⟨#[]⟩⟩ 4 u4 HJ5.out hpq (by omega)).mono ?_
  rintro e v5 ⟨he, hJ⟩
  obtain ⟨x5, hx5⟩ : ∃ x, x = numA 4 S5 := ⟨_, rfl⟩
  obtain ⟨S6, hS6⟩ : ∃ x, x = numS 4 S5 := ⟨_, rfl⟩
  rw [← hx5] at he
  rw [← hS6] at hJ
  subst he
  have HX5 := hide hx5
  have HS6 := hide hS6
  have c5 : v5.cell? ⟨w1.heap.size + 1, 5, none⟩ = some (.int .i64 0) := hJ.cell 5
  have f5 := hJ.free 5
  have hK := TR.store (r' := ⟨x0, x1, x2, x3, x4, x5, 0, 0, 0, 0, ⟨#[]⟩⟩) hJ hL hpq 5 (.int .i64 x5) rfl
  obtain ⟨u5, hu5⟩ : ∃ u, u = v5.setCell ⟨w1.heap.size + 1, 5, none⟩ (.int .i64 x5) := ⟨_, rfl⟩
  rw [← hu5] at hK
  have HJ6 := hide hK
  have HU5 := hide hu5
  clear hJ hK hu5 HJ5 hx5 hS6
  have eR : headR (zs, 0) = ⟨x0, x1, x2, x3, x4, x5, 0, 0, 0, 0, ⟨#[]⟩⟩ := by
    unfold headR z5 z4 z3 z2 z1
    rw [← HS0.out, ← HS1.out, ← HS2.out, ← HS3.out, ← HS4.out, ← HS5.out, ← HX0.out, ← HX1.out, ← HX2.out, ← HX3.out, ← HX4.out, ← HX5.out]
  have eS : z6 (zs, 0) = S6 := by
    unfold z6 z5 z4 z3 z2 z1
    rw [← HS0.out, ← HS1.out, ← HS2.out, ← HS3.out, ← HS4.out, ← HS5.out, ← HS6.out]
  have ER := hide eR
  have ES := hide eS
  have HB6 : Hid (Bytes S6.1) := by rw [← eS]; exact z6_bytes HBy.out
  have cK : u5.cell? ⟨w1.heap.size + 1, 0, none⟩ = some (.int .i64 x0) := HJ6.out.cell 0
  rw [HU5.out] at cK
  have HSz : Hid ((readR zs).target.size ≤ 9223372036854775807) := by have := read_size zs; have := HZl.out; show _ ≤ _; omega
  clear eR eS HX0 HX1 HX2 HX3 HX4 HX5 HS0 HS1 HS2 HS3 HS4 HS5 HS6
  by_cases g1 : x0 = 1
  · have hk := g1
    clear g1
    subst hk
    go_wp2_with fail
    rw [← HU5.out]
    clear c5 f5 cK
    refine (rtake_num w2 w1.heap.size (w1.heap.size + 1) w1.heap.size S6 ⟨1, x1, x2, x3, x4, x5, 0, 0, 0, 0, ⟨#[]⟩⟩ 4 u5 HJ6.out hpq (by omega)).mono ?_
    rintro e v6 ⟨he, hJ⟩
    obtain ⟨x6, hx6⟩ : ∃ x, x = numA 4 S6 := ⟨_, rfl⟩
    obtain ⟨S7, hS7⟩ : ∃ x, x = numS 4 S6 := ⟨_, rfl⟩
    rw [← hx6] at he
    rw [← hS7] at hJ
    subst he
    have HX6 := hide hx6
    have HS7 := hide hS7
    have c6 : v6.cell? ⟨w1.heap.size + 1, 6, none⟩ = some (.int .i64 0) := hJ.cell 6
    have f6 := hJ.free 6
    have hK := TR.store (r' := ⟨1, x1, x2, x3, x4, x5, x6, 0, 0, 0, ⟨#[]⟩⟩) hJ hL hpq 6 (.int .i64 x6) rfl
    obtain ⟨u6, hu6⟩ : ∃ u, u = v6.setCell ⟨w1.heap.size + 1, 6, none⟩ (.int .i64 x6) := ⟨_, rfl⟩
    rw [← hu6] at hK
    have HJ7 := hide hK
    have HU6 := hide hu6
    clear hJ hK hu6 HJ6 hx6 hS7
    go_wp2_with fail
    rw [← HU6.out]
    clear c6 f6
    refine (rtake_num w2 w1.heap.size (w1.heap.size + 1) w1.heap.size S7 ⟨1, x1, x2, x3, x4, x5, x6, 0, 0, 0, ⟨#[]⟩⟩ 4 u6 HJ7.out hpq (by omega)).mono ?_
    rintro e v7 ⟨he, hJ⟩
    obtain ⟨x7, hx7⟩ : ∃ x, x = numA 4 S7 := ⟨_, rfl⟩
    obtain ⟨S8, hS8⟩ : ∃ x, x = numS 4 S7 := ⟨_, rfl⟩
    rw [← hx7] at he
    rw [← hS8] at hJ
    subst he
    have HX7 := hide hx7
    have HS8 := hide hS8
    have c7 : v7.cell? ⟨w1.heap.size + 1, 7, none⟩ = some (.int .i64 0) := hJ.cell 7
    have f7 := hJ.free 7
    have hK := TR.store (r' := ⟨1, x1, x2, x3, x4, x5, x6, x7, 0, 0, ⟨#[]⟩⟩) hJ hL hpq 7 (.int .i64 x7) rfl
    obtain ⟨u7, hu7⟩ : ∃ u, u = v7.setCell ⟨w1.heap.size + 1, 7, none⟩ (.int .i64 x7) := ⟨_, rfl⟩
    rw [← hu7] at hK
    have HJ8 := hide hK
    have HU7 := hide hu7
    clear hJ hK hu7 HJ7 hx7 hS8
    have eT : readR zs = ⟨1, x1, x2, x3, x4, x5, x6, x7, 0, 0, ⟨#[]⟩⟩ := by unfold readR ownR; rw [ER.out, ES.out]; rw [if_pos rfl]; rw [← HS7.out, ← HX6.out, ← HX7.out]
    obtain ⟨R, hR⟩ : ∃ R, R = readR zs := ⟨_, rfl⟩
    rw [← eT, ← hR] at HJ8
    have hxu := HJ8.out.2.1
    rw [← hR] at HSz
    have HRP := hide (fun w => refIPut_any R w HSz.out)
    have HRR := hide hR
    clear eT hR
    go_wp2_with (first
      | (rw [← HU7.out]; refine wpList_load_rec (by rfl) _ rfl (w1.heap.size + 1) rfl 23 (iv R) (0, 0) hxu rfl ?_))
    refine (HRP.out u7).mono ?_
    rintro r w6 (⟨hm, aop, cp, rfl, hbp, b6⟩ | ⟨hm, rfl, b6⟩)
    · have hJ6 := TR.below HJ8.out b6
      obtain ⟨h60, bf⟩ := HR0.out w6 _ _ hJ6
      have h61 := hJ6.2.1
      have s1 := str_any hbp cp
      have s2 := str_any (HBs.out.below bf) c
      have hse := str_eq hbp.bytes HBy.out
      have HBf := hide bf
      generalize (putB R).length = mp at *
      by_cases he : putB R = zs
      · have HG : Hid (good zs = true) := by show _ = _; rw [good_iff HBy.out, ← HRR.out]; exact ⟨hm, he⟩
        rw [decide_eq_true he] at hse
        generalize strOfNums (putB R) = T1 at *
        generalize strOfNums zs = T2 at *
        clear he hm hbp b6 hJ6 bf
        go_wp2_with (first
          | refine wpList_load_rec (by rfl) _ rfl (w1.heap.size + 1) rfl 23 (iv R) (0, 0) h61 rfl ?_
          | refine wpList_store_row rfl _ _ _ rfl w.heap.size (iv R) rfl rfl 23 (iv zr) h60 infoRec rfl (iv_one _) ?_)
        refine bodyPost_ret (v := .tuple #[.agg (iv R), .int .i64 0]) ?_ rfl ⟨by rw [← HTy.out HG.out, HRR.out], below_setRow HBf.out (Nat.le_refl _) _⟩
        exact results_cr2 (p := 2) (u := 3) rfl _ _ w.heap.size (iv R) rfl (load_rec (setRow_heap _ _ _ _ _ _ h60) rfl)
      · have HG : Hid (good zs = false) := Bool.eq_false_iff.2 (fun h => he (by have := ((good_iff HBy.out).1 h).2; rw [← HRR.out] at this; exact this))
        rw [decide_eq_false he] at hse
        generalize strOfNums (putB R) = T1 at *
        generalize strOfNums zs = T2 at *
        clear he hm hbp b6 hJ6 bf h61
        go_wp2_with (refine wpList_store_row rfl _ _ _ rfl w.heap.size (iv zr) rfl rfl 23 (iv zr) h60 infoRec rfl (iv_one _) ?_)
        refine bodyPost_ret (v := .tuple #[.agg (iv zr), .int .i64 2]) ?_ rfl ⟨HT.out HG.out, below_setRow HBf.out (Nat.le_refl _) _⟩
        exact results_cr2 (p := 2) (u := 3) rfl _ _ w.heap.size (iv zr) rfl (load_rec (setRow_heap _ _ _ _ _ _ h60) rfl)
    · have hJ6 := TR.below HJ8.out b6
      obtain ⟨h60, bf⟩ := HR0.out w6 _ _ hJ6
      have HBf := hide bf
      have HG : Hid (good zs = false) := Bool.eq_false_iff.2 (fun h => by have := ((good_iff HBy.out).1 h).1; rw [← HRR.out, hm] at this; cases this)
      clear hm b6 hJ6 bf
      go_wp2_with (refine wpList_store_row rfl _ _ _ rfl w.heap.size (iv zr) rfl rfl 23 (iv zr) h60 infoRec rfl (iv_one _) ?_)
      refine bodyPost_ret (v := .tuple #[.agg (iv zr), .int .i64 2]) ?_ rfl ⟨HT.out HG.out, below_setRow HBf.out (Nat.le_refl _) _⟩
      exact results_cr2 (p := 2) (u := 3) rfl _ _ w.heap.size (iv zr) rfl (load_rec (setRow_heap _ _ _ _ _ _ h60) rfl)
  by_cases g2 : x0 = 2
  · have hk := g2
    clear g2 g1
    subst hk
    go_wp2_with fail
    rw [← HU5.out]
    clear c5 f5 cK
    refine (rtake_num w2 w1.heap.size (w1.heap.size + 1) w1.heap.size S6 ⟨2, x1, x2, x3, x4, x5, 0, 0, 0, 0, ⟨#[]⟩⟩ 4 u5 HJ6.out hpq (by omega)).mono ?_
    rintro e v6 ⟨he, hJ⟩
    obtain ⟨x6, hx6⟩ : ∃ x, x = numA 4 S6 := ⟨_, rfl⟩
    obtain ⟨S7, hS7⟩ : ∃ x, x = numS 4 S6 := ⟨_, rfl⟩
    rw [← hx6] at he
    rw [← hS7] at hJ
    subst he
    have HX6 := hide hx6
    have HS7 := hide hS7
    have c6 : v6.cell? ⟨w1.heap.size + 1, 6, none⟩ = some (.int .i64 0) := hJ.cell 6
    have f6 := hJ.free 6
    have hK := TR.store (r' := ⟨2, x1, x2, x3, x4, x5, x6, 0, 0, 0, ⟨#[]⟩⟩) hJ hL hpq 6 (.int .i64 x6) rfl
    obtain ⟨u6, hu6⟩ : ∃ u, u = v6.setCell ⟨w1.heap.size + 1, 6, none⟩ (.int .i64 x6) := ⟨_, rfl⟩
    rw [← hu6] at hK
    have HJ7 := hide hK
    have HU6 := hide hu6
    clear hJ hK hu6 HJ6 hx6 hS7
    go_wp2_with fail
    rw [← HU6.out]
    clear c6 f6
    refine (rtake_num w2 w1.heap.size (w1.heap.size + 1) w1.heap.size S7 ⟨2, x1, x2, x3, x4, x5, x6, 0, 0, 0, ⟨#[]⟩⟩ 2 u6 HJ7.out hpq (by omega)).mono ?_
    rintro e v7 ⟨he, hJ⟩
    obtain ⟨x7, hx7⟩ : ∃ x, x = numA 2 S7 := ⟨_, rfl⟩
    obtain ⟨S8, hS8⟩ : ∃ x, x = numS 2 S7 := ⟨_, rfl⟩
    rw [← hx7] at he
    rw [← hS8] at hJ
    subst he
    have HX7 := hide hx7
    have HS8 := hide hS8
    have c7 : v7.cell? ⟨w1.heap.size + 1, 7, none⟩ = some (.int .i64 0) := hJ.cell 7
    have f7 := hJ.free 7
    have hK := TR.store (r' := ⟨2, x1, x2, x3, x4, x5, x6, x7, 0, 0, ⟨#[]⟩⟩) hJ hL hpq 7 (.int .i64 x7) rfl
    obtain ⟨u7, hu7⟩ : ∃ u, u = v7.setCell ⟨w1.heap.size + 1, 7, none⟩ (.int .i64 x7) := ⟨_, rfl⟩
    rw [← hu7] at hK
    have HJ8 := hide hK
    have HU7 := hide hu7
    clear hJ hK hu7 HJ7 hx7 hS8
    go_wp2_with fail
    rw [← HU7.out]
    clear c7 f7
    refine (rtake_num w2 w1.heap.size (w1.heap.size + 1) w1.heap.size S8 ⟨2, x1, x2, x3, x4, x5, x6, x7, 0, 0, ⟨#[]⟩⟩ 2 u7 HJ8.out hpq (by omega)).mono ?_
    rintro e v8 ⟨he, hJ⟩
    obtain ⟨x8, hx8⟩ : ∃ x, x = numA 2 S8 := ⟨_, rfl⟩
    obtain ⟨S9, hS9⟩ : ∃ x, x = numS 2 S8 := ⟨_, rfl⟩
    rw [← hx8] at he
    rw [← hS9] at hJ
    subst he
    have HX8 := hide hx8
    have HS9 := hide hS9
    have c8 : v8.cell? ⟨w1.heap.size + 1, 8, none⟩ = some (.int .i64 0) := hJ.cell 8
    have f8 := hJ.free 8
    have hK := TR.store (r' := ⟨2, x1, x2, x3, x4, x5, x6, x7, x8, 0, ⟨#[]⟩⟩) hJ hL hpq 8 (.int .i64 x8) rfl
    obtain ⟨u8, hu8⟩ : ∃ u, u = v8.setCell ⟨w1.heap.size + 1, 8, none⟩ (.int .i64 x8) := ⟨_, rfl⟩
    rw [← hu8] at hK
    have HJ9 := hide hK
    have HU8 := hide hu8
    clear hJ hK hu8 HJ8 hx8 hS9
    go_wp2_with fail
    rw [← HU8.out]
    clear c8 f8
    refine (rtake_num w2 w1.heap.size (w1.heap.size + 1) w1.heap.size S9 ⟨2, x1, x2, x3, x4, x5, x6, x7, x8, 0, ⟨#[]⟩⟩ 1 u8 HJ9.out hpq (by omega)).mono ?_
    rintro e v9 ⟨he, hJ⟩
    obtain ⟨x9, hx9⟩ : ∃ x, x = numA 1 S9 := ⟨_, rfl⟩
    obtain ⟨S10, hS10⟩ : ∃ x, x = numS 1 S9 := ⟨_, rfl⟩
    rw [← hx9] at he
    rw [← hS10] at hJ
    subst he
    have HX9 := hide hx9
    have HS10 := hide hS10
    have c9 : v9.cell? ⟨w1.heap.size + 1, 9, none⟩ = some (.int .i64 0) := hJ.cell 9
    have f9 := hJ.free 9
    have hK := TR.store (r' := ⟨2, x1, x2, x3, x4, x5, x6, x7, x8, x9, ⟨#[]⟩⟩) hJ hL hpq 9 (.int .i64 x9) rfl
    obtain ⟨u9, hu9⟩ : ∃ u, u = v9.setCell ⟨w1.heap.size + 1, 9, none⟩ (.int .i64 x9) := ⟨_, rfl⟩
    rw [← hu9] at hK
    have HJ10 := hide hK
    have HU9 := hide hu9
    clear hJ hK hu9 HJ9 hx9 hS10
    have eT : readR zs = ⟨2, x1, x2, x3, x4, x5, x6, x7, x8, x9, ⟨#[]⟩⟩ := by unfold readR ownR; rw [ER.out, ES.out]; rw [if_neg (by show ¬ (2 : Int) = 1; decide), if_pos rfl]; rw [← HS7.out, ← HS8.out, ← HS9.out, ← HX6.out, ← HX7.out, ← HX8.out, ← HX9.out]
    obtain ⟨R, hR⟩ : ∃ R, R = readR zs := ⟨_, rfl⟩
    rw [← eT, ← hR] at HJ10
    have hxu := HJ10.out.2.1
    rw [← hR] at HSz
    have HRP := hide (fun w => refIPut_any R w HSz.out)
    have HRR := hide hR
    clear eT hR
    go_wp2_with (first
      | (rw [← HU9.out]; refine wpList_load_rec (by rfl) _ rfl (w1.heap.size + 1) rfl 23 (iv R) (0, 0) hxu rfl ?_))
    refine (HRP.out u9).mono ?_
    rintro r w6 (⟨hm, aop, cp, rfl, hbp, b6⟩ | ⟨hm, rfl, b6⟩)
    · have hJ6 := TR.below HJ10.out b6
      obtain ⟨h60, bf⟩ := HR0.out w6 _ _ hJ6
      have h61 := hJ6.2.1
      have s1 := str_any hbp cp
      have s2 := str_any (HBs.out.below bf) c
      have hse := str_eq hbp.bytes HBy.out
      have HBf := hide bf
      generalize (putB R).length = mp at *
      by_cases he : putB R = zs
      · have HG : Hid (good zs = true) := by show _ = _; rw [good_iff HBy.out, ← HRR.out]; exact ⟨hm, he⟩
        rw [decide_eq_true he] at hse
        generalize strOfNums (putB R) = T1 at *
        generalize strOfNums zs = T2 at *
        clear he hm hbp b6 hJ6 bf
        go_wp2_with (first
          | refine wpList_load_rec (by rfl) _ rfl (w1.heap.size + 1) rfl 23 (iv R) (0, 0) h61 rfl ?_
          | refine wpList_store_row rfl _ _ _ rfl w.heap.size (iv R) rfl rfl 23 (iv zr) h60 infoRec rfl (iv_one _) ?_)
        refine bodyPost_ret (v := .tuple #[.agg (iv R), .int .i64 0]) ?_ rfl ⟨by rw [← HTy.out HG.out, HRR.out], below_setRow HBf.out (Nat.le_refl _) _⟩
        exact results_cr2 (p := 2) (u := 3) rfl _ _ w.heap.size (iv R) rfl (load_rec (setRow_heap _ _ _ _ _ _ h60) rfl)
      · have HG : Hid (good zs = false) := Bool.eq_false_iff.2 (fun h => he (by have := ((good_iff HBy.out).1 h).2; rw [← HRR.out] at this; exact this))
        rw [decide_eq_false he] at hse
        generalize strOfNums (putB R) = T1 at *
        generalize strOfNums zs = T2 at *
        clear he hm hbp b6 hJ6 bf h61
        go_wp2_with (refine wpList_store_row rfl _ _ _ rfl w.heap.size (iv zr) rfl rfl 23 (iv zr) h60 infoRec rfl (iv_one _) ?_)
        refine bodyPost_ret (v := .tuple #[.agg (iv zr), .int .i64 2]) ?_ rfl ⟨HT.out HG.out, below_setRow HBf.out (Nat.le_refl _) _⟩
        exact results_cr2 (p := 2) (u := 3) rfl _ _ w.heap.size (iv zr) rfl (load_rec (setRow_heap _ _ _ _ _ _ h60) rfl)
    · have hJ6 := TR.below HJ10.out b6
      obtain ⟨h60, bf⟩ := HR0.out w6 _ _ hJ6
      have HBf := hide bf
      have HG : Hid (good zs = false) := Bool.eq_false_iff.2 (fun h => by have := ((good_iff HBy.out).1 h).1; rw [← HRR.out, hm] at this; cases this)
      clear hm b6 hJ6 bf
      go_wp2_with (refine wpList_store_row rfl _ _ _ rfl w.heap.size (iv zr) rfl rfl 23 (iv zr) h60 infoRec rfl (iv_one _) ?_)
      refine bodyPost_ret (v := .tuple #[.agg (iv zr), .int .i64 2]) ?_ rfl ⟨HT.out HG.out, below_setRow HBf.out (Nat.le_refl _) _⟩
      exact results_cr2 (p := 2) (u := 3) rfl _ _ w.heap.size (iv zr) rfl (load_rec (setRow_heap _ _ _ _ _ _ h60) rfl)
  by_cases g3 : x0 = 3
  · have hk := g3
    clear g3 g2 g1
    subst hk
    go_wp2_with fail
    rw [← HU5.out]
    clear c5 f5 cK
    refine (rtake_text w2 w1.heap.size (w1.heap.size + 1) w1.heap.size S6 ⟨3, x1, x2, x3, x4, x5, 0, 0, 0, 0, ⟨#[]⟩⟩ u5 HJ6.out hpq HB6.out).mono ?_
    rintro e v6 ⟨he, hJ⟩
    obtain ⟨x6, hx6⟩ : ∃ x, x = strOfNums (txtA S6) := ⟨_, rfl⟩
    obtain ⟨S7, hS7⟩ : ∃ x, x = txtS S6 := ⟨_, rfl⟩
    rw [← hx6] at he
    rw [← hS7] at hJ
    subst he
    have HX6 := hide hx6
    have HS7 := hide hS7
    have c6 : v6.cell? ⟨w1.heap.size + 1, 10, none⟩ = some (.string ⟨#[]⟩) := hJ.cell 10
    have f6 := hJ.free 10
    have hK := TR.store (r' := ⟨3, x1, x2, x3, x4, x5, 0, 0, 0, 0, x6⟩) hJ hL hpq 10 (.string x6) rfl
    obtain ⟨u6, hu6⟩ : ∃ u, u = v6.setCell ⟨w1.heap.size + 1, 10, none⟩ (.string x6) := ⟨_, rfl⟩
    rw [← hu6] at hK
    have HJ7 := hide hK
    have HU6 := hide hu6
    clear hJ hK hu6 HJ6 hx6 hS7
    have eT : readR zs = ⟨3, x1, x2, x3, x4, x5, 0, 0, 0, 0, x6⟩ := by unfold readR ownR; rw [ER.out, ES.out]; rw [if_neg (by show ¬ (3 : Int) = 1; decide), if_neg (by show ¬ (3 : Int) = 2; decide), if_pos rfl]; rw [← HX6.out]
    obtain ⟨R, hR⟩ : ∃ R, R = readR zs := ⟨_, rfl⟩
    rw [← eT, ← hR] at HJ7
    have hxu := HJ7.out.2.1
    rw [← hR] at HSz
    have HRP := hide (fun w => refIPut_any R w HSz.out)
    have HRR := hide hR
    clear eT hR
    go_wp2_with (first
      | (rw [← HU6.out]; refine wpList_load_rec (by rfl) _ rfl (w1.heap.size + 1) rfl 23 (iv R) (0, 0) hxu rfl ?_))
    refine (HRP.out u6).mono ?_
    rintro r w6 (⟨hm, aop, cp, rfl, hbp, b6⟩ | ⟨hm, rfl, b6⟩)
    · have hJ6 := TR.below HJ7.out b6
      obtain ⟨h60, bf⟩ := HR0.out w6 _ _ hJ6
      have h61 := hJ6.2.1
      have s1 := str_any hbp cp
      have s2 := str_any (HBs.out.below bf) c
      have hse := str_eq hbp.bytes HBy.out
      have HBf := hide bf
      generalize (putB R).length = mp at *
      by_cases he : putB R = zs
      · have HG : Hid (good zs = true) := by show _ = _; rw [good_iff HBy.out, ← HRR.out]; exact ⟨hm, he⟩
        rw [decide_eq_true he] at hse
        generalize strOfNums (putB R) = T1 at *
        generalize strOfNums zs = T2 at *
        clear he hm hbp b6 hJ6 bf
        go_wp2_with (first
          | refine wpList_load_rec (by rfl) _ rfl (w1.heap.size + 1) rfl 23 (iv R) (0, 0) h61 rfl ?_
          | refine wpList_store_row rfl _ _ _ rfl w.heap.size (iv R) rfl rfl 23 (iv zr) h60 infoRec rfl (iv_one _) ?_)
        refine bodyPost_ret (v := .tuple #[.agg (iv R), .int .i64 0]) ?_ rfl ⟨by rw [← HTy.out HG.out, HRR.out], below_setRow HBf.out (Nat.le_refl _) _⟩
        exact results_cr2 (p := 2) (u := 3) rfl _ _ w.heap.size (iv R) rfl (load_rec (setRow_heap _ _ _ _ _ _ h60) rfl)
      · have HG : Hid (good zs = false) := Bool.eq_false_iff.2 (fun h => he (by have := ((good_iff HBy.out).1 h).2; rw [← HRR.out] at this; exact this))
        rw [decide_eq_false he] at hse
        generalize strOfNums (putB R) = T1 at *
        generalize strOfNums zs = T2 at *
        clear he hm hbp b6 hJ6 bf h61
        go_wp2_with (refine wpList_store_row rfl _ _ _ rfl w.heap.size (iv zr) rfl rfl 23 (iv zr) h60 infoRec rfl (iv_one _) ?_)
        refine bodyPost_ret (v := .tuple #[.agg (iv zr), .int .i64 2]) ?_ rfl ⟨HT.out HG.out, below_setRow HBf.out (Nat.le_refl _) _⟩
        exact results_cr2 (p := 2) (u := 3) rfl _ _ w.heap.size (iv zr) rfl (load_rec (setRow_heap _ _ _ _ _ _ h60) rfl)
    · have hJ6 := TR.below HJ7.out b6
      obtain ⟨h60, bf⟩ := HR0.out w6 _ _ hJ6
      have HBf := hide bf
      have HG : Hid (good zs = false) := Bool.eq_false_iff.2 (fun h => by have := ((good_iff HBy.out).1 h).1; rw [← HRR.out, hm] at this; cases this)
      clear hm b6 hJ6 bf
      go_wp2_with (refine wpList_store_row rfl _ _ _ rfl w.heap.size (iv zr) rfl rfl 23 (iv zr) h60 infoRec rfl (iv_one _) ?_)
      refine bodyPost_ret (v := .tuple #[.agg (iv zr), .int .i64 2]) ?_ rfl ⟨HT.out HG.out, below_setRow HBf.out (Nat.le_refl _) _⟩
      exact results_cr2 (p := 2) (u := 3) rfl _ _ w.heap.size (iv zr) rfl (load_rec (setRow_heap _ _ _ _ _ _ h60) rfl)
  have k1 : (x0 == 1) = false := by simpa using g1
  have k2 : (x0 == 2) = false := by simpa using g2
  have k3 : (x0 == 3) = false := by simpa using g3
  have eT : readR zs = ⟨x0, x1, x2, x3, x4, x5, 0, 0, 0, 0, ⟨#[]⟩⟩ := by unfold readR ownR; rw [ER.out, ES.out]; rw [if_neg g1, if_neg g2, if_neg g3]
  obtain ⟨R, hR⟩ : ∃ R, R = readR zs := ⟨_, rfl⟩
  rw [← eT, ← hR] at HJ6
  have hxu := HJ6.out.2.1
  rw [← hR] at HSz
  have HRP := hide (fun w => refIPut_any R w HSz.out)
  have HRR := hide hR
  clear eT hR g1 g2 g3
  go_wp2_with (first
    | (rw [← HU5.out]; refine wpList_load_rec (by rfl) _ rfl (w1.heap.size + 1) rfl 23 (iv R) (0, 0) hxu rfl ?_))
  refine (HRP.out u5).mono ?_
  rintro r w6 (⟨hm, aop, cp, rfl, hbp, b6⟩ | ⟨hm, rfl, b6⟩)
  · have hJ6 := TR.below HJ6.out b6
    obtain ⟨h60, bf⟩ := HR0.out w6 _ _ hJ6
    have h61 := hJ6.2.1
    have s1 := str_any hbp cp
    have s2 := str_any (HBs.out.below bf) c
    have hse := str_eq hbp.bytes HBy.out
    have HBf := hide bf
    generalize (putB R).length = mp at *
    by_cases he : putB R = zs
    · have HG : Hid (good zs = true) := by show _ = _; rw [good_iff HBy.out, ← HRR.out]; exact ⟨hm, he⟩
      rw [decide_eq_true he] at hse
      generalize strOfNums (putB R) = T1 at *
      generalize strOfNums zs = T2 at *
      clear he hm hbp b6 hJ6 bf
      go_wp2_with (first
        | refine wpList_load_rec (by rfl) _ rfl (w1.heap.size + 1) rfl 23 (iv R) (0, 0) h61 rfl ?_
        | refine wpList_store_row rfl _ _ _ rfl w.heap.size (iv R) rfl rfl 23 (iv zr) h60 infoRec rfl (iv_one _) ?_)
      refine bodyPost_ret (v := .tuple #[.agg (iv R), .int .i64 0]) ?_ rfl ⟨by rw [← HTy.out HG.out, HRR.out], below_setRow HBf.out (Nat.le_refl _) _⟩
      exact results_cr2 (p := 2) (u := 3) rfl _ _ w.heap.size (iv R) rfl (load_rec (setRow_heap _ _ _ _ _ _ h60) rfl)
    · have HG : Hid (good zs = false) := Bool.eq_false_iff.2 (fun h => he (by have := ((good_iff HBy.out).1 h).2; rw [← HRR.out] at this; exact this))
      rw [decide_eq_false he] at hse
      generalize strOfNums (putB R) = T1 at *
      generalize strOfNums zs = T2 at *
      clear he hm hbp b6 hJ6 bf h61
      go_wp2_with (refine wpList_store_row rfl _ _ _ rfl w.heap.size (iv zr) rfl rfl 23 (iv zr) h60 infoRec rfl (iv_one _) ?_)
      refine bodyPost_ret (v := .tuple #[.agg (iv zr), .int .i64 2]) ?_ rfl ⟨HT.out HG.out, below_setRow HBf.out (Nat.le_refl _) _⟩
      exact results_cr2 (p := 2) (u := 3) rfl _ _ w.heap.size (iv zr) rfl (load_rec (setRow_heap _ _ _ _ _ _ h60) rfl)
  · have hJ6 := TR.below HJ6.out b6
    obtain ⟨h60, bf⟩ := HR0.out w6 _ _ hJ6
    have HBf := hide bf
    have HG : Hid (good zs = false) := Bool.eq_false_iff.2 (fun h => by have := ((good_iff HBy.out).1 h).1; rw [← HRR.out, hm] at this; cases this)
    clear hm b6 hJ6 bf
    go_wp2_with (refine wpList_store_row rfl _ _ _ rfl w.heap.size (iv zr) rfl rfl 23 (iv zr) h60 infoRec rfl (iv_one _) ?_)
    refine bodyPost_ret (v := .tuple #[.agg (iv zr), .int .i64 2]) ?_ rfl ⟨HT.out HG.out, below_setRow HBf.out (Nat.le_refl _) _⟩
    exact results_cr2 (p := 2) (u := 3) rfl _ _ w.heap.size (iv zr) rfl (load_rec (setRow_heap _ _ _ _ _ _ h60) rfl)
end Go.Proofs.Ytmhgjilpgbkaaaa

/- Layer 9: Take, by the program. -/
import Derived.Test.YtmhgjilpgbkaaaaInoKind
namespace Go.Proofs.Ytmhgjilpgbkaaaa
set_option linter.unusedVariables false
open Go.RowKit Go.Maps
open Cur
open Ino

namespace Ino
/-- No record. -/
def zr : Rec := ⟨0, 0, 0, 0, 0, 0, 0, 0, 0, 0, ⟨#[]⟩⟩
theorem setRow_fr {S : Nat → Prop} {a b : World} (h : Fr S a b) (q : Nat) (cs : Array Value) (hp : q < a.heap.size → S q) : Fr S a (b.setRow q cs) :=
  ⟨h.os, h.tape, h.output, by simpa [World.setRow] using h.size, fun i hi hn => (setRow_other b q i cs (fun e => by subst e; exact hn (hp hi))).trans (h.block i hi hn)⟩
/-- The blocks p and q alone. -/
def PQ (p q : Nat) : Nat → Prop := fun k => k = p ∨ k = q
/-- A reader at p and a record at q, since W. -/
def TJ (W : World) (p q L : Nat) (s : St) (r : Rec) (w : World) : Prop := RdP w p L s ∧ w.heap[q]? = some (.cells (iv r) 23 (0, 0)) ∧ Fr (PQ p q) W w
theorem TJ.cell {W w : World} {p q L : Nat} {s : St} {r : Rec} (h : TJ W p q L s r w) (k : Nat) : w.cell? ⟨q, k, none⟩ = (iv r)[k]? := cell_of_row _ _ _ _ _ _ h.2.1
theorem TJ.free {W w : World} {p q L : Nat} {s : St} {r : Rec} (h : TJ W p q L s r w) (k : Nat) : w.frozen? ⟨q, k, none⟩ = false := by simp [World.frozen?, h.2.1]
theorem TJ.store {W w : World} {p q L : Nat} {s : St} {r r' : Rec} (h : TJ W p q L s r w) (hq : L ≤ q) (hpq : p ≠ q) (k : Nat) (x : Value) (e : (iv r).setIfInBounds k x = iv r') : TJ W p q L s r' (w.setCell ⟨q, k, none⟩ x) := by
  obtain ⟨h1, h2, h3⟩ := h
  refine ⟨h1.above ((Fr.refl (One q) w).set (p := ⟨q, k, none⟩) x (fun _ => rfl)) (fun i hi => by have : i = q := hi; omega) (fun hi => hpq hi), ?_, h3.set (p := ⟨q, k, none⟩) x (fun _ => .inr rfl)⟩
  rw [heap_setCell_self h2, e]
theorem TJ.call {W w w' : World} {p q L : Nat} {s s' : St} {r : Rec} (h : TJ W p q L s r w) (hpq : p ≠ q) (hR : RdP w' p L s') (hF : Fr (One p) w w') : TJ W p q L s' r w' :=
  ⟨hR, (hF.block _ (heap_lt h.2.1) (fun e => hpq (Eq.symm e))).trans h.2.1, h.2.2.trans hF (fun i _ hi => .inl hi)⟩
theorem TJ.below {W w w' : World} {p q L : Nat} {s : St} {r : Rec} (h : TJ W p q L s r w) (hb : Below w.heap.size w w') : TJ W p q L s r w' :=
  ⟨h.1.below hb, (hb.block _ (heap_lt h.2.1)).trans h.2.1, h.2.2.then (Fr.of_below hb)⟩
end Ino
theorem take_num (W : World) (p q L : Nat) (s : St) (r : Rec) (n : Int) (w : World) (h : TJ W p q L s r w) (hpq : p ≠ q) (hn : -9223372036854775808 ≤ n ∧ n ≤ 9223372036854775807) :
    Calls Try.prog 32 #[.pointer (some ⟨p, 0, none⟩), .int .i64 n] w fun e w' => e = .returned (.int .i64 (numA n s)) ∧ TJ W p q L (numS n s) r w' :=
  (Num_any p L n s w h.1 hn).mono (by rintro e w' ⟨h1, h2, h3⟩; exact ⟨h1, h.call hpq h2 h3⟩)
theorem take_text (W : World) (p q L : Nat) (s : St) (r : Rec) (w : World) (h : TJ W p q L s r w) (hpq : p ≠ q) :
    Calls Try.prog 69 #[.pointer (some ⟨p, 0, none⟩)] w fun e w' => e = .returned (.string (strOfNums (txtA s))) ∧ TJ W p q L (txtS s) r w' :=
  (Text_any p L s w h.1).mono (by rintro e w' ⟨h1, h2, h3⟩; exact ⟨h1, h.call hpq h2 h3⟩)
/-- What a kind's own function of reading does. -/
def ITakes (k : Int) (fn : Nat) : Prop := ∀ (p L : Nat) (s : St) (r : Rec) (w : World), r.kind = k → RdP w p L s →
  Calls Try.prog fn #[.pointer (some ⟨p, 0, none⟩), .agg (iv r)] w fun e w' => e = .returned (.agg (iv (ownR r s))) ∧ RdP w' p L (ownS r.kind s) ∧ Fr (One p) w w'
set_option maxRecDepth 100000 in
set_option maxHeartbeats 2000000 in
theorem takeDir_any : ITakes 1 48 := by
  intro p L s r w hk hR
  have hp := hR.lt
  have hL : L ≤ w.heap.size := by obtain ⟨_, _, _, _, _, _, _, _, _, h7, _⟩ := hR; exact h7
  obtain ⟨w1, hw1⟩ : ∃ w1, w1 = (w.alloc (.cells (iv r) 23)).alloc (.cells (iv zr) 23) := ⟨_, rfl⟩
  have b1 : Below w.heap.size w w1 := by rw [hw1]; exact (below_one _ _).alloc (by simp) _
  have h1 : w1.heap[w.heap.size]? = some (.cells (iv r) 23 (0, 0)) := by rw [hw1, Below.heap_alloc _ _ _ (by simp)]; exact heap_new rfl
  have h2 : w1.heap[w.heap.size + 1]? = some (.cells (iv zr) 23 (0, 0)) := by rw [hw1]; exact heap_new (by simp)
  have hpq : p ≠ w.heap.size := by omega
  have HJ0 : Hid (TJ w1 p w.heap.size L s r w1) := ⟨hR.below b1, h1, Fr.refl _ _⟩
  have HB1 := hide b1
  have H2 := hide h2
  have HW1 := hide hw1
  obtain ⟨R, hRr⟩ : ∃ R, R = ownR r s := ⟨_, rfl⟩
  rw [← hRr]
  obtain ⟨kind, mode, uid, gid, links, xattr, start, size, frag, off, target⟩ := r
  simp only at hk
  subst hk
  have HRr : Hid (R = ⟨1, mode, uid, gid, links, xattr, (numA 4 s), (numA 4 (numS 4 s)), frag, off, target⟩) := by show R = _; rw [hRr]; unfold ownR; rw [if_pos rfl]
  have HS : Hid (ownS 1 s = numS 4 (numS 4 s)) := by show ownS 1 s = _; unfold ownS; rw [if_pos rfl]
  clear hw1 b1 h1 h2 hR hRr
  unfold iv zr at HW1
  unfold iv
  simp only at HW1 HJ0 HRr HS ⊢
  go_enter Try.func48, Try.ntmps48
  go_wp2_with fail
  rw [← HW1.out]
  refine (take_num w1 p w.heap.size L s ⟨1, mode, uid, gid, links, xattr, start, size, frag, off, target⟩ 4 w1 HJ0.out hpq (by omega)).mono ?_
  rintro e v0 ⟨rfl, hJ⟩
  have c0 : v0.cell? ⟨w.heap.size, 6, none⟩ = some (.int .i64 start) := hJ.cell 6
  have f0 := hJ.free 6
  have hK := hJ.store (r' := ⟨1, mode, uid, gid, links, xattr, (numA 4 s), size, frag, off, target⟩) hL hpq 6 (.int .i64 (numA 4 s)) rfl
  obtain ⟨u0, hu0⟩ : ∃ u, u = v0.setCell ⟨w.heap.size, 6, none⟩ (.int .i64 (numA 4 s)) := ⟨_, rfl⟩
  rw [← hu0] at hK
  have HJ1 := hide hK
  have HU0 := hide hu0
  clear hJ hK hu0 HJ0
  go_wp2_with fail
  rw [← HU0.out]
  clear c0 f0
  refine (take_num w1 p w.heap.size L (numS 4 s) ⟨1, mode, uid, gid, links, xattr, (numA 4 s), size, frag, off, target⟩ 4 u0 HJ1.out hpq (by omega)).mono ?_
  rintro e v1 ⟨rfl, hJ⟩
  have c1 : v1.cell? ⟨w.heap.size, 7, none⟩ = some (.int .i64 size) := hJ.cell 7
  have f1 := hJ.free 7
  have hK := hJ.store (r' := ⟨1, mode, uid, gid, links, xattr, (numA 4 s), (numA 4 (numS 4 s)), frag, off, target⟩) hL hpq 7 (.int .i64 (numA 4 (numS 4 s))) rfl
  obtain ⟨u1, hu1⟩ : ∃ u, u = v1.setCell ⟨w.heap.size, 7, none⟩ (.int .i64 (numA 4 (numS 4 s))) := ⟨_, rfl⟩
  rw [← hu1] at hK
  have HJ2 := hide hK
  have HU1 := hide hu1
  clear hJ hK hu1 HJ1
  rw [← HRr.out] at HJ2
  have h3 : u1.heap[w.heap.size + 1]? = some (.cells (iv zr) 23 (0, 0)) := (HJ2.out.2.2.block _ (heap_lt H2.out) (fun hx => by rcases hx with hx | hx <;> omega)).trans H2.out
  have h4 := HJ2.out.2.1
  go_wp2_with (first
    | (rw [← HU1.out]; refine wpList_load_row rfl _ _ rfl w.heap.size rfl 23 (iv R) (0, 0) _ h4 Try.underlying23 rfl infoRec ?_)
    | refine wpList_store_row rfl _ _ _ rfl (w.heap.size + 1) (iv R) rfl rfl 23 (iv zr) h3 infoRec rfl (iv_one R) ?_)
  refine bodyPost_ret (v := .agg (iv R)) ?_ rfl ⟨rfl, ?_, ?_⟩
  · exact results_cell_row rfl _ _ (w.heap.size + 1) 23 (iv R) (0, 0) _ rfl (setRow_heap _ _ _ _ _ _ h3) Try.underlying23 rfl infoRec
  · rw [HS.out]
    exact HJ2.out.1.above (setRow_fr (Fr.refl (One (w.heap.size + 1)) _) _ _ (fun _ => rfl)) (fun i hi => by have : i = w.heap.size + 1 := hi; omega) (fun hi => by have : p = w.heap.size + 1 := hi; omega)
  · refine setRow_fr ((Fr.of_below (S := One p) HB1.out).trans HJ2.out.2.2 (fun i hi hx => ?_)) _ _ (fun hx => by omega)
    rcases hx with hx | hx
    · exact hx
    · omega
set_option maxRecDepth 100000 in
set_option maxHeartbeats 2000000 in
theorem takeFile_any : ITakes 2 52 := by
  intro p L s r w hk hR
  have hp := hR.lt
  have hL : L ≤ w.heap.size := by obtain ⟨_, _, _, _, _, _, _, _, _, h7, _⟩ := hR; exact h7
  obtain ⟨w1, hw1⟩ : ∃ w1, w1 = (w.alloc (.cells (iv r) 23)).alloc (.cells (iv zr) 23) := ⟨_, rfl⟩
  have b1 : Below w.heap.size w w1 := by rw [hw1]; exact (below_one _ _).alloc (by simp) _
  have h1 : w1.heap[w.heap.size]? = some (.cells (iv r) 23 (0, 0)) := by rw [hw1, Below.heap_alloc _ _ _ (by simp)]; exact heap_new rfl
  have h2 : w1.heap[w.heap.size + 1]? = some (.cells (iv zr) 23 (0, 0)) := by rw [hw1]; exact heap_new (by simp)
  have hpq : p ≠ w.heap.size := by omega
  have HJ0 : Hid (TJ w1 p w.heap.size L s r w1) := ⟨hR.below b1, h1, Fr.refl _ _⟩
  have HB1 := hide b1
  have H2 := hide h2
  have HW1 := hide hw1
  obtain ⟨R, hRr⟩ : ∃ R, R = ownR r s := ⟨_, rfl⟩
  rw [← hRr]
  obtain ⟨kind, mode, uid, gid, links, xattr, start, size, frag, off, target⟩ := r
  simp only at hk
  subst hk
  have HRr : Hid (R = ⟨2, mode, uid, gid, links, xattr, (numA 4 s), (numA 2 (numS 4 s)), (numA 2 (numS 2 (numS 4 s))), (numA 1 (numS 2 (numS 2 (numS 4 s)))), target⟩) := by show R = _; rw [hRr]; unfold ownR; rw [if_neg (by show ¬ (2 : Int) = 1; decide), if_pos rfl]
  have HS : Hid (ownS 2 s = numS 1 (numS 2 (numS 2 (numS 4 s)))) := by show ownS 2 s = _; unfold ownS; rw [if_neg (by show ¬ (2 : Int) = 1; decide), if_pos rfl]
  clear hw1 b1 h1 h2 hR hRr
  unfold iv zr at HW1
  unfold iv
  simp only at HW1 HJ0 HRr HS ⊢
  go_enter Try.func52, Try.ntmps52
  go_wp2_with fail
  rw [← HW1.out]
  refine (take_num w1 p w.heap.size L s ⟨2, mode, uid, gid, links, xattr, start, size, frag, off, target⟩ 4 w1 HJ0.out hpq (by omega)).mono ?_
  rintro e v0 ⟨rfl, hJ⟩
  have c0 : v0.cell? ⟨w.heap.size, 6, none⟩ = some (.int .i64 start) := hJ.cell 6
  have f0 := hJ.free 6
  have hK := hJ.store (r' := ⟨2, mode, uid, gid, links, xattr, (numA 4 s), size, frag, off, target⟩) hL hpq 6 (.int .i64 (numA 4 s)) rfl
  obtain ⟨u0, hu0⟩ : ∃ u, u = v0.setCell ⟨w.heap.size, 6, none⟩ (.int .i64 (numA 4 s)) := ⟨_, rfl⟩
  rw [← hu0] at hK
  have HJ1 := hide hK
  have HU0 := hide hu0
  clear hJ hK hu0 HJ0
  go_wp2_with fail
  rw [← HU0.out]
  clear c0 f0
  refine (take_num w1 p w.heap.size L (numS 4 s) ⟨2, mode, uid, gid, links, xattr, (numA 4 s), size, frag, off, target⟩ 2 u0 HJ1.out hpq (by omega)).mono ?_
  rintro e v1 ⟨rfl, hJ⟩
  have c1 : v1.cell? ⟨w.heap.size, 7, none⟩ = some (.int .i64 size) := hJ.cell 7
  have f1 := hJ.free 7
  have hK := hJ.store (r' := ⟨2, mode, uid, gid, links, xattr, (numA 4 s), (numA 2 (numS 4 s)), frag, off, target⟩) hL hpq 7 (.int .i64 (numA 2 (numS 4 s))) rfl
  obtain ⟨u1, hu1⟩ : ∃ u, u = v1.setCell ⟨w.heap.size, 7, none⟩ (.int .i64 (numA 2 (numS 4 s))) := ⟨_, rfl⟩
  rw [← hu1] at hK
  have HJ2 := hide hK
  have HU1 := hide hu1
  clear hJ hK hu1 HJ1
  go_wp2_with fail
  rw [← HU1.out]
  clear c1 f1
  refine (take_num w1 p w.heap.size L (numS 2 (numS 4 s)) ⟨2, mode, uid, gid, links, xattr, (numA 4 s), (numA 2 (numS 4 s)), frag, off, target⟩ 2 u1 HJ2.out hpq (by omega)).mono ?_
  rintro e v2 ⟨rfl, hJ⟩
  have c2 : v2.cell? ⟨w.heap.size, 8, none⟩ = some (.int .i64 frag) := hJ.cell 8
  have f2 := hJ.free 8
  have hK := hJ.store (r' := ⟨2, mode, uid, gid, links, xattr, (numA 4 s), (numA 2 (numS 4 s)), (numA 2 (numS 2 (numS 4 s))), off, target⟩) hL hpq 8 (.int .i64 (numA 2 (numS 2 (numS 4 s)))) rfl
  obtain ⟨u2, hu2⟩ : ∃ u, u = v2.setCell ⟨w.heap.size, 8, none⟩ (.int .i64 (numA 2 (numS 2 (numS 4 s)))) := ⟨_, rfl⟩
  rw [← hu2] at hK
  have HJ3 := hide hK
  have HU2 := hide hu2
  clear hJ hK hu2 HJ2
  go_wp2_with fail
  rw [← HU2.out]
  clear c2 f2
  refine (take_num w1 p w.heap.size L (numS 2 (numS 2 (numS 4 s))) ⟨2, mode, uid, gid, links, xattr, (numA 4 s), (numA 2 (numS 4 s)), (numA 2 (numS 2 (numS 4 s))), off, target⟩ 1 u2 HJ3.out hpq (by omega)).mono ?_
  rintro e v3 ⟨rfl, hJ⟩
  have c3 : v3.cell? ⟨w.heap.size, 9, none⟩ = some (.int .i64 off) := hJ.cell 9
  have f3 := hJ.free 9
  have hK := hJ.store (r' := ⟨2, mode, uid, gid, links, xattr, (numA 4 s), (numA 2 (numS 4 s)), (numA 2 (numS 2 (numS 4 s))), (numA 1 (numS 2 (numS 2 (numS 4 s)))), target⟩) hL hpq 9 (.int .i64 (numA 1 (numS 2 (numS 2 (numS 4 s))))) rfl
  obtain ⟨u3, hu3⟩ : ∃ u, u = v3.setCell ⟨w.heap.size, 9, none⟩ (.int .i64 (numA 1 (numS 2 (numS 2 (numS 4 s))))) := ⟨_, rfl⟩
  rw [← hu3] at hK
  have HJ4 := hide hK
  have HU3 := hide hu3
  clear hJ hK hu3 HJ3
  rw [← HRr.out] at HJ4
  have h3 : u3.heap[w.heap.size + 1]? = some (.cells (iv zr) 23 (0, 0)) := (HJ4.out.2.2.block _ (heap_lt H2.out) (fun hx => by rcases hx with hx | hx <;> omega)).trans H2.out
  have h4 := HJ4.out.2.1
  go_wp2_with (first
    | (rw [← HU3.out]; refine wpList_load_row rfl _ _ rfl w.heap.size rfl 23 (iv R) (0, 0) _ h4 Try.underlying23 rfl infoRec ?_)
    | refine wpList_store_row rfl _ _ _ rfl (w.heap.size + 1) (iv R) rfl rfl 23 (iv zr) h3 infoRec rfl (iv_one R) ?_)
  refine bodyPost_ret (v := .agg (iv R)) ?_ rfl ⟨rfl, ?_, ?_⟩
  · exact results_cell_row rfl _ _ (w.heap.size + 1) 23 (iv R) (0, 0) _ rfl (setRow_heap _ _ _ _ _ _ h3) Try.underlying23 rfl infoRec
  · rw [HS.out]
    exact HJ4.out.1.above (setRow_fr (Fr.refl (One (w.heap.size + 1)) _) _ _ (fun _ => rfl)) (fun i hi => by have : i = w.heap.size + 1 := hi; omega) (fun hi => by have : p = w.heap.size + 1 := hi; omega)
  · refine setRow_fr ((Fr.of_below (S := One p) HB1.out).trans HJ4.out.2.2 (fun i hi hx => ?_)) _ _ (fun hx => by omega)
    rcases hx with hx | hx
    · exact hx
    · omega
set_option maxRecDepth 100000 in
set_option maxHeartbeats 2000000 in
theorem takeLink_any : ITakes 3 56 := by
  intro p L s r w hk hR
  have hp := hR.lt
  have hL : L ≤ w.heap.size := by obtain ⟨_, _, _, _, _, _, _, _, _, h7, _⟩ := hR; exact h7
  obtain ⟨w1, hw1⟩ : ∃ w1, w1 = (w.alloc (.cells (iv r) 23)).alloc (.cells (iv zr) 23) := ⟨_, rfl⟩
  have b1 : Below w.heap.size w w1 := by rw [hw1]; exact (below_one _ _).alloc (by simp) _
  have h1 : w1.heap[w.heap.size]? = some (.cells (iv r) 23 (0, 0)) := by rw [hw1, Below.heap_alloc _ _ _ (by simp)]; exact heap_new rfl
  have h2 : w1.heap[w.heap.size + 1]? = some (.cells (iv zr) 23 (0, 0)) := by rw [hw1]; exact heap_new (by simp)
  have hpq : p ≠ w.heap.size := by omega
  have HJ0 : Hid (TJ w1 p w.heap.size L s r w1) := ⟨hR.below b1, h1, Fr.refl _ _⟩
  have HB1 := hide b1
  have H2 := hide h2
  have HW1 := hide hw1
  obtain ⟨R, hRr⟩ : ∃ R, R = ownR r s := ⟨_, rfl⟩
  rw [← hRr]
  obtain ⟨kind, mode, uid, gid, links, xattr, start, size, frag, off, target⟩ := r
  simp only at hk
  subst hk
  have HRr : Hid (R = ⟨3, mode, uid, gid, links, xattr, start, size, frag, off, (strOfNums (txtA s))⟩) := by show R = _; rw [hRr]; unfold ownR; rw [if_neg (by show ¬ (3 : Int) = 1; decide), if_neg (by show ¬ (3 : Int) = 2; decide), if_pos rfl]
  have HS : Hid (ownS 3 s = txtS s) := by show ownS 3 s = _; unfold ownS; rw [if_neg (by show ¬ (3 : Int) = 1; decide), if_neg (by show ¬ (3 : Int) = 2; decide), if_pos rfl]
  clear hw1 b1 h1 h2 hR hRr
  unfold iv zr at HW1
  unfold iv
  simp only at HW1 HJ0 HRr HS ⊢
  go_enter Try.func56, Try.ntmps56
  go_wp2_with fail
  rw [← HW1.out]
  refine (take_text w1 p w.heap.size L s ⟨3, mode, uid, gid, links, xattr, start, size, frag, off, target⟩ w1 HJ0.out hpq).mono ?_
  rintro e v0 ⟨rfl, hJ⟩
  have c0 : v0.cell? ⟨w.heap.size, 10, none⟩ = some (.string target) := hJ.cell 10
  have f0 := hJ.free 10
  have hK := hJ.store (r' := ⟨3, mode, uid, gid, links, xattr, start, size, frag, off, (strOfNums (txtA s))⟩) hL hpq 10 (.string (strOfNums (txtA s))) rfl
  obtain ⟨u0, hu0⟩ : ∃ u, u = v0.setCell ⟨w.heap.size, 10, none⟩ (.string (strOfNums (txtA s))) := ⟨_, rfl⟩
  rw [← hu0] at hK
  have HJ1 := hide hK
  have HU0 := hide hu0
  clear hJ hK hu0 HJ0
  rw [← HRr.out] at HJ1
  have h3 : u0.heap[w.heap.size + 1]? = some (.cells (iv zr) 23 (0, 0)) := (HJ1.out.2.2.block _ (heap_lt H2.out) (fun hx => by rcases hx with hx | hx <;> omega)).trans H2.out
  have h4 := HJ1.out.2.1
  go_wp2_with (first
    | (rw [← HU0.out]; refine wpList_load_row rfl _ _ rfl w.heap.size rfl 23 (iv R) (0, 0) _ h4 Try.underlying23 rfl infoRec ?_)
    | refine wpList_store_row rfl _ _ _ rfl (w.heap.size + 1) (iv R) rfl rfl 23 (iv zr) h3 infoRec rfl (iv_one R) ?_)
  refine bodyPost_ret (v := .agg (iv R)) ?_ rfl ⟨rfl, ?_, ?_⟩
  · exact results_cell_row rfl _ _ (w.heap.size + 1) 23 (iv R) (0, 0) _ rfl (setRow_heap _ _ _ _ _ _ h3) Try.underlying23 rfl infoRec
  · rw [HS.out]
    exact HJ1.out.1.above (setRow_fr (Fr.refl (One (w.heap.size + 1)) _) _ _ (fun _ => rfl)) (fun i hi => by have : i = w.heap.size + 1 := hi; omega) (fun hi => by have : p = w.heap.size + 1 := hi; omega)
  · refine setRow_fr ((Fr.of_below (S := One p) HB1.out).trans HJ1.out.2.2 (fun i hi hx => ?_)) _ _ (fun hx => by omega)
    rcases hx with hx | hx
    · exact hx
    · omega
theorem kindTake (k : Int) (h : isKind k = true) : (∀ (args : Array Value) (w : World), (callFunc (kf k).take args).run Try.prog w = .ok (.enter (kf k).take args) w) ∧ ITakes k (kf k).take := by
  rcases kinds h with rfl | rfl | rfl
  · exact ⟨enters 48 Try.func48 (by kernel_rfl) rfl, takeDir_any⟩
  · exact ⟨enters 52 Try.func52 (by kernel_rfl) rfl, takeFile_any⟩
  · exact ⟨enters 56 Try.func56 (by kernel_rfl) rfl, takeLink_any⟩
/-- What Take answers. -/
def takR (zs : List Int) : Rec := if good zs = true then readR zs else zr
def takE (zs : List Int) : Int := if good zs = true then 0 else 2
set_option maxRecDepth 100000 in
set_option maxHeartbeats 4000000 in
theorem iTake_any (n c : Nat) (ao : Option Addr) (zs : List Int) (w : World) (hb : Bs w ao n zs) (hc : n ≤ c) (hnil : ao = none → c = 0) (hn : n ≤ 1000000) :
    Calls Try.prog 14 #[.slice ao n c] w fun e w' => e = .returned (.tuple #[.agg (iv (takR zs)), .int .i64 (takE zs)]) ∧ Below w.heap.size w w' := by
  obtain ⟨w0, hw0⟩ : ∃ w0, w0 = w.alloc (.cells (iv zr) 23) := ⟨_, rfl⟩
  have b0 : Below w.heap.size w w0 := by rw [hw0]; exact below_one _ _
  have h0 : w0.heap[w.heap.size]? = some (.cells (iv zr) 23 (0, 0)) := by rw [hw0]; exact heap_new rfl
  have HRd := hide (Read_any n c ao zs w0 (hb.below b0) hc hnil hn)
  have HB0 := hide b0
  have H0 := hide h0
  have HW0 := hide hw0
  have HT : Hid (good zs = false → Ending.returned (.tuple #[.agg (iv zr), .int .i64 2]) = .returned (.tuple #[.agg (iv (takR zs)), .int .i64 (takE zs)])) := fun h => by unfold takR takE; rw [h]; rfl
  have HTy : Hid (good zs = true → Ending.returned (.tuple #[.agg (iv (readR zs)), .int .i64 0]) = .returned (.tuple #[.agg (iv (takR zs)), .int .i64 (takE zs)])) := fun h => by unfold takR takE; rw [if_pos h, if_pos h]
  generalize takR zs = TR at HT HTy ⊢
  generalize takE zs = TE at HT HTy ⊢
  clear hb b0 h0 hw0
  unfold iv zr at HW0
  go_enter Try.func14, Try.ntmps14
  go_wp2_with fail
  rw [← HW0.out]
  refine HRd.out.mono ?_
  rintro r w1 ⟨p, rfl, hp, hR, b1⟩
  have hpl := hR.lt
  have h1 : w1.heap[w.heap.size]? = some (.cells (iv zr) 23 (0, 0)) := (b1.block _ (heap_lt H0.out)).trans H0.out
  have hlt0 := heap_lt H0.out
  obtain ⟨w2, hw2⟩ : ∃ w2, w2 = w1.alloc (.cells (iv zr) 23) := ⟨_, rfl⟩
  have b12 : Below w1.heap.size w1 w2 := by rw [hw2]; exact below_one _ _
  have h2 : w2.heap[w1.heap.size]? = some (.cells (iv zr) 23 (0, 0)) := by rw [hw2]; exact heap_new rfl
  have h20 : w2.heap[w.heap.size]? = some (.cells (iv zr) 23 (0, 0)) := (b12.block _ (heap_lt h1)).trans h1
  have hl1 := heap_lt h1
  have b02 : Below w.heap.size w w2 := HB0.out.trans ((b1.trans (b12.mono b1.size)).mono HB0.out.size)
  have hpq : p ≠ w1.heap.size := by omega
  have hL : w1.heap.size ≤ w1.heap.size := Nat.le_refl _
  have HJ0 : Hid (TJ w2 p w1.heap.size w1.heap.size (zs, 0) zr w2) := ⟨hR.below b12, h2, Fr.refl _ _⟩
  have HR0 : Hid (∀ wX s r, TJ w2 p w1.heap.size w1.heap.size s r wX → wX.heap[w.heap.size]? = some (.cells (iv zr) 23 (0, 0)) ∧ Below w.heap.size w wX) := fun wX s r h => by
    refine ⟨(h.2.2.block _ (heap_lt h20) (fun hx => by rcases hx with hx | hx <;> omega)).trans h20, ?_⟩
    have := h.2.2.below w.heap.size (by have := heap_lt h20; omega) (fun k hk => by rcases hk with hk | hk <;> omega)
    exact b02.trans this
  have HW2 := hide hw2
  clear hR b1 h1 hw2 b12 h2 h20 b02 HRd
  unfold iv zr at HW2
  go_wp2_with fail
  rw [← HW2.out]
  obtain ⟨S0, hS0⟩ : ∃ S : St, S = (zs, 0) := ⟨_, rfl⟩
  rw [← hS0] at HJ0
  have HS0 := hide hS0
  clear hS0
  refine (take_num w2 p w1.heap.size w1.heap.size S0 ⟨0, 0, 0, 0, 0, 0, 0, 0, 0, 0, ⟨#[]⟩⟩ 1 w2 HJ0.out hpq (by omega)).mono ?_
  rintro e v0 ⟨he, hJ⟩
  obtain ⟨x0, hx0⟩ : ∃ x, x = numA 1 S0 := ⟨_, rfl⟩
  obtain ⟨S1, hS1⟩ : ∃ x, x = numS 1 S0 := ⟨_, rfl⟩
  rw [← hx0] at he
  rw [← hS1] at hJ
  subst he
  have HX0 := hide hx0
  have HS1 := hide hS1
  have c0 : v0.cell? ⟨w1.heap.size, 0, none⟩ = some (.int .i64 0) := hJ.cell 0
  have f0 := hJ.free 0
  have hK := TJ.store (r' := ⟨x0, 0, 0, 0, 0, 0, 0, 0, 0, 0, ⟨#[]⟩⟩) hJ hL hpq 0 (.int .i64 x0) rfl
  obtain ⟨u0, hu0⟩ : ∃ u, u = v0.setCell ⟨w1.heap.size, 0, none⟩ (.int .i64 x0) := ⟨_, rfl⟩
  rw [← hu0] at hK
  have HJ1 := hide hK
  have HU0 := hide hu0
  clear hJ hK hu0 HJ0 hx0 hS1
  go_wp2_with fail
  rw [← HU0.out]
  clear c0 f0
  refine (take_num w2 p w1.heap.size w1.heap.size S1 ⟨x0, 0, 0, 0, 0, 0, 0, 0, 0, 0, ⟨#[]⟩⟩ 2 u0 HJ1.out hpq (by omega)).mono ?_
  rintro e v1 ⟨he, hJ⟩
  obtain ⟨x1, hx1⟩ : ∃ x, x = numA 2 S1 := ⟨_, rfl⟩
  obtain ⟨S2, hS2⟩ : ∃ x, x = numS 2 S1 := ⟨_, rfl⟩
  rw [← hx1] at he
  rw [← hS2] at hJ
  subst he
  have HX1 := hide hx1
  have HS2 := hide hS2
  have c1 : v1.cell? ⟨w1.heap.size, 1, none⟩ = some (.int .i64 0) := hJ.cell 1
  have f1 := hJ.free 1
  have hK := TJ.store (r' := ⟨x0, x1, 0, 0, 0, 0, 0, 0, 0, 0, ⟨#[]⟩⟩) hJ hL hpq 1 (.int .i64 x1) rfl
  obtain ⟨u1, hu1⟩ : ∃ u, u = v1.setCell ⟨w1.heap.size, 1, none⟩ (.int .i64 x1) := ⟨_, rfl⟩
  rw [← hu1] at hK
  have HJ2 := hide hK
  have HU1 := hide hu1
  clear hJ hK hu1 HJ1 hx1 hS2
  go_wp2_with fail
  rw [← HU1.out]
  clear c1 f1
  refine (take_num w2 p w1.heap.size w1.heap.size S2 ⟨x0, x1, 0, 0, 0, 0, 0, 0, 0, 0, ⟨#[]⟩⟩ 2 u1 HJ2.out hpq (by omega)).mono ?_
  rintro e v2 ⟨he, hJ⟩
  obtain ⟨x2, hx2⟩ : ∃ x, x = numA 2 S2 := ⟨_, rfl⟩
  obtain ⟨S3, hS3⟩ : ∃ x, x = numS 2 S2 := ⟨_, rfl⟩
  rw [← hx2] at he
  rw [← hS3] at hJ
  subst he
  have HX2 := hide hx2
  have HS3 := hide hS3
  have c2 : v2.cell? ⟨w1.heap.size, 2, none⟩ = some (.int .i64 0) := hJ.cell 2
  have f2 := hJ.free 2
  have hK := TJ.store (r' := ⟨x0, x1, x2, 0, 0, 0, 0, 0, 0, 0, ⟨#[]⟩⟩) hJ hL hpq 2 (.int .i64 x2) rfl
  obtain ⟨u2, hu2⟩ : ∃ u, u = v2.setCell ⟨w1.heap.size, 2, none⟩ (.int .i64 x2) := ⟨_, rfl⟩
  rw [← hu2] at hK
  have HJ3 := hide hK
  have HU2 := hide hu2
  clear hJ hK hu2 HJ2 hx2 hS3
  go_wp2_with fail
  rw [← HU2.out]
  clear c2 f2
  refine (take_num w2 p w1.heap.size w1.heap.size S3 ⟨x0, x1, x2, 0, 0, 0, 0, 0, 0, 0, ⟨#[]⟩⟩ 2 u2 HJ3.out hpq (by omega)).mono ?_
  rintro e v3 ⟨he, hJ⟩
  obtain ⟨x3, hx3⟩ : ∃ x, x = numA 2 S3 := ⟨_, rfl⟩
  obtain ⟨S4, hS4⟩ : ∃ x, x = numS 2 S3 := ⟨_, rfl⟩
  rw [← hx3] at he
  rw [← hS4] at hJ
  subst he
  have HX3 := hide hx3
  have HS4 := hide hS4
  have c3 : v3.cell? ⟨w1.heap.size, 3, none⟩ = some (.int .i64 0) := hJ.cell 3
  have f3 := hJ.free 3
  have hK := TJ.store (r' := ⟨x0, x1, x2, x3, 0, 0, 0, 0, 0, 0, ⟨#[]⟩⟩) hJ hL hpq 3 (.int .i64 x3) rfl
  obtain ⟨u3, hu3⟩ : ∃ u, u = v3.setCell ⟨w1.heap.size, 3, none⟩ (.int .i64 x3) := ⟨_, rfl⟩
  rw [← hu3] at hK
  have HJ4 := hide hK
  have HU3 := hide hu3
  clear hJ hK hu3 HJ3 hx3 hS4
  go_wp2_with fail
  rw [← HU3.out]
  clear c3 f3
  refine (take_num w2 p w1.heap.size w1.heap.size S4 ⟨x0, x1, x2, x3, 0, 0, 0, 0, 0, 0, ⟨#[]⟩⟩ 2 u3 HJ4.out hpq (by omega)).mono ?_
  rintro e v4 ⟨he, hJ⟩
  obtain ⟨x4, hx4⟩ : ∃ x, x = numA 2 S4 := ⟨_, rfl⟩
  obtain ⟨S5, hS5⟩ : ∃ x, x = numS 2 S4 := ⟨_, rfl⟩
  rw [← hx4] at he
  rw [← hS5] at hJ
  subst he
  have HX4 := hide hx4
  have HS5 := hide hS5
  have c4 : v4.cell? ⟨w1.heap.size, 4, none⟩ = some (.int .i64 0) := hJ.cell 4
  have f4 := hJ.free 4
  have hK := TJ.store (r' := ⟨x0, x1, x2, x3, x4, 0, 0, 0, 0, 0, ⟨#[]⟩⟩) hJ hL hpq 4 (.int .i64 x4) rfl
  obtain ⟨u4, hu4⟩ : ∃ u, u = v4.setCell ⟨w1.heap.size, 4, none⟩ (.int .i64 x4) := ⟨_, rfl⟩
  rw [← hu4] at hK
  have HJ5 := hide hK
  have HU4 := hide hu4
  clear hJ hK hu4 HJ4 hx4 hS5
  go_wp2_with fail
  rw [← HU4.out]
  clear c4 f4
  refine (take_num w2 p w1.heap.size w1.heap.size S5 ⟨x0, x1, x2, x3, x4, 0, 0, 0, 0, 0, ⟨#[]⟩⟩ 4 u4 HJ5.out hpq (by omega)).mono ?_
  rintro e v5 ⟨he, hJ⟩
  obtain ⟨x5, hx5⟩ : ∃ x, x = numA 4 S5 := ⟨_, rfl⟩
  obtain ⟨S6, hS6⟩ : ∃ x, x = numS 4 S5 := ⟨_, rfl⟩
  rw [← hx5] at he
  rw [← hS6] at hJ
  subst he
  have HX5 := hide hx5
  have HS6 := hide hS6
  have c5 : v5.cell? ⟨w1.heap.size, 5, none⟩ = some (.int .i64 0) := hJ.cell 5
  have f5 := hJ.free 5
  have hK := TJ.store (r' := ⟨x0, x1, x2, x3, x4, x5, 0, 0, 0, 0, ⟨#[]⟩⟩) hJ hL hpq 5 (.int .i64 x5) rfl
  obtain ⟨u5, hu5⟩ : ∃ u, u = v5.setCell ⟨w1.heap.size, 5, none⟩ (.int .i64 x5) := ⟨_, rfl⟩
  rw [← hu5] at hK
  have HJ6 := hide hK
  have HU5 := hide hu5
  have cK : u5.cell? ⟨w1.heap.size, 0, none⟩ = some (.int .i64 x0) := hK.cell 0
  rw [hu5] at cK
  clear hJ hK hu5 HJ5 hx5 hS6
  go_wp2_with fail
  rw [← HU5.out]
  clear c5 f5
  have eR : headR (zs, 0) = ⟨x0, x1, x2, x3, x4, x5, 0, 0, 0, 0, ⟨#[]⟩⟩ := by
    unfold headR z5 z4 z3 z2 z1
    rw [← HS0.out, ← HS1.out, ← HS2.out, ← HS3.out, ← HS4.out, ← HS5.out, ← HX0.out, ← HX1.out, ← HX2.out, ← HX3.out, ← HX4.out, ← HX5.out]
  have eS : z6 (zs, 0) = S6 := by
    unfold z6 z5 z4 z3 z2 z1
    rw [← HS0.out, ← HS1.out, ← HS2.out, ← HS3.out, ← HS4.out, ← HS5.out, ← HS6.out]
  have eK : x0 = numA 1 (zs, 0) := by rw [HX0.out, HS0.out]
  have HJ : Hid (TJ w2 p w1.heap.size w1.heap.size (z6 (zs, 0)) (headR (zs, 0)) u5) := by rw [eR, eS]; exact HJ6.out
  obtain ⟨k, hk⟩ : ∃ k, k = numA 1 (zs, 0) := ⟨_, rfl⟩
  have HKn : Hid ((headR (zs, 0)).kind = k) := by rw [hk]; rfl
  rw [eK, ← hk]
  clear HJ6 cK eR eS eK HX0 HX1 HX2 HX3 HX4 HX5 HS0 HS1 HS2 HS3 HS4 HS5 HS6
  cases hik : isKind k
  case false =>
    have HG : Hid (good zs = false) := good_kind (by rw [← hk]; exact hik)
    refine (kindOf_no k u5 hik).mono ?_
    rintro r w3 ⟨rfl, b3⟩
    obtain ⟨h3, bf⟩ := HR0.out w3 _ _ (HJ.out.below b3)
    have h4 : (w3.alloc (.cells nf 62)).heap[w.heap.size]? = some (.cells (iv zr) 23 (0, 0)) := by rw [Below.heap_alloc _ _ _ (heap_lt h3)]; exact h3
    have HBf : Hid (Below w.heap.size w (w3.alloc (.cells nf 62))) := bf.alloc bf.size _
    have H4 := hide h4
    clear b3 h3 bf hk hik h4
    go_wp2_with (first
      | (refine wpList_store_row rfl _ _ _ rfl w3.heap.size nf rfl rfl 62 _ (heap_alloc_new w3 _) infoKind rfl nf_one ?_; rw [World.setRow_alloc_new])
      | refine wpList_store_row rfl _ _ _ rfl w.heap.size (iv zr) rfl rfl 23 (iv zr) H4.out infoRec rfl (iv_one _) ?_)
    refine bodyPost_ret (v := .tuple #[.agg (iv zr), .int .i64 2]) ?_ rfl ⟨HT.out HG.out, below_setRow HBf.out (Nat.le_refl _) _⟩
    exact results_cr2 (p := 2) (u := 3) rfl _ _ w.heap.size (iv zr) rfl (load_rec (setRow_heap _ _ _ _ _ _ H4.out) rfl)
  case true =>
    obtain ⟨hen, hta⟩ := kindTake k hik
    have HTa := hide hta
    refine (kindOf_yes k u5 hik).mono ?_
    rintro r w3 ⟨rfl, b3⟩
    generalize kf k = f at *
    obtain ⟨w4, hw4⟩ : ∃ w4, w4 = w3.alloc (.cells f.v 62) := ⟨_, rfl⟩
    have b4 : Below u5.heap.size u5 w4 := by rw [hw4]; exact b3.alloc b3.size _
    have hJ4 := HJ.out.below b4
    have hf4 : w4.heap[w3.heap.size]? = some (.cells f.v 62 (0, 0)) := by rw [hw4]; exact heap_new rfl
    have cf : w4.cell? ⟨w3.heap.size, 2, none⟩ = some (.func (.func f.take) #[] #[]) := by rw [cell_of_row _ _ _ _ _ _ hf4]; rfl
    have h4 := hJ4.2.1
    have HJ4 := hide hJ4
    have HW4 := hide hw4
    clear b3 hw4 b4 hJ4 hf4 hta hk HJ hik
    obtain ⟨A, hA⟩ : ∃ A, A = headR (zs, 0) := ⟨_, rfl⟩
    have HA := hide hA
    rw [← hA] at h4 HJ4 HKn
    clear hA
    go_wp2_with (first
      | (refine wpList_store_row rfl _ _ _ rfl w3.heap.size f.v rfl rfl 62 _ (heap_alloc_new w3 _) infoKind rfl (kv_one _ _ _ _) ?_; rw [World.setRow_alloc_new, ← HW4.out])
      | refine wpList_load_rec (by rfl) _ rfl w1.heap.size rfl 23 (iv A) (0, 0) h4 rfl ?_)
    refine (HTa.out p w1.heap.size _ A w4 HKn.out HJ4.out.1).mono ?_
    rintro r w5 ⟨rfl, hR5, hF5⟩
    have hJ5 := HJ4.out.call hpq hR5 hF5
    obtain ⟨R, hRR⟩ : ∃ R, R = readR zs := ⟨_, rfl⟩
    have e1 : ownR A (z6 (zs, 0)) = R := by rw [hRR, HA.out]; rfl
    have e2 : ownS A.kind (z6 (zs, 0)) = readS zs := by rw [HA.out]; rfl
    rw [e1]
    rw [e2] at hJ5
    have h5 := hJ5.2.1
    obtain ⟨w6, hw6⟩ : ∃ w6, w6 = w5.setRow w1.heap.size (iv R) := ⟨_, rfl⟩
    have hJ6 : TJ w2 p w1.heap.size w1.heap.size (readS zs) R w6 := by
      rw [hw6]
      exact ⟨hJ5.1.above (setRow_fr (Fr.refl (One w1.heap.size) _) _ _ (fun _ => rfl)) (fun i hi => Nat.le_of_eq (Eq.symm hi)) (fun hi => hpq hi), setRow_heap _ _ _ _ _ _ h5, setRow_fr hJ5.2.2 _ _ (fun _ => .inr rfl)⟩
    have HJ6 := hide hJ6
    have HW6 := hide hw6
    have HRR := hide hRR
    clear hR5 hF5 hJ5 e1 e2 hw6 hJ6 h4 cf HJ4 hRR
    go_wp2_with (refine wpList_store_row rfl _ _ _ rfl w1.heap.size (iv R) rfl rfl 23 (iv A) h5 infoRec rfl (iv_one _) ?_; rw [← HW6.out])
    refine (End_any p w1.heap.size _ w6 HJ6.out.1).mono ?_
    rintro r w7 ⟨rfl, hR7, hF7⟩
    have hJ7 := HJ6.out.call hpq hR7 hF7
    have h7 := hJ7.2.1
    have HJ7 := hide hJ7
    clear hR7 hF7 hJ7 HJ6
    by_cases he : (endS (readS zs)).2 = 0
    · have HM := hide (May_any R w7)
      cases hm : R.may
      case false =>
        rw [hm] at HM
        have HG : Hid (good zs = false) := by show _ = _; unfold good; rw [← HRR.out, hm]; rfl
        rw [he]
        clear he hm
        go_wp2_with (refine wpList_load_rec (by rfl) _ rfl w1.heap.size rfl 23 (iv R) (0, 0) h7 rfl ?_)
        refine HM.out.mono ?_
        rintro r w8 ⟨rfl, b8⟩
        have hJ8 := HJ7.out.below b8
        obtain ⟨h8, bf⟩ := HR0.out w8 _ _ hJ8
        have HBf := hide bf
        clear b8 hJ8 bf
        go_wp2_with (refine wpList_store_row rfl _ _ _ rfl w.heap.size (iv zr) rfl rfl 23 (iv zr) h8 infoRec rfl (iv_one _) ?_)
        refine bodyPost_ret (v := .tuple #[.agg (iv zr), .int .i64 2]) ?_ rfl ⟨HT.out HG.out, below_setRow HBf.out (Nat.le_refl _) _⟩
        exact results_cr2 (p := 2) (u := 3) rfl _ _ w.heap.size (iv zr) rfl (load_rec (setRow_heap _ _ _ _ _ _ h8) rfl)
      case true =>
        rw [hm] at HM
        have HG : Hid (good zs = true) := by show _ = _; unfold good; rw [← HRR.out, hm, he]; rfl
        rw [he]
        clear he hm
        go_wp2_with (refine wpList_load_rec (by rfl) _ rfl w1.heap.size rfl 23 (iv R) (0, 0) h7 rfl ?_)
        refine HM.out.mono ?_
        rintro r w8 ⟨rfl, b8⟩
        have hJ8 := HJ7.out.below b8
        obtain ⟨h8, bf⟩ := HR0.out w8 _ _ hJ8
        have h81 := hJ8.2.1
        have HBf := hide bf
        clear b8 hJ8 bf h7
        go_wp2_with (first
          | refine wpList_load_rec (by rfl) _ rfl w1.heap.size rfl 23 (iv R) (0, 0) h81 rfl ?_
          | refine wpList_store_row rfl _ _ _ rfl w.heap.size (iv R) rfl rfl 23 (iv zr) h8 infoRec rfl (iv_one _) ?_)
        refine bodyPost_ret (v := .tuple #[.agg (iv R), .int .i64 0]) ?_ rfl ⟨by rw [← HTy.out HG.out, HRR.out], below_setRow HBf.out (Nat.le_refl _) _⟩
        exact results_cr2 (p := 2) (u := 3) rfl _ _ w.heap.size (iv R) rfl (load_rec (setRow_heap _ _ _ _ _ _ h8) rfl)
    · have HG : Hid (good zs = false) := by show _ = _; unfold good; rw [decide_eq_false he, Bool.and_false]
      have hne : ((endS (readS zs)).2 != 0) = true := by simpa using he
      obtain ⟨h8, bf⟩ := HR0.out w7 _ _ HJ7.out
      have HBf := hide bf
      generalize (endS (readS zs)).2 = E at *
      clear bf he h7
      go_wp2_with (refine wpList_store_row rfl _ _ _ rfl w.heap.size (iv zr) rfl rfl 23 (iv zr) h8 infoRec rfl (iv_one _) ?_)
      refine bodyPost_ret (v := .tuple #[.agg (iv zr), .int .i64 2]) ?_ rfl ⟨HT.out HG.out, below_setRow HBf.out (Nat.le_refl _) _⟩
      exact results_cr2 (p := 2) (u := 3) rfl _ _ w.heap.size (iv zr) rfl (load_rec (setRow_heap _ _ _ _ _ _ h8) rfl)
end Go.Proofs.Ytmhgjilpgbkaaaa

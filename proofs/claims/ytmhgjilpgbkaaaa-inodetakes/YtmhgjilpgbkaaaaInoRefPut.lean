/- Layer 9: Put, by the document's answer. -/
import Derived.Test.YtmhgjilpgbkaaaaInoRefMay
import Derived.Test.YtmhgjilpgbkaaaaInoPut
import Derived.Test.YtmhgjilpgbkaaaaCurRefW
namespace Go.Proofs.Ytmhgjilpgbkaaaa
set_option linter.unusedVariables false
open Go.RowKit Go.Maps
open Cur
open Ino

namespace Ino
theorem WrRDone.size {W w : World} {p B : Nat} {v : Value} {s : St} (h : WrRDone W w p B v s) : W.heap.size ≤ w.heap.size := by
  obtain ⟨v', h1, h2, h3⟩ := h
  exact h2.size
end Ino
theorem rnum_done (W : World) (p B : Nat) (v : Value) (zs : List Int) (x m : Int) (n : Nat) (w : World) (h : WrRDone W w p B v (zs, 0)) (hB : B ≤ W.heap.size) (hl : zs.length ≤ 1000) (hm : m = (n : Int)) (h1 : 1 ≤ n) (h4 : n ≤ 4) (h0 : 0 ≤ x) (hx : x < 256 ^ n) :
    Calls Try.prog 27 #[.pointer (some ⟨p, 0, none⟩), .int .i64 x, .int .i64 m] w fun r w' => r = .returned (.tuple #[]) ∧ WrRDone W w' p B v (zs ++ by' n x, 0) := by
  have hs := WrRDone.size h
  obtain ⟨v', k1, k2, k3⟩ := h
  have h5 : (256 : Int) ^ n ≤ 256 ^ 4 := pow256 h4
  refine (refWNum_any p B v' x m (zs, 0) w k1 (by omega) (by simp; omega) (by omega) (by omega)).mono ?_
  rintro r w' ⟨rfl, hD⟩
  rw [wNum_ok zs m n x hm h1 h4 h0 hx] at hD
  exact ⟨rfl, WrRDone.trans k2 k3 hD⟩
theorem rtext_done (W : World) (p B : Nat) (v : Value) (zs : List Int) (t : ByteArray) (w : World) (h : WrRDone W w p B v (zs, 0)) (hB : B ≤ W.heap.size) (hl : zs.length ≤ 1000) (ht : t.size ≤ 255) :
    Calls Try.prog 28 #[.pointer (some ⟨p, 0, none⟩), .string t] w fun r w' => r = .returned (.tuple #[]) ∧ WrRDone W w' p B v (zs ++ ((t.size : Int) :: sb t), 0) := by
  have hs := WrRDone.size h
  obtain ⟨v', k1, k2, k3⟩ := h
  refine (refWText_any p B v' t (zs, 0) w k1 (by omega) (by simp; omega) (by omega)).mono ?_
  rintro r w' ⟨rfl, hD⟩
  rw [wTxt_ok zs t ht] at hD
  exact ⟨rfl, WrRDone.trans k2 k3 hD⟩
/-- What the document's Put answers. -/
def RPutAns (s : Rec) (w : World) (e : Ending) (w' : World) : Prop :=
  (s.may = true ∧ ∃ ao c, e = .returned (.tuple #[.slice ao (putB s).length c, .int .i64 0]) ∧ Bs w' ao (putB s).length (putB s) ∧ Below w.heap.size w w') ∨ (s.may = false ∧ e = .returned (.tuple #[.slice none 0 0, .int .i64 1]) ∧ Below w.heap.size w w')
set_option maxRecDepth 100000 in
set_option maxHeartbeats 4000000 in
theorem refIPut_any (s : Rec) (w : World) (ht : s.target.size ≤ 9223372036854775807) : Calls Try.prog 11 #[.agg (iv s)] w fun e w' => RPutAns s w e w' := by
  obtain ⟨w1, hw1⟩ : ∃ w1, w1 = w.alloc (.cells (iv s) 23) := ⟨_, rfl⟩
  have hb1 : w1.heap[w.heap.size]? = some (.cells (iv s) 23 (0, 0)) := by rw [hw1]; exact heap_new rfl
  have HB1 : Hid (Below w.heap.size w w1) := by rw [hw1]; exact below_one _ _
  have HMay := hide (refMay_any s w1 ht)
  have HW1 := hide hw1
  have H1 := hide hb1
  clear hw1 ht
  cases hq : s.may
  case false =>
    have HQ := hide hq
    rw [hq] at HMay
    clear hq hb1
    unfold iv at HW1 ⊢
    go_enter Try.func11, Try.ntmps11
    go_wp2_with fail
    rw [← HW1.out]
    refine HMay.out.mono ?_
    rintro r w2 ⟨rfl, b2⟩
    have HB2 : Hid (Below w.heap.size w w2) := HB1.out.trans (b2.mono HB1.out.size)
    clear b2 HMay
    go_wp2
    go_ret2
    exact .inr ⟨HQ.out, rfl, HB2.out⟩
  case true =>
    have HQ := hide hq
    rw [hq] at HMay
    obtain ⟨hk, m1, m2, m3, m4, m5, m6⟩ := may_facts hq
    have hkk : 0 ≤ s.kind ∧ s.kind ≤ 3 := by have := kinds hk; omega
    have HK := hide (kinds hk)
    have HO := hide m6
    clear hq hb1 hk m6
    unfold iv at HW1 ⊢
    go_enter Try.func11, Try.ntmps11
    go_wp2_with fail
    rw [← HW1.out]
    refine HMay.out.mono ?_
    rintro r w2 ⟨rfl, b2⟩
    have HB2 : Hid (Below w.heap.size w w2) := HB1.out.trans (b2.mono HB1.out.size)
    have h2 : w2.heap[w.heap.size]? = some (.cells (iv s) 23 (0, 0)) := (b2.block _ (heap_lt H1.out)).trans H1.out
    have hs2 := heap_lt h2
    obtain ⟨w3, hw3⟩ : ∃ w3, w3 = w2.alloc (.cells #[.slice none 0 0, .int .i64 0] 68) := ⟨_, rfl⟩
    have b23 : Below w2.heap.size w2 w3 := by rw [hw3]; exact below_one _ _
    have h3 : w3.heap[w.heap.size]? = some (.cells (iv s) 23 (0, 0)) := (b23.block _ hs2).trans h2
    have HB3 : Hid (Below w.heap.size w w3) := HB2.out.trans (b23.mono HB2.out.size)
    have s3 : w3.heap.size = w2.heap.size + 1 := by rw [hw3]; simp
    have HR0 : Hid (WrRDone w3 w3 w2.heap.size w3.heap.size (.slice none 0 0) ([], 0)) := by
      refine WrR.refl ?_
      rw [hw3]; exact ⟨none, 0, 0, [], rfl, Hd.new _ _ _ _ _ _, World.ownsRow_nil _ _ _ _, Bytes.nil, fun _ => rfl, .inl rfl⟩
    have HX : Hid (∀ wX ys, WrRDone w3 wX w2.heap.size w3.heap.size (.slice none 0 0) (ys, 0) → wX.heap[w.heap.size]? = some (.cells (iv s) 23 (0, 0)) ∧ Below w.heap.size w wX) := fun wX ys h => by
      obtain ⟨v', g1, g2, g3⟩ := h
      refine ⟨(g2.block _ (heap_lt h3) (fun hx => by rcases hx with hx | hx; (have : w.heap.size = w2.heap.size := hx; omega); (simp [Value.ownBlock] at hx))).trans h3, ?_⟩
      have := g2.two_below (B := w2.heap.size) (by omega) (Nat.le_refl _) (fun k hk => by simp [Value.ownBlock] at hk)
      exact HB3.out.trans (this.mono HB2.out.size)
    have HC : Hid (∀ wX ys, WrRDone w3 wX w2.heap.size w3.heap.size (.slice none 0 0) (ys, 0) → ∀ k, wX.cell? ⟨w.heap.size, k, none⟩ = (iv s)[k]?) := fun wX ys h k => cell_of_row _ _ _ _ _ _ (HX.out wX ys h).1
    have c0 : (w2.alloc (.cells #[.slice none 0 0, .int .i64 0] 68)).cell? ⟨w.heap.size, 0, none⟩ = some (.int .i64 s.kind) := by rw [← hw3]; exact HC.out w3 _ HR0.out 0
    have HW3 := hide hw3
    clear b2 HMay hw3 b23 h2 h3
    go_wp2_with fail
    rw [← HW3.out]
    refine (rnum_done w3 w2.heap.size w3.heap.size (.slice none 0 0) ([]) s.kind 1 1 w3 HR0.out (Nat.le_refl _) (by simp) rfl (by omega) (by omega) (by omega) (by omega)).mono ?_
    rintro r v1 ⟨rfl, hD⟩
    have HR1 := hide hD
    have c1 : v1.cell? ⟨w.heap.size, 1, none⟩ = some (.int .i64 s.mode) := HC.out v1 _ hD 1
    clear hD HR0 c0
    go_wp2_with fail
    refine (rnum_done w3 w2.heap.size w3.heap.size (.slice none 0 0) ([] ++ by' 1 s.kind) s.mode 2 2 v1 HR1.out (Nat.le_refl _) (by simp [by_length]) rfl (by omega) (by omega) (by omega) (by omega)).mono ?_
    rintro r v2 ⟨rfl, hD⟩
    have HR2 := hide hD
    have c2 : v2.cell? ⟨w.heap.size, 2, none⟩ = some (.int .i64 s.uid) := HC.out v2 _ hD 2
    clear hD HR1 c1
    go_wp2_with fail
    refine (rnum_done w3 w2.heap.size w3.heap.size (.slice none 0 0) ([] ++ by' 1 s.kind ++ by' 2 s.mode) s.uid 2 2 v2 HR2.out (Nat.le_refl _) (by simp [by_length]) rfl (by omega) (by omega) (by omega) (by omega)).mono ?_
    rintro r v3 ⟨rfl, hD⟩
    have HR3 := hide hD
    have c3 : v3.cell? ⟨w.heap.size, 3, none⟩ = some (.int .i64 s.gid) := HC.out v3 _ hD 3
    clear hD HR2 c2
    go_wp2_with fail
    refine (rnum_done w3 w2.heap.size w3.heap.size (.slice none 0 0) ([] ++ by' 1 s.kind ++ by' 2 s.mode ++ by' 2 s.uid) s.gid 2 2 v3 HR3.out (Nat.le_refl _) (by simp [by_length]) rfl (by omega) (by omega) (by omega) (by omega)).mono ?_
    rintro r v4 ⟨rfl, hD⟩
    have HR4 := hide hD
    have c4 : v4.cell? ⟨w.heap.size, 4, none⟩ = some (.int .i64 s.links) := HC.out v4 _ hD 4
    clear hD HR3 c3
    go_wp2_with fail
    refine (rnum_done w3 w2.heap.size w3.heap.size (.slice none 0 0) ([] ++ by' 1 s.kind ++ by' 2 s.mode ++ by' 2 s.uid ++ by' 2 s.gid) s.links 2 2 v4 HR4.out (Nat.le_refl _) (by simp [by_length]) rfl (by omega) (by omega) (by omega) (by omega)).mono ?_
    rintro r v5 ⟨rfl, hD⟩
    have HR5 := hide hD
    have c5 : v5.cell? ⟨w.heap.size, 5, none⟩ = some (.int .i64 s.xattr) := HC.out v5 _ hD 5
    clear hD HR4 c4
    go_wp2_with fail
    refine (rnum_done w3 w2.heap.size w3.heap.size (.slice none 0 0) ([] ++ by' 1 s.kind ++ by' 2 s.mode ++ by' 2 s.uid ++ by' 2 s.gid ++ by' 2 s.links) s.xattr 4 4 v5 HR5.out (Nat.le_refl _) (by simp [by_length]) rfl (by omega) (by omega) (by omega) (by omega)).mono ?_
    rintro r v6 ⟨rfl, hD⟩
    have HR6 := hide hD
    clear hD HR5 c5
    rcases HK.out with hk | hk | hk
    · have c6 : v6.cell? ⟨w.heap.size, 0, none⟩ = some (.int .i64 s.kind) := HC.out v6 _ HR6.out 0
      have d6 : v6.cell? ⟨w.heap.size, 6, none⟩ = some (.int .i64 s.start) := HC.out v6 _ HR6.out 6
      obtain ⟨d1, d2, d3, d4, d5, e6⟩ := dir_facts hk HO.out
      have HE : Hid (putB s = [] ++ by' 1 s.kind ++ by' 2 s.mode ++ by' 2 s.uid ++ by' 2 s.gid ++ by' 2 s.links ++ by' 4 s.xattr ++ (by' 4 s.start ++ by' 4 s.size)) := by show putB s = _; unfold putB headB ownB; rw [if_pos hk] <;> simp
      rw [hk] at c6
      clear hk d1 d4 d5 e6
      go_wp2_with fail
      refine (rnum_done w3 w2.heap.size w3.heap.size (.slice none 0 0) ([] ++ by' 1 s.kind ++ by' 2 s.mode ++ by' 2 s.uid ++ by' 2 s.gid ++ by' 2 s.links ++ by' 4 s.xattr) s.start 4 4 v6 HR6.out (Nat.le_refl _) (by simp [by_length]) rfl (by omega) (by omega) (by omega) (by omega)).mono ?_
      rintro r v7 ⟨rfl, hD⟩
      have HR7 := hide hD
      have c7 : v7.cell? ⟨w.heap.size, 7, none⟩ = some (.int .i64 s.size) := HC.out v7 _ hD 7
      clear hD HR6 c6 d6
      go_wp2_with fail
      refine (rnum_done w3 w2.heap.size w3.heap.size (.slice none 0 0) ([] ++ by' 1 s.kind ++ by' 2 s.mode ++ by' 2 s.uid ++ by' 2 s.gid ++ by' 2 s.links ++ by' 4 s.xattr ++ by' 4 s.start) s.size 4 4 v7 HR7.out (Nat.le_refl _) (by simp [by_length]) rfl (by omega) (by omega) (by omega) (by omega)).mono ?_
      rintro r v8 ⟨rfl, hD⟩
      have HR8 := hide hD
      clear hD HR7 c7
      have eB : [] ++ by' 1 s.kind ++ by' 2 s.mode ++ by' 2 s.uid ++ by' 2 s.gid ++ by' 2 s.links ++ by' 4 s.xattr ++ by' 4 s.start ++ by' 4 s.size = putB s := by rw [HE.out] <;> simp
      rw [eB] at HR8
      have HBf : Hid (Below w.heap.size w v8) := (HX.out v8 _ HR8.out).2
      obtain ⟨vv, k1, k2, k3⟩ := HR8.out
      have HP6 := hide k1
      clear k1 k2 k3 eB HR8
      go_wp2_with fail
      refine (refDone_any w2.heap.size w3.heap.size vv (putB s, 0) v8 HP6.out (by have := (putB_least HQ.out).2; simp; omega)).mono ?_
      rintro r wz ⟨ao, c, rfl, hbz, _, _, _, bz⟩
      have HN : Hid (Bs wz ao (putB s).length (putB s)) := hbz
      have HBz : Hid (Below w.heap.size w wz) := HBf.out.trans (bz.mono HBf.out.size)
      clear hbz bz
      go_wp2
      go_ret2
      exact .inl ⟨HQ.out, ao, c, rfl, HN.out, HBz.out⟩
    · have c6 : v6.cell? ⟨w.heap.size, 0, none⟩ = some (.int .i64 s.kind) := HC.out v6 _ HR6.out 0
      have d6 : v6.cell? ⟨w.heap.size, 6, none⟩ = some (.int .i64 s.start) := HC.out v6 _ HR6.out 6
      obtain ⟨d1, d2, d3, d4, d5⟩ := file_facts hk HO.out
      have HE : Hid (putB s = [] ++ by' 1 s.kind ++ by' 2 s.mode ++ by' 2 s.uid ++ by' 2 s.gid ++ by' 2 s.links ++ by' 4 s.xattr ++ (by' 4 s.start ++ (by' 2 s.size ++ (by' 2 s.frag ++ by' 1 s.off)))) := by show putB s = _; unfold putB headB ownB; rw [if_neg (by omega), if_pos hk] <;> simp
      rw [hk] at c6
      clear hk d5
      go_wp2_with fail
      refine (rnum_done w3 w2.heap.size w3.heap.size (.slice none 0 0) ([] ++ by' 1 s.kind ++ by' 2 s.mode ++ by' 2 s.uid ++ by' 2 s.gid ++ by' 2 s.links ++ by' 4 s.xattr) s.start 4 4 v6 HR6.out (Nat.le_refl _) (by simp [by_length]) rfl (by omega) (by omega) (by omega) (by omega)).mono ?_
      rintro r v7 ⟨rfl, hD⟩
      have HR7 := hide hD
      have c7 : v7.cell? ⟨w.heap.size, 7, none⟩ = some (.int .i64 s.size) := HC.out v7 _ hD 7
      clear hD HR6 c6 d6
      go_wp2_with fail
      refine (rnum_done w3 w2.heap.size w3.heap.size (.slice none 0 0) ([] ++ by' 1 s.kind ++ by' 2 s.mode ++ by' 2 s.uid ++ by' 2 s.gid ++ by' 2 s.links ++ by' 4 s.xattr ++ by' 4 s.start) s.size 2 2 v7 HR7.out (Nat.le_refl _) (by simp [by_length]) rfl (by omega) (by omega) (by omega) (by omega)).mono ?_
      rintro r v8 ⟨rfl, hD⟩
      have HR8 := hide hD
      have c8 : v8.cell? ⟨w.heap.size, 8, none⟩ = some (.int .i64 s.frag) := HC.out v8 _ hD 8
      clear hD HR7 c7
      go_wp2_with fail
      refine (rnum_done w3 w2.heap.size w3.heap.size (.slice none 0 0) ([] ++ by' 1 s.kind ++ by' 2 s.mode ++ by' 2 s.uid ++ by' 2 s.gid ++ by' 2 s.links ++ by' 4 s.xattr ++ by' 4 s.start ++ by' 2 s.size) s.frag 2 2 v8 HR8.out (Nat.le_refl _) (by simp [by_length]) rfl (by omega) (by omega) (by omega) (by omega)).mono ?_
      rintro r v9 ⟨rfl, hD⟩
      have HR9 := hide hD
      have c9 : v9.cell? ⟨w.heap.size, 9, none⟩ = some (.int .i64 s.off) := HC.out v9 _ hD 9
      clear hD HR8 c8
      go_wp2_with fail
      refine (rnum_done w3 w2.heap.size w3.heap.size (.slice none 0 0) ([] ++ by' 1 s.kind ++ by' 2 s.mode ++ by' 2 s.uid ++ by' 2 s.gid ++ by' 2 s.links ++ by' 4 s.xattr ++ by' 4 s.start ++ by' 2 s.size ++ by' 2 s.frag) s.off 1 1 v9 HR9.out (Nat.le_refl _) (by simp [by_length]) rfl (by omega) (by omega) (by omega) (by omega)).mono ?_
      rintro r v10 ⟨rfl, hD⟩
      have HR10 := hide hD
      clear hD HR9 c9
      have eB : [] ++ by' 1 s.kind ++ by' 2 s.mode ++ by' 2 s.uid ++ by' 2 s.gid ++ by' 2 s.links ++ by' 4 s.xattr ++ by' 4 s.start ++ by' 2 s.size ++ by' 2 s.frag ++ by' 1 s.off = putB s := by rw [HE.out] <;> simp
      rw [eB] at HR10
      have HBf : Hid (Below w.heap.size w v10) := (HX.out v10 _ HR10.out).2
      obtain ⟨vv, k1, k2, k3⟩ := HR10.out
      have HP6 := hide k1
      clear k1 k2 k3 eB HR10
      go_wp2_with fail
      refine (refDone_any w2.heap.size w3.heap.size vv (putB s, 0) v10 HP6.out (by have := (putB_least HQ.out).2; simp; omega)).mono ?_
      rintro r wz ⟨ao, c, rfl, hbz, _, _, _, bz⟩
      have HN : Hid (Bs wz ao (putB s).length (putB s)) := hbz
      have HBz : Hid (Below w.heap.size w wz) := HBf.out.trans (bz.mono HBf.out.size)
      clear hbz bz
      go_wp2
      go_ret2
      exact .inl ⟨HQ.out, ao, c, rfl, HN.out, HBz.out⟩
    · have c6 : v6.cell? ⟨w.heap.size, 0, none⟩ = some (.int .i64 s.kind) := HC.out v6 _ HR6.out 0
      have d6 : v6.cell? ⟨w.heap.size, 10, none⟩ = some (.string s.target) := HC.out v6 _ HR6.out 10
      obtain ⟨d1, d2, d3, d4, d5⟩ := link_facts hk HO.out
      have HE : Hid (putB s = [] ++ by' 1 s.kind ++ by' 2 s.mode ++ by' 2 s.uid ++ by' 2 s.gid ++ by' 2 s.links ++ by' 4 s.xattr ++ ((s.target.size : Int) :: sb s.target)) := by show putB s = _; unfold putB headB ownB; rw [if_neg (by omega), if_neg (by omega), if_pos hk] <;> simp
      rw [hk] at c6
      clear hk d2 d3 d4 d5
      go_wp2_with fail
      refine (rtext_done w3 w2.heap.size w3.heap.size (.slice none 0 0) ([] ++ by' 1 s.kind ++ by' 2 s.mode ++ by' 2 s.uid ++ by' 2 s.gid ++ by' 2 s.links ++ by' 4 s.xattr) s.target v6 HR6.out (Nat.le_refl _) (by simp [by_length]) (by omega)).mono ?_
      rintro r v7 ⟨rfl, hD⟩
      have HR7 := hide hD
      clear hD HR6 c6 d6
      have eB : [] ++ by' 1 s.kind ++ by' 2 s.mode ++ by' 2 s.uid ++ by' 2 s.gid ++ by' 2 s.links ++ by' 4 s.xattr ++ ((s.target.size : Int) :: sb s.target) = putB s := by rw [HE.out] <;> simp
      rw [eB] at HR7
      have HBf : Hid (Below w.heap.size w v7) := (HX.out v7 _ HR7.out).2
      obtain ⟨vv, k1, k2, k3⟩ := HR7.out
      have HP6 := hide k1
      clear k1 k2 k3 eB HR7
      go_wp2_with fail
      refine (refDone_any w2.heap.size w3.heap.size vv (putB s, 0) v7 HP6.out (by have := (putB_least HQ.out).2; simp; omega)).mono ?_
      rintro r wz ⟨ao, c, rfl, hbz, _, _, _, bz⟩
      have HN : Hid (Bs wz ao (putB s).length (putB s)) := hbz
      have HBz : Hid (Below w.heap.size w wz) := HBf.out.trans (bz.mono HBf.out.size)
      clear hbz bz
      go_wp2
      go_ret2
      exact .inl ⟨HQ.out, ao, c, rfl, HN.out, HBz.out⟩
end Go.Proofs.Ytmhgjilpgbkaaaa

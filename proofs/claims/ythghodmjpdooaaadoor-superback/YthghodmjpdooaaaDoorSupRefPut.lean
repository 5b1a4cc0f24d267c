/- Layer 8: Put, by the document's answer. -/
import Derived.Test.YthghodmjpdooaaaDoorSupRefMay
import Derived.Test.YthghodmjpdooaaaDoorCurRefW
namespace Go.Proofs.YthghodmjpdooaaaDoor
set_option linter.unusedVariables false
open Go.RowKit Go.Maps
open Lz (g)
open Crc (ent more)
open Cur
open Sup

set_option maxRecDepth 100000 in
theorem refDoneOwn_any (p B n : Nat) (v : Value) (zs : List Int) (w : World) (h : WrR w p B v (zs, 0)) (hn : zs.length = n) (hbd : n ≤ 1000000) :
    Calls Tryd.prog 21 #[.pointer (some ⟨p, 0, none⟩)] w fun r w' => ∃ ao c, r = .returned (.slice ao n c) ∧ w'.ownsRow w.heap.size 5 1 (.slice ao n c) n (bv zs) ∧ Below w.heap.size w w' := by
  obtain ⟨vo, vn, vc, ys, rfl, hd, ho, hby, hys, hcan⟩ := h
  have h0 := hd.c0
  have h1 := hd.c1
  obtain rfl := hys rfl
  have hlen : ys.length = vn := by have := ho.1; rw [bv_length] at this; omega
  obtain rfl : vn = n := by rw [← hlen]; exact hn
  have HB : Hid (Bs w vo vn ys) := bs_of_owns ho hby
  have hplt : p < w.heap.size := hd.lt
  have hnil : vo = none → vc = 0 := nil_cap ho
  clear hd ho hys hcan hby hlen hn
  have ho := emptyB (w := w) (Nat.le_refl _)
  have hsrc : Bs (w.alloc (.cells #[] 5)) vo vn ys := HB.out.alloc _
  have h0a : (w.alloc (.cells #[] 5)).cell? ⟨p, 0, none⟩ = some (.slice vo vn vc) := ((Below.refl _ w).alloc (Nat.le_refl _) _).cell (p := ⟨p, 0, none⟩) hplt |>.trans h0
  have hk : 0 + vn ≤ 100000000 := by omega
  go_enter Tryd.func21, Tryd.ntmps21
  go_wp2_with (first
    | (at_builtin
       refine wpList_append_bs _ (by rfl) (.tmp 8) (.tmp 12) (by rfl) w.heap.size _ 0 0 [] (by rfl) ho vo vn vc ys (by rfl) hsrc hnil hk (by simp) ?_
       intro ao c w1 ho1 hg1
       have HB1 : Hid (Below w.heap.size w w1) := ((Below.refl _ w).alloc (Nat.le_refl _) _).grown hg1 (by simp) (fun kk e => (ho.lt kk e).1)
       have HO1 : Hid (w1.ownsRow w.heap.size 5 1 (.slice ao vn c) vn (bv ys)) := by rw [Nat.zero_add, List.nil_append] at ho1; exact ho1
       clear ho1 hg1))
  go_ret
  exact ⟨ao, c, rfl, HO1.out, HB1.out⟩
/-- The reference's writer, behind the first i numbers: at block p, the rest of memory below it as in W. -/
def RI (W : World) (p B : Nat) (zs : List Int) (w : World) : Prop := ∃ v, WrR w p B v (zs, 0) ∧ Below W.heap.size W w ∧ B ≤ w.heap.size
theorem RI.step {W w w' : World} {p B : Nat} {v : Value} {zs zs' : List Int} (hv : WrR w p B v (zs, 0)) (hb : Below W.heap.size W w) (hB : B ≤ w.heap.size) (hp : W.heap.size ≤ p) (hWB : W.heap.size ≤ B) (h : WrRDone w w' p B v (zs', 0)) : RI W p B zs' w' := by
  obtain ⟨v', h1, h2, h3⟩ := h
  refine ⟨v', h1, hb.trans (h2.below _ hb.size (fun k hk => ?_)), Nat.le_trans hB h2.size⟩
  rcases hk with rfl | hk
  · exact hp
  · obtain ⟨ao, n, c, ys, rfl, _, ho, _⟩ := hv
    exact Nat.le_trans hWB (ho.lt k hk).1
theorem refNum_at (W : World) (p B i : Nat) (s : Sb) (x n : Int) (w : World) (hs : s.ok) (hi : i < 10) (hp : W.heap.size ≤ p) (hWB : W.heap.size ≤ B) (h : RI W p B (pre s i) w) (hx : s.n i = x) (hn : (wd i : Int) = n) :
    Calls Tryd.prog 19 #[.pointer (some ⟨p, 0, none⟩), .int .i64 x, .int .i64 n] w fun r w' => r = .returned (.tuple #[]) ∧ RI W p B (pre s (i + 1)) w' := by
  subst hx hn
  obtain ⟨v, h1, h2, h3⟩ := h
  refine (refWNum_any p B v (s.n i) (wd i) (pre s i, 0) w h1 h3 (by have := pre_length s i; have := spot_le i hi; simp only [*]; omega) (n_64 hs i hi) (by have := wd_fit i; omega)).mono ?_
  rintro r w' ⟨rfl, hD⟩
  rw [wNum_pre hs i hi] at hD
  exact ⟨rfl, RI.step h1 h2 h3 hp hWB hD⟩
def slen : Value → Nat
  | .slice _ n _ => n
  | _ => 0
/-- What the document's Put answers. -/
def RPutAns (s : Sb) (e : Ending) (w' : World) : Prop :=
  (s.ok ∧ ∃ ao c, e = .returned (.tuple #[.slice ao 64 c, .int .i64 0]) ∧ Bs w' ao 64 (put ent s)) ∨ (¬ s.ok ∧ e = .returned (.tuple #[.slice none 0 0, .int .i64 1]))
set_option maxRecDepth 100000 in
set_option maxHeartbeats 4000000 in
theorem refPut_any (s : Sb) (w : World) : Calls Tryd.prog 11 #[.agg (sv s)] w fun e w' => RPutAns s e w' ∧ Below w.heap.size w w' := by
  have hm := refMay_any s
  obtain ⟨w1, hw1⟩ : ∃ w1, w1 = w.alloc (.cells (sv s) 23) := ⟨_, rfl⟩
  have hb1 : w1.heap[w.heap.size]? = some (.cells (sv s) 23 (0, 0)) := by rw [hw1]; exact heap_new rfl
  have b1 : Below w.heap.size w w1 := by rw [hw1]; exact (Below.refl _ _).alloc (Nat.le_refl _) _
  have hlt1 := heap_lt hb1
  have HW1 := hide hw1
  have HB1 := hide b1
  clear hw1 b1
  obtain ⟨C, hC⟩ : ∃ C, C = sv s := ⟨_, rfl⟩
  have HC := hide hC
  rw [← hC]
  rw [← hC] at hb1 HW1 hm
  have HI : Hid ((Tryd.prog.info? 23).map (·.size) = some C.size) := by rw [hC]; exact infoSuper
  clear hC
  cases hq : s.may with
  | false =>
    rw [hq] at hm
    have HQ : Hid (¬ s.ok) := may_not.1 hq
    clear hq
    go_enter Tryd.func11, Tryd.ntmps11
    go_wp2_with (refine wpList_load_row rfl _ _ rfl w.heap.size rfl 23 C (0, 0) _ (heap_alloc_new w _) Tryd.underlying23 rfl HI.out ?_)
    rw [← HW1.out]
    refine (hm w1).mono ?_
    rintro r w2 ⟨rfl, b2⟩
    have HB2 : Hid (Below w.heap.size w w2) := HB1.out.trans (b2.mono HB1.out.size)
    clear b2
    go_wp2
    go_ret2
    exact ⟨.inr ⟨HQ.out, rfl⟩, HB2.out⟩
  | true =>
    rw [hq] at hm
    have HQ : Hid (s.ok) := may_iff.1 hq
    clear hq
    go_enter Tryd.func11, Tryd.ntmps11
    go_wp2_with (refine wpList_load_row rfl _ _ rfl w.heap.size rfl 23 C (0, 0) _ (heap_alloc_new w _) Tryd.underlying23 rfl HI.out ?_)
    rw [← HW1.out]
    refine (hm w1).mono ?_
    rintro r w2 ⟨rfl, b2⟩
    have HB2 : Hid (Below w.heap.size w w2) := HB1.out.trans (b2.mono HB1.out.size)
    have hb2 : w2.heap[w.heap.size]? = some (.cells (sv s) 23 (0, 0)) := by rw [← HC.out]; exact (b2.block _ hlt1).trans hb1
    have HCell : Hid (∀ wX, Below w2.heap.size w2 wX → ∀ k, wX.cell? ⟨w.heap.size, k, none⟩ = (sv s)[k]?) := fun wX h k => cell_of_row _ _ _ _ _ _ ((h.block _ (heap_lt hb2)).trans hb2)
    have hs2 := heap_lt hb2
    obtain ⟨w3, hw3⟩ : ∃ w3, w3 = w2.alloc (.cells #[.slice none 0 0, .int .i64 0] 47) := ⟨_, rfl⟩
    obtain ⟨w4, hw4⟩ : ∃ w4, w4 = w3.alloc (.cells #[.int .u8 76, .int .u8 77, .int .u8 76, .int .u8 65] 5 (4, 5)) := ⟨_, rfl⟩
    have s3 : w3.heap.size = w2.heap.size + 1 := by rw [hw3]; simp
    have s4 : w4.heap.size = w2.heap.size + 1 + 1 := by rw [hw4]; simp [s3]
    have b4 : Below w2.heap.size w2 w4 := by rw [hw4, hw3]; exact ((Below.refl _ _).alloc (Nat.le_refl _) _).alloc (by simp) _
    have hv4 : WrR w4 w2.heap.size w3.heap.size (.slice none 0 0) ([], 0) := by
      rw [hw4]
      have h : WrR w3 w2.heap.size w3.heap.size (.slice none 0 0) ([], 0) := by
        rw [hw3]; exact ⟨none, 0, 0, [], rfl, Hd.new _ _ _ _ _ _, World.ownsRow_nil _ _ _ _, Bytes.nil, fun _ => rfl, .inl rfl⟩
      exact h.below ((Below.refl _ _).alloc (Nat.le_refl _) _)
    have l4 : Bs w4 (some ⟨w3.heap.size, 0, none⟩) 4 [76, 77, 76, 65] := by
      rw [hw4]; exact bs_new w3 (4, 5) [76, 77, 76, 65] (pre_bytes s 0)
    have kc : ∀ (C : Array Value) (n c : Nat), (convert 29 29 (.slice (some ⟨w2.heap.size + 1, 0, none⟩) n c)).run Tryd.prog ((w2.alloc (.cells #[.slice none 0 0, .int .i64 0] 47)).alloc (.cells C 5)) = .ok (.slice (some ⟨w2.heap.size + 1, 0, none⟩) n c) ((w2.alloc (.cells #[.slice none 0 0, .int .i64 0] 47)).alloc (.cells C 5 (C.size, C.size + 1))) := fun C n c => by
      have := Lib.run_convert_bytes_const (P := Tryd.prog) w3 29 5 C n c Tryd.underlying29 Tryd.underlying5
      rw [s3, hw3] at this
      exact this
    have hwB : w2.heap.size ≤ w3.heap.size := by omega
    have HV4 := hide hv4
    have HL4 := hide l4
    have HB4 := hide b4
    have HW3 := hide hw3
    have HW4 := hide hw4
    clear b2 hm hw3 hw4 hv4 l4 b4 hb2
    go_wp2_with fail
    rw [← HW3.out, ← HW4.out, ← s3]
    refine (refWBytes_any w2.heap.size w3.heap.size 4 4 (some ⟨w3.heap.size, 0, none⟩) (.slice none 0 0) [76, 77, 76, 65] ([], 0) w4 HV4.out (by omega) HL4.out (fun h => by simp at h) (by simp)).mono ?_
    rintro r v0 ⟨rfl, hD⟩
    have hR0 : RI w2 w2.heap.size w3.heap.size (pre s 0) v0 := RI.step (zs' := pre s 0) HV4.out HB4.out (by omega) (Nat.le_refl _) hwB hD
    have HR0 := hide hR0
    have c0 : v0.cell? ⟨w.heap.size, 0, none⟩ = some (.int .i64 s.size) := HCell.out v0 (by obtain ⟨_, _, h, _⟩ := hR0; exact h) 0
    clear hD hR0 HV4 HL4 kc s3 s4 HB4 HW3 HW4
    go_wp2_with fail
    refine (refNum_at w2 w2.heap.size w3.heap.size 0 s s.size 4 v0 HQ.out (by omega) (Nat.le_refl _) hwB HR0.out rfl rfl).mono ?_
    rintro r v1 ⟨rfl, hR1⟩
    have HR1 := hide hR1
    have c1 : v1.cell? ⟨w.heap.size, 2, none⟩ = some (.int .i64 s.inodeAt) := HCell.out v1 (by obtain ⟨_, _, h, _⟩ := hR1; exact h) 2
    clear hR1 HR0 c0
    go_wp2_with fail
    refine (refNum_at w2 w2.heap.size w3.heap.size 1 s s.inodeAt 4 v1 HQ.out (by omega) (Nat.le_refl _) hwB HR1.out rfl rfl).mono ?_
    rintro r v2 ⟨rfl, hR2⟩
    have HR2 := hide hR2
    have c2 : v2.cell? ⟨w.heap.size, 3, none⟩ = some (.int .i64 s.dirAt) := HCell.out v2 (by obtain ⟨_, _, h, _⟩ := hR2; exact h) 3
    clear hR2 HR1 c1
    go_wp2_with fail
    refine (refNum_at w2 w2.heap.size w3.heap.size 2 s s.dirAt 4 v2 HQ.out (by omega) (Nat.le_refl _) hwB HR2.out rfl rfl).mono ?_
    rintro r v3 ⟨rfl, hR3⟩
    have HR3 := hide hR3
    have c3 : v3.cell? ⟨w.heap.size, 4, none⟩ = some (.int .i64 s.fragAt) := HCell.out v3 (by obtain ⟨_, _, h, _⟩ := hR3; exact h) 4
    clear hR3 HR2 c2
    go_wp2_with fail
    refine (refNum_at w2 w2.heap.size w3.heap.size 3 s s.fragAt 4 v3 HQ.out (by omega) (Nat.le_refl _) hwB HR3.out rfl rfl).mono ?_
    rintro r v4 ⟨rfl, hR4⟩
    have HR4 := hide hR4
    have c4 : v4.cell? ⟨w.heap.size, 5, none⟩ = some (.int .i64 s.idAt) := HCell.out v4 (by obtain ⟨_, _, h, _⟩ := hR4; exact h) 5
    clear hR4 HR3 c3
    go_wp2_with fail
    refine (refNum_at w2 w2.heap.size w3.heap.size 4 s s.idAt 4 v4 HQ.out (by omega) (Nat.le_refl _) hwB HR4.out rfl rfl).mono ?_
    rintro r v5 ⟨rfl, hR5⟩
    have HR5 := hide hR5
    have c5 : v5.cell? ⟨w.heap.size, 6, none⟩ = some (.int .i64 s.xattrAt) := HCell.out v5 (by obtain ⟨_, _, h, _⟩ := hR5; exact h) 6
    clear hR5 HR4 c4
    go_wp2_with fail
    refine (refNum_at w2 w2.heap.size w3.heap.size 5 s s.xattrAt 4 v5 HQ.out (by omega) (Nat.le_refl _) hwB HR5.out rfl rfl).mono ?_
    rintro r v6 ⟨rfl, hR6⟩
    have HR6 := hide hR6
    have c6 : v6.cell? ⟨w.heap.size, 9, none⟩ = some (.int .i64 s.root) := HCell.out v6 (by obtain ⟨_, _, h, _⟩ := hR6; exact h) 9
    clear hR6 HR5 c5
    go_wp2_with fail
    refine (refNum_at w2 w2.heap.size w3.heap.size 6 s s.root 4 v6 HQ.out (by omega) (Nat.le_refl _) hwB HR6.out rfl rfl).mono ?_
    rintro r v7 ⟨rfl, hR7⟩
    have HR7 := hide hR7
    have c7 : v7.cell? ⟨w.heap.size, 1, none⟩ = some (.int .i64 s.inodes) := HCell.out v7 (by obtain ⟨_, _, h, _⟩ := hR7; exact h) 1
    clear hR7 HR6 c6
    go_wp2_with fail
    refine (refNum_at w2 w2.heap.size w3.heap.size 7 s s.inodes 2 v7 HQ.out (by omega) (Nat.le_refl _) hwB HR7.out rfl rfl).mono ?_
    rintro r v8 ⟨rfl, hR8⟩
    have HR8 := hide hR8
    have c8 : v8.cell? ⟨w.heap.size, 7, none⟩ = some (.int .i64 s.ids) := HCell.out v8 (by obtain ⟨_, _, h, _⟩ := hR8; exact h) 7
    clear hR8 HR7 c7
    go_wp2_with fail
    refine (refNum_at w2 w2.heap.size w3.heap.size 8 s s.ids 2 v8 HQ.out (by omega) (Nat.le_refl _) hwB HR8.out rfl rfl).mono ?_
    rintro r v9 ⟨rfl, hR9⟩
    have HR9 := hide hR9
    have c9 : v9.cell? ⟨w.heap.size, 8, none⟩ = some (.int .i64 s.frags) := HCell.out v9 (by obtain ⟨_, _, h, _⟩ := hR9; exact h) 8
    clear hR9 HR8 c8
    go_wp2_with fail
    refine (refNum_at w2 w2.heap.size w3.heap.size 9 s s.frags 2 v9 HQ.out (by omega) (Nat.le_refl _) hwB HR9.out rfl rfl).mono ?_
    rintro r v10 ⟨rfl, hR10⟩
    have HR10 := hide hR10
    clear hR10 HR9 c9
    obtain ⟨v, hV, hbV, hsV⟩ := HR10.out
    obtain ⟨vo, vn, vc, ys, rfl, hd, ho, hby, hys, _⟩ := id hV
    obtain rfl : ys = body s := hys rfl
    have hbl := body_length s
    obtain rfl : vn = 38 := by have := ho.1; rw [bv_length, hbl] at this; omega
    have hcv : v10.cell? ⟨w2.heap.size, 0, none⟩ = some (.slice vo 38 vc) := hd.c0
    obtain ⟨S, hS⟩ : ∃ S, S = more ent 0 (body s) := ⟨_, rfl⟩
    have hSl : S < 4294967296 := by rw [hS]; exact Crc.more_lt small_ent _ (by omega)
    have HSum := hide (refSum_any 38 vc vo (body s) v10 (bs_of_owns ho hby) (by omega))
    rw [← hS] at HSum
    have HNum := hide (refWNum_any w2.heap.size w3.heap.size (.slice vo 38 vc) S 4 (body s, 0) v10 hV hsV (by simp only [hbl]; omega) (by omega) (by omega))
    have HE8 : Hid (wNum S 4 (body s, 0) = (body s ++ by' 4 S, 0)) := by
      show _ = _
      unfold wNum wByt
      rw [if_pos ⟨by omega, by omega, by omega, by show (S : Int) < 256 ^ 4; omega⟩, if_pos rfl]; rfl
    have HVV := hide hV
    have HbV := hide hbV
    have HSm := hide hS
    clear hd ho hby hys hV hbV hS HR10
    go_wp2_with fail
    refine HSum.out.mono ?_
    rintro r wx ⟨rfl, hwx⟩
    obtain rfl := hwx.symm
    clear hwx HSum
    go_wp2_with fail
    refine HNum.out.mono ?_
    rintro r w8 ⟨rfl, hD⟩
    rw [HE8.out] at hD
    have hR8 := RI.step HVV.out HbV.out hsV (Nat.le_refl _) hwB hD
    obtain ⟨F, hF⟩ : ∃ F, F = body s ++ by' 4 S := ⟨_, rfl⟩
    have hFl : F.length = 42 := by rw [hF]; simp [hbl, by_length]
    rw [← hF] at hR8
    obtain ⟨v8, h8, b8, z8⟩ := hR8
    have HD := hide (refDoneOwn_any w2.heap.size w3.heap.size 42 v8 F w8 h8 hFl (by omega))
    have HF := hide hF
    have HB8 := hide b8
    have hFb : Bytes F := by rw [hF]; exact (pre_bytes s 10).append (by_bytes _ _)
    clear hD h8 b8 HVV HbV HNum HE8 hbl hF hcv
    go_wp2_with fail
    refine HD.out.mono ?_
    rintro r w9 ⟨ao9, c9, rfl, hO9, b9⟩
    have HO9 : Hid (w9.ownsRow w8.heap.size 5 1 (.slice ao9 (42 + 0) c9) (42 + 0) (bv (F ++ List.replicate 0 0))) := by show World.ownsRow _ _ _ _ _ _ _; simpa using hO9
    have hs9 := b9.size
    have HB9 : Hid (Below w.heap.size w w9) := by
      have h1 := HB2.out.trans (HB8.out.mono HB2.out.size)
      exact h1.trans (b9.mono h1.size)
    clear hO9 HD b9
    go_wp2
    go_loopw [6] (fun s6 wr => ∃ (k n c : Nat) (ao : Option Addr), s6 = .slice ao n c ∧ n = 42 + k ∧ k ≤ 22 ∧ wr.ownsRow w8.heap.size 5 1 (.slice ao n c) n (bv (F ++ List.replicate k 0)) ∧ Below w.heap.size w wr ∧ w8.heap.size ≤ wr.heap.size) (fun s6 _ => 64 - slen s6)
    case atStart => exact ⟨0, 42, c9, ao9, rfl, rfl, by omega, HO9.out, HB9.out, hs9⟩
    case round =>
      obtain ⟨k, n, c, ao, rfl, hn, hk, hO, hB, hsz⟩ := hrel
      have HO := hide hO
      have HB := hide hB
      have hws : w.heap.size ≤ w8.heap.size := by have := HB2.out.size; have := HB8.out.size; omega
      have HN := hide hn
      have hn64 : n ≤ 64 := by omega
      clear hO hB HO9 HB9 hs9 hn
      by_cases hlt : n < 64
      · have hlt' : (n : Int) < 64 := by omega
        have ho := HO.out.alloc (.cells #[.int .u8 0] 5)
        have hsrc : Bs (wr.alloc (.cells #[.int .u8 0] 5)) (some ⟨wr.heap.size, 0, none⟩) 1 [0] := bs_new wr (0, 0) [0] (fun x hx => by simp at hx; omega)
        go_wp2_with (first
          | (at_builtin
             refine wpList_append_bs _ (by rfl) (.tmp 54) (.tmp 55) (by rfl) w8.heap.size ao n c (F ++ List.replicate k 0) (by rfl) ho (some ⟨wr.heap.size, 0, none⟩) 1 1 [0] (by rfl) hsrc (fun h => by simp at h) (by omega) (by simp; omega) ?_
             intro ao' c' w' ho' hg'
             have HO' := hide ho'
             have HB' : Hid (Below w.heap.size w w' ∧ w8.heap.size ≤ w'.heap.size) := ⟨((HB.out.alloc HB.out.size _).grown hg' (by simp; omega) (fun kk e => Nat.le_trans hws (ho.lt kk e).1)), by have := hg'.size; simp at this; omega⟩
             clear ho' hg'))
        go_roundw
        case rel => exact ⟨k + 1, n + 1, c', ao', rfl, by have := HN.out; omega, by have := HN.out; omega, by have h := HO'.out; rw [List.append_assoc, ← List.replicate_succ'] at h; exact h, HB'.out.1, HB'.out.2⟩
        case measure => simp [slen]; omega
      · have hlt' : decide ((n : Int) < 64) = false := by simp; omega
        have hfin : n = 64 := by omega
        subst hfin
        obtain rfl : k = 22 := by have := HN.out; omega
        go_wp2
        go_ret2
        refine ⟨.inl ⟨HQ.out, ao, c, rfl, ?_⟩, HB.out⟩
        have h := bs_of_owns HO.out (hFb.append (fun x hx => by simp at hx; omega))
        have e : F ++ List.replicate 22 0 = put ent s := by rw [HF.out, HSm.out]; simp [put]
        rw [e] at h
        exact h
end Go.Proofs.YthghodmjpdooaaaDoor

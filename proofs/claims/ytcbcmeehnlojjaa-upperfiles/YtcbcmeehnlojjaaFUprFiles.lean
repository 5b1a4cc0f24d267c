import Derived.Test.YtcbcmeehnlojjaaFUprLinks
import Derived.Test.YtcbcmeehnlojjaaFMats
set_option linter.unusedVariables false
namespace Go.Proofs.Ytcbcmeehnlojjaa
open Go.RowKit Go.Maps
open Nam Tre Tab
open Lz (g)
namespace Upr
def kd17 (c : Int) (m : Int) : Int := (if c < 0 then -(c + 1) else c) % m
set_option maxRecDepth 100000 in
theorem kind17 (c m : Int) (w : World) (hm : 0 < m) (hm2 : m ≤ 100000) (hc : -9223372036854775808 ≤ c ∧ c ≤ 9223372036854775807) :
  Calls Try.prog 14 #[.int .i64 c, .int .i64 m] w fun e w' => e = .returned (.int .i64 (kd17 c m)) ∧ w' = w := by
 unfold kd17
 by_cases h : c < 0
 ·rw [if_pos h]
  have hp : 0 ≤ -(c + 1) := by omega
  have he : (-(c + 1)).tmod m = -(c + 1) % m := Int.tmod_eq_emod_of_nonneg hp
  go_enter Try.func14, Try.ntmps14
  go_wp2
  go_ret
  exact ⟨rfl, rfl⟩
 ·rw [if_neg h]
  have hp : 0 ≤ c := by omega
  have he : c.tmod m = c % m := Int.tmod_eq_emod_of_nonneg hp
  go_enter Try.func14, Try.ntmps14
  go_wp2
  go_ret
  exact ⟨rfl, rfl⟩
theorem bs_none (w : World) (ao : Option Addr) : Bs w ao 0 [] := ⟨rfl, fun i => by simp [Lz.g], .inl rfl⟩
def nD (D : List Int) : Nod := ⟨[], 2, 2, 0, 0, 0, D, ⟨#[]⟩, [], false⟩
def sD (D : List Int) : Us := s1 (nD D) [⟨#[102]⟩]
theorem val_f : valid (⟨#[102]⟩ : ByteArray).toList = 0 := by rw [toList_mk]; decide
structure FW (W0 w : World) (p : Nat) (c : Nat → Cl) (D : List Int) (wa : Option Addr) (wc : Nat) : Prop where
 ls : LS W0 w p c (9, 9) (sD D) []
 row : Bs w wa D.length D
 le : D.length ≤ wc
 cm : wc ≤ 5000
 nil : wa = none → wc = 0
 col : ∀ a, wa = some a → c a.block = .no ∧ a.block < w.heap.size
 len : D.length ≤ 4096
section
variable {W0 w w' w1 : World} {p : Nat} {c c' c1 : Nat → Cl} {D D' : List Int} {wa : Option Addr} {wc : Nat}
theorem LS.fr0 {q : Int × Int} {u : Us} (h : LS W0 w p c q u []) {S : Nat → Prop} (hf : Fr S w w') (hS : ∀ k, S k → c k = .no ∧ W0.heap.size ≤ k) : LS W0 w' p c q u [] :=
 ⟨h.up.fr hf (fun k hk hx => hk (hS k hx).1), h.bel.trans (hf.below _ h.bel.size (fun k hk => (hS k hk).2)), h.col, fun x hx => by simp at hx⟩
theorem bs_at {k : Nat} {zs : List Int} (hx : w.heap[k]? = some (.cells (bv zs).toArray 5 (0, 0))) (hb : Bytes zs) : Bs w (some ⟨k, 0, none⟩) zs.length zs :=
 ⟨rfl, hb.g, .inr ⟨k, 0, rfl, heap_lt hx, fun i hi => by simp [World.cell?, hx, bv, Lz.g, hi]⟩⟩
theorem FW.same (h : FW W0 w p c D wa wc) (hup : Up w1 p c1 (9, 9) (sD D)) (hf : Fr (fun k => c k ≠ .no) w w1) (he : Ext c c1 w) : FW W0 w1 p c1 D wa wc :=
 ⟨h.ls.step hup hf he, h.row.fr hf (fun a ha _ hx => hx (h.col a ha).1), h.le, h.cm, h.nil, fun a ha => by
  obtain ⟨q1, q2⟩ := h.col a ha
  exact ⟨by rw [he _ q2]; exact q1, Nat.lt_of_lt_of_le q2 hf.size⟩, h.len⟩
theorem FW.grown (h : FW W0 w p c D wa wc) {u : Us} (hup : Up w1 p c1 (9, 9) u) (hf : Fr (fun k => c k ≠ .no) w w1) (he : Ext c c1 w) (k : Nat) (hk : k ≤ 4096) :
  ∃ w3, (Builtin.copy_ #[25, 25] 3 #[.slice (some ⟨w1.heap.size, 0, none⟩) k k, .slice wa D.length wc]).run Try.prog (w1.alloc (.cells (bv (List.replicate k 0)).toArray 5)) = .ok (.int .i64 ((min D.length k : Nat) : Int)) w3 ∧
   LS W0 w3 p c1 (9, 9) u [] ∧ w3.heap[w1.heap.size]? = some (.cells (bv (sz D k)).toArray 5 (0, 0)) ∧ c1 w1.heap.size = .no ∧ w1.heap.size < w3.heap.size := by
 have hl := h.ls.step hup hf he
 have hl2 := hl.below (below_one w1 (.cells (bv (List.replicate k 0)).toArray 5))
 have b2 : Bs (w1.alloc (.cells (bv (List.replicate k 0)).toArray 5)) wa D.length D := (h.row.fr hf (fun a ha _ hx => hx (h.col a ha).1)).alloc _
 obtain ⟨w3, r3, x3, f3, s3⟩ := copy_over (w1.alloc (.cells (bv (List.replicate k 0)).toArray 5)) (some ⟨w1.heap.size, 0, none⟩) w1.heap.size 0 k k wa D.length wc (List.replicate k 0) D 5 (heap_new rfl) b2 h.nil (by simp; omega) (fun _ => rfl) 3
 rw [sz_ovr] at x3
 have hfree := hl.free (Nat.le_refl _)
 exact ⟨w3, r3, hl2.fr0 f3 (fun i hi => by have hi' : i = w1.heap.size := hi; subst hi'; exact ⟨hfree, hl.bel.size⟩), x3, hfree, heap_lt x3⟩
theorem FW.rz (h : FW W0 w p c D wa wc) (k : Nat) (hk : k ≤ 4096) (hup : Up w1 p c1 (9, 9) (sD (sz D k))) (hf : Fr (fun k => c k ≠ .no) w w1) (he : Ext c c1 w) :
  ∃ w3, (Builtin.copy_ #[25, 25] 3 #[.slice (some ⟨w1.heap.size, 0, none⟩) k k, .slice wa D.length wc]).run Try.prog (w1.alloc (.cells (bv (List.replicate k 0)).toArray 5)) = .ok (.int .i64 ((min D.length k : Nat) : Int)) w3 ∧
   FW W0 w3 p c1 (sz D k) (some ⟨w1.heap.size, 0, none⟩) k := by
 obtain ⟨w3, r3, l3, x3, c3, s3⟩ := h.grown hup hf he k hk
 have hl := sz_length D k
 exact ⟨w3, r3, l3, bs_at x3 (sz_bytes h.row.bytes k), by omega, by omega, (fun e => by cases e), fun a ha => by cases ha; exact ⟨c3, s3⟩, by omega⟩
theorem FW.wr (h : FW W0 w p c D wa wc) (k n cc m : Nat) (ba : Option Addr) (B : List Int) (hB : Bs w ba n B) (hBc : ∀ a, ba = some a → 0 < n → c a.block = .no ∧ a.block < w.heap.size) (hBn : ba = none → cc = 0) (hn : 0 < n) (hk : k + n ≤ 4096) (hm : m = max D.length (k + n)) (hup : Up w1 p c1 (9, 9) (sD (ov D k B))) (hf : Fr (fun k => c k ≠ .no) w w1) (he : Ext c c1 w) :
  ∃ w3 w4, (Builtin.copy_ #[25, 25] 3 #[.slice (some ⟨w1.heap.size, 0, none⟩) m m, .slice wa D.length wc]).run Try.prog (w1.alloc (.cells (bv (List.replicate m 0)).toArray 5)) = .ok (.int .i64 ((min D.length m : Nat) : Int)) w3 ∧
   (Builtin.copy_ #[25, 25] 3 #[.slice (some ⟨w1.heap.size, k, none⟩) (m - k) (m - k), .slice ba n cc]).run Try.prog w3 = .ok (.int .i64 (n : Int)) w4 ∧
   FW W0 w4 p c1 (ov D k B) (some ⟨w1.heap.size, 0, none⟩) m := by
 have hD := h.len
 have hBl := hB.1
 obtain ⟨w3, r3, l3, x3, c3, s3⟩ := h.grown hup hf he m (by omega)
 have hb1 : Bs w1 ba n B := hB.fr hf (fun a ha h0 hx => hx (hBc a ha h0).1)
 have hb2 : Bs (w1.alloc (.cells (bv (List.replicate m 0)).toArray 5)) ba n B := hb1.alloc _
 have hsl : (sz D m).length = m := sz_length _ _
 have hl := h.ls.step hup hf he
 obtain ⟨w3', r3', _, f3, _⟩ := copy_over (w1.alloc (.cells (bv (List.replicate m 0)).toArray 5)) (some ⟨w1.heap.size, 0, none⟩) w1.heap.size 0 m m wa D.length wc (List.replicate m 0) D 5 (heap_new rfl) ((h.row.fr hf (fun a ha _ hx => hx (h.col a ha).1)).alloc _) h.nil (by simp; omega) (fun _ => rfl) 3
 obtain rfl : w3 = w3' := by
  have := r3.symm.trans r3'
  injection this
 have hb3 : Bs w3 ba n B := hb2.fr f3 (fun a ha h0 hx => by
  have hx' : a.block = w1.heap.size := hx
  have := (hBc a ha h0).2
  have := hf.size
  omega)
 obtain ⟨w4, r4, x4, f4, s4⟩ := copy_over w3 (some ⟨w1.heap.size, k, none⟩) w1.heap.size k (m - k) (m - k) ba n cc (sz D m) B 5 x3 hb3 hBn (by omega) (fun _ => rfl) 3
 have hmin : min n (m - k) = n := by omega
 rw [hmin] at r4 x4
 rw [List.take_of_length_le (by omega), hm, ← hBl, sz_ov] at x4
 have hol : (ov D k B).length = m := by rw [ov_length, hm, hBl]
 refine ⟨w3, w4, r3, r4, l3.fr0 f4 (fun i hi => by have hi' : i = w1.heap.size := hi; subst hi'; exact ⟨c3, hl.bel.size⟩), bs_at x4 (ov_bytes h.row.bytes hB.bytes _), by omega, by omega, (fun e => by cases e), fun a ha => by cases ha; exact ⟨c3, by rw [s4]; exact s3⟩, by omega⟩
end
set_option maxRecDepth 100000 in
set_option maxHeartbeats 4000000 in
theorem files_walk (a0 : Option Addr) (len0 cap0 : Nat) (R : Nat → Option Addr × Nat × Nat × List Int) (a1 : Option Addr) (len1 cap1 : Nat) (Z : Nat → Int) (w : World) (f0 : MatB w a0 len0 cap0 R) (f1 : IntsB w a1 len1 cap1 Z) :
  Calls Try.prog 4 #[.slice a0 len0 cap0, .slice a1 len1 cap1] w fun e w' => e = .returned (.bool true) ∧ Below w.heap.size w w' := by
 have HM0 : Hid (∀ i, i < len0 → ∃ xb xo, a0 = some ⟨xb, xo, none⟩ ∧ ∀ W, Below w.heap.size w W → W.cell? ⟨xb, xo + i, none⟩ = some (.slice (R i).1 (R i).2.1 (R i).2.2.1) ∧ Bs W (R i).1 (min (R i).2.1 300) ((R i).2.2.2.take (min (R i).2.1 300)) ∧ (R i).2.1 ≤ (R i).2.2.1 ∧ ((R i).1 = none → (R i).2.2.1 = 0) ∧ (∀ a, (R i).1 = some a → 0 < min (R i).2.1 300 → a.block < w.heap.size)) := fun i hi => by
  rcases f0 with ⟨_, h0, _⟩ | ⟨x, rfl, hlc, hcm, hcs⟩
  ·omega
  obtain ⟨hcell, hrow⟩ := hcs i hi
  obtain ⟨xb, xo, spot⟩ := x
  have hcell0 := (hcs 0 (by omega)).1
  have hspot : spot = none := by simpa [Addr.add] using World.cell?_spot hcell0
  subst hspot
  have hxlt : xb < w.heap.size := by
   have := World.block_lt_of_cell? w _ hcell0
   simpa [Addr.add] using this
  rw [Addr.add_lit] at hcell
  obtain ⟨h1, h2, h3, h4, h5⟩ := hrow.bs (min (R i).2.1 300) (by omega)
  refine ⟨xb, xo, rfl, fun W hW => ⟨(hW.cell (by exact hxlt)).trans hcell, h1.below hW, h2, h5, fun a ha h0 => ?_⟩⟩
  rcases h1.2.2 with h | ⟨b, off, g1, g2, _⟩
  ·omega
  ·rw [ha] at g1; injection g1 with g1; rw [g1]; exact g2
 have HM1 : Hid (∀ i, i < len1 → ∃ xb xo, a1 = some ⟨xb, xo, none⟩ ∧ In64 (Z i) ∧ ∀ W, Below w.heap.size w W → W.cell? ⟨xb, xo + i, none⟩ = some (.int .i64 (Z i))) := fun i hi => by
  rcases f1.2 with h0 | ⟨b, off, h1, h2, h3⟩
  ·omega
  exact ⟨b, off, h1, (h3 i hi).2, fun W hW => (hW.cell (by exact h2)).trans (h3 i hi).1⟩
 have hl1 := f1.1
 have hl0 : len0 ≤ 9223372036854775807 := by
  rcases f0 with ⟨_, rfl, _⟩ | ⟨_, _, h1, h2, _⟩
  ·omega
  ·unfold maxLen at h2; omega
 clear f0 f1
 go_enter Try.func4, Try.ntmps4
 go_wp2_with (go_at_call 6; refine (ushown_any w).mono ?_; rintro e ws ⟨rfl, hb0⟩; have HB0 := hide hb0; clear hb0)
 refine (uNew_any 9 9 ws).mono ?_
 rintro e wn ⟨p, c, rfl, hup, hb, hc⟩
 have HL := hide (LS.new HB0.out hup hb hc)
 clear hup hb hc
 have HMk : Hid (Calls Try.prog 9 #[.pointer (some ⟨p, 0, none⟩), .int .i64 1, .string ⟨#[102]⟩, .agg (vF none 0 0).cells] wn fun e w' => e = .returned (.tuple #[.int .i64 2, .int .i64 0]) ∧ ∃ c', LS w w' p c' (9, 9) (sD []) []) := by
  refine (uMake_any 1 ⟨#[102]⟩ (vF none 0 0) (nF []) wn HL.out.up sm_u0 Upr.w1 (sz_ab _) (fun W hW => rep_file (bs_none _ _) (Nat.le_refl _) (by omega) (fun _ => rfl))).mono ?_
  rw [mk_file val_f (by simp)]
  rintro e w' ⟨h1, c', h2, h3, h4⟩
  exact ⟨h1, c', HL.out.step h2 h3 h4⟩
 go_wp2_with (first
  | (go_at_call 9; refine HMk.out.mono ?_; rintro e w3 ⟨rfl, c3, hL3⟩; have HL3 := hide hL3; clear hL3))
 clear HMk HL
 have HF0 : Hid (FW w (w3.alloc (.cells #[] 5)) p c3 [] (some ⟨w3.heap.size, 0, none⟩) 0) :=
  ⟨HL3.out.below (below_one _ _), bs_none _ _, Nat.le_refl _, by omega, (fun e => by cases e), fun a ha => by cases ha; exact ⟨HL3.out.free (Nat.le_refl _), by simp⟩, by simp⟩
 go_loopw [9, 10] (fun s9 s10 wr => ∃ (i wc : Nat) (D : List Int) (wa : Option Addr) (c : Nat → Cl), s9 = .slice wa D.length wc ∧ s10 = .int .i64 i ∧ i ≤ 20 ∧ FW w wr p c D wa wc) (fun _ s10 _ => 20 - (intOf s10).toNat)
 case atStart => exact ⟨0, 0, [], _, c3, rfl, rfl, by omega, HF0.out⟩
 case round =>
  clear HF0 HL3
  obtain ⟨i, wc, D, wa, c, rfl, rfl, hi20, hF⟩ := hrel
  have HF := hide hF
  have hDl := hF.len
  have hD5 : D.length ≤ wc := hF.le
  have hwc := hF.cm
  clear hF
  by_cases hgo : i < len0 ∧ i < len1 ∧ i < 20
  ·obtain ⟨g0, g1, g2⟩ := hgo
   obtain ⟨xb, xo, rfl, hm0⟩ := HM0.out i g0
   obtain ⟨yb, yo, rfl, hz64, hm1⟩ := HM1.out i g1
   obtain ⟨hc0, hB, hLC, hnil, hcol⟩ := hm0 wr HF.out.ls.bel
   have hc1 := hm1 wr HF.out.ls.bel
   clear hm0 hm1
   have j0 : (i : Int) < (len0 : Int) := by omega
   have j1 : (i : Int) < (len1 : Int) := by omega
   have j2 : (i : Int) < 20 := by omega
   have HB := hide hB
   have HCol : Hid (∀ a, (R i).1 = some a → 0 < min (R i).2.1 300 → c a.block = .no ∧ a.block < wr.heap.size) := fun a ha h0 => by
    have := hcol a ha h0
    exact ⟨HF.out.ls.col _ this, Nat.lt_of_lt_of_le this HF.out.ls.bel.size⟩
   clear hB hcol
   generalize (R i).1 = A at *
   generalize (R i).2.1 = L at *
   generalize (R i).2.2.1 = Cp at *
   generalize (R i).2.2.2.take (min L 300) = B at *
   generalize Z i = z at *
   obtain ⟨cb, hcb⟩ : ∃ b, decide ((300 : Int) < L) = b := ⟨_, rfl⟩
   go_upto_if 59 with fail
   go_cut [11] from 60 to 61 (fun s11 wx => s11 = .slice A (min L 300) Cp ∧ wx = wr)
   case first =>
    cases cb with
    | true =>
     have h3 := of_decide_eq_true hcb
     have e3 : min L 300 = 300 := by omega
     go_wp2_with fail
     go_meet
     case rel => exact ⟨by rw [e3], rfl⟩
    | false =>
     have h3 := of_decide_eq_false hcb
     have e3 : min L 300 = L := by omega
     go_wp2_with fail
     go_meet
     case rel => exact ⟨by rw [e3], rfl⟩
   case rest =>
    obtain ⟨rfl, hwc'⟩ := hcut
    obtain rfl := hwc'.symm
    have hn3 : min L 300 ≤ 300 := by omega
    have hnC : min L 300 ≤ Cp := by omega
    clear hcb
    generalize min L 300 = n at *
    have hk0 : 0 ≤ kd17 z 4500 := Int.emod_nonneg _ (by omega)
    have hk1 : kd17 z 4500 < 4500 := Int.emod_lt_of_pos _ (by omega)
    have HK := hide (kind17 z 4500 wr (by omega) (by omega) hz64)
    obtain ⟨k, hk⟩ : ∃ k : Nat, kd17 z 4500 = k := ⟨(kd17 z 4500).toNat, by omega⟩
    rw [hk] at HK hk1
    clear hk hk0
    have HBl := HB.out.1
    have HU := hide HF.out.ls.up
    by_cases hz : z < 0
    ·have t1 : decide (z < 0) = true := by simpa using hz
     have HRz := hide (uResize_any 2 k wr HU.out Upr.w2 ⟨by omega, by omega⟩)
     by_cases hk4 : k ≤ 4096
     ·have t2 : decide ((k : Int) ≤ 4096) = true := by simp; omega
      have e1 : rz (sD D) 2 k = (0, sD (sz D k)) := by
       unfold sD; rw [s1_rz rfl rfl, if_neg (by omega), if_neg (by omega)]; rfl
      rw [e1] at HRz
      have mk := make_noughts k (by omega)
      clear e1 hz
      go_wp2_with (first
       | (go_at_call 14; refine HK.out.mono ?_; rintro e wx ⟨rfl, hwx⟩; obtain rfl := hwx.symm; clear hwx)
       | (go_at_call 17; refine HRz.out.mono ?_; rintro e w6 ⟨rfl, c6, h1, h2, h3⟩; obtain ⟨w7, r7, hF7⟩ := HF.out.rz k hk4 h1 h2 h3; have HF7 := hide hF7; have HD7 := hide (sz_length D k); clear h1 h2 h3 hF7))
      exact ⟨⟨i + 1, k, sz D k, _, c6, by rw [HD7.out], by go_num, by omega, HF7.out⟩, by simp [intOf]; omega⟩
     ·have t2 : decide ((k : Int) ≤ 4096) = false := by simp; omega
      have e1 : rz (sD D) 2 k = (3, sD D) := by
       unfold sD; rw [s1_rz rfl rfl, if_neg (by omega), if_pos (by omega)]
      rw [e1] at HRz
      clear e1 hz
      go_wp2_with (first
       | (go_at_call 14; refine HK.out.mono ?_; rintro e wx ⟨rfl, hwx⟩; obtain rfl := hwx.symm; clear hwx)
       | (go_at_call 17; refine HRz.out.mono ?_; rintro e w6 ⟨rfl, c6, h1, h2, h3⟩; have HF7 := hide (HF.out.same h1 h2 h3); clear h1 h2 h3))
      exact ⟨⟨i + 1, wc, D, _, c6, rfl, by go_num, by omega, HF7.out⟩, by simp [intOf]; omega⟩
    ·have t1 : decide (z < 0) = false := by simpa using hz
     have HWr := hide (uWrite_any 2 k A n Cp B wr HU.out Upr.w2 ⟨by omega, by omega⟩ HB.out hnil (by omega) (fun a ha h0 => (HCol.out a ha h0).1))
     have wk : IntKind.i64.wrap ((k : Int) + n) = (k : Int) + n := by rw [IntKind.wrap_i64]; omega
     by_cases hk4 : k + n ≤ 4096
     ·have t2 : decide ((k : Int) + n ≤ 4096) = true := by simp; omega
      by_cases hn0 : n = 0
      ·have hBn : B = [] := List.eq_nil_of_length_eq_zero (by omega)
       have e1 : Upr.wr (sD D) 2 k B = (0, sD D) := by
        unfold sD; rw [s1_wr rfl rfl, if_neg (by omega), if_neg (by omega), if_pos hBn]
       rw [e1] at HWr
       have t3 : decide (0 < (n : Int)) = false := by simp; omega
       have t4 : ¬ 0 < n := by omega
       clear e1 hz hn0 hBn
       go_wp2_with (first
        | (go_at_call 14; refine HK.out.mono ?_; rintro e wx ⟨rfl, hwx⟩; obtain rfl := hwx.symm; clear hwx)
        | (go_at_call 18; refine HWr.out.mono ?_; rintro e w6 ⟨rfl, c6, h1, h2, h3⟩; have HF7 := hide (HF.out.same h1 h2 h3); clear h1 h2 h3))
       exact ⟨⟨i + 1, wc, D, _, c6, rfl, by go_num, by omega, HF7.out⟩, by simp [intOf]; omega⟩
      ·have hBn : B ≠ [] := fun e => by rw [e] at HBl; simp at HBl; omega
       have e1 : Upr.wr (sD D) 2 k B = (0, sD (ov D k B)) := by
        unfold sD; rw [s1_wr rfl rfl, if_neg (by omega), if_neg (by omega), if_neg hBn]; rfl
       rw [e1] at HWr
       obtain ⟨m, hm⟩ : ∃ m, m = max D.length (k + n) := ⟨_, rfl⟩
       have hmi : max (D.length : Int) ((k : Int) + n) = ((m : Nat) : Int) := by omega
       have mk := make_noughts m (by omega)
       have hn1 : 0 < (n : Int) := by omega
       have t3 : decide (0 < (n : Int)) = true := by simpa using hn1
       have hkm : (k : Int) ≤ m := by omega
       have HOl : Hid ((ov D k B).length = m) := by show _ = _; rw [ov_length, hm, HBl]
       have HSt : Hid (∀ w1 c1, Up w1 p c1 (9, 9) (sD (ov D k B)) → Fr (fun k => c k ≠ .no) wr w1 → Ext c c1 wr → _) := fun w1 c1 h1 h2 h3 => HF.out.wr k n Cp m A B HB.out HCol.out hnil (by omega) hk4 hm h1 h2 h3
       clear e1 hz hBn hm
       go_wp2_with (first
        | (go_at_call 14; refine HK.out.mono ?_; rintro e wx ⟨rfl, hwx⟩; obtain rfl := hwx.symm; clear hwx)
        | (go_at_call 18; refine HWr.out.mono ?_; rintro e w6 ⟨rfl, c6, h1, h2, h3⟩; obtain ⟨w7, w8, r7, r8, hF8⟩ := HSt.out w6 c6 h1 h2 h3; have HF7 := hide hF8; clear h1 h2 h3 hF8))
       all_goals exact ⟨⟨i + 1, m, ov D k B, _, c6, by rw [HOl.out], by go_num, by omega, HF7.out⟩, by simp [intOf]; omega⟩
     ·have t2 : decide ((k : Int) + n ≤ 4096) = false := by simp; omega
      have e1 : Upr.wr (sD D) 2 k B = (3, sD D) := by
       unfold sD; rw [s1_wr rfl rfl, if_neg (by omega), if_pos (by omega)]
      rw [e1] at HWr
      clear e1 hz
      go_wp2_with (first
       | (go_at_call 14; refine HK.out.mono ?_; rintro e wx ⟨rfl, hwx⟩; obtain rfl := hwx.symm; clear hwx)
       | (go_at_call 18; refine HWr.out.mono ?_; rintro e w6 ⟨rfl, c6, h1, h2, h3⟩; have HF7 := hide (HF.out.same h1 h2 h3); clear h1 h2 h3))
      exact ⟨⟨i + 1, wc, D, _, c6, rfl, by go_num, by omega, HF7.out⟩, by simp [intOf]; omega⟩
  ·have HRd := hide (HF.out.ls.up.read 2 0 4096 Upr.w2 ⟨by decide, by decide⟩ ⟨by decide, by decide⟩)
   have hrd := rd_s1 (N := nD D) rfl rfl [⟨#[102]⟩] (by exact hDl)
   rw [show sD D = s1 (nD D) [⟨#[102]⟩] from rfl, hrd.1, hrd.2, show (nD D).data = D from rfl] at HRd
   clear hrd
   have HStr : Hid (∀ w8 ad cd, New wr w8 ad D.length cd D → (convert 25 9 (.slice ad D.length cd)).run Try.prog w8 = .ok (.string (strOfNums D)) w8 ∧ (convert 25 9 (.slice wa D.length wc)).run Try.prog w8 = .ok (.string (strOfNums D)) w8 ∧ Below w.heap.size w w8) := fun w8 ad cd hN =>
    ⟨str_any hN.bs cd, str_any (HF.out.row.below hN.bel) wc, HF.out.ls.bel.trans (hN.bel.mono HF.out.ls.bel.size)⟩
   have hcases : (¬ i < len0 ∧ ¬ (i : Int) < len0) ∨ ((i < len0 ∧ (i : Int) < len0) ∧ (¬ i < len1 ∧ ¬ (i : Int) < len1)) ∨ ((i < len0 ∧ (i : Int) < len0) ∧ (i < len1 ∧ (i : Int) < len1) ∧ (¬ i < 20 ∧ ¬ (i : Int) < 20)) := by omega
   clear hgo
   rcases hcases with ⟨c1, c2⟩ | ⟨⟨c1, c2⟩, c3, c4⟩ | ⟨⟨c1, c2⟩, ⟨c3, c4⟩, c5, c6⟩
   all_goals
    go_wp2_with (first
     | (go_at_call 19; refine HRd.out.mono ?_; rintro e w8 ⟨ad, cd, rfl, hN8⟩; obtain ⟨r8, r9, hb8⟩ := HStr.out w8 ad cd hN8; have HB8 := hide hb8; clear hN8 hb8))
    all_goals (go_ret; exact ⟨rfl, HB8.out⟩)
end Upr
end Go.Proofs.Ytcbcmeehnlojjaa

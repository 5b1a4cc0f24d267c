/- The walks of the reference's reader's Next, and of its Read where the arguments or the places are wrong. -/
import Derived.Test.YtahbgebnmgnmoaaMetRefRd
namespace Go.Proofs.Ytahbgebnmgnmoaa
set_option linter.unusedVariables false
open Go.RowKit Go.Maps
open Lz (g)
open Crc (ent)
open Frm Mtr

theorem yReadNeg_any (y : Nat) (ref n : Int) (w : World) (hq : -9223372036854775808 ≤ ref ∧ ref ≤ 9223372036854775807) (hn : -9223372036854775808 ≤ n ∧ n ≤ 9223372036854775807) (h : ref < 0 ∨ n < 0) :
    Calls Try.prog 18 #[.pointer (some ⟨y, 0, none⟩), .int .i64 ref, .int .i64 n] w fun r w' => r = .returned (.tuple #[.slice none 0 0, .int .i64 0, .int .i64 1]) ∧ w' = w := by
  by_cases h1 : ref < 0
  · go_enter Try.func18, Try.ntmps18
    go_wp2
    go_ret3
    exact ⟨rfl, rfl⟩
  · have h2 : n < 0 := by omega
    have g1 : decide (ref < 0) = false := by simp; omega
    go_enter Try.func18, Try.ntmps18
    go_wp2
    go_ret3
    exact ⟨rfl, rfl⟩
theorem yReadNot_any (y n0 c0 : Nat) (Im : List Int) (a b : Int) (ao0 : Option Addr) (ref n : Int) (w : World) (h : RdY w y Im a b ao0 n0 c0) (ha : -9223372036854775808 ≤ a ∧ a ≤ 9223372036854775807) (hb : -9223372036854775808 ≤ b ∧ b ≤ 9223372036854775807) (hno : ¬ (0 ≤ a ∧ b ≤ n0 ∧ a ≤ b)) (hq : 0 ≤ ref ∧ ref ≤ 9223372036854775807) (hn : 0 ≤ n ∧ n ≤ 9223372036854775807) :
    Calls Try.prog 18 #[.pointer (some ⟨y, 0, none⟩), .int .i64 ref, .int .i64 n] w fun r w' => r = .returned (.tuple #[.slice none 0 0, .int .i64 0, .int .i64 2]) ∧ Below w.heap.size w w' := by
  have g1 : decide (ref < 0) = false := by simp; omega
  have g2 : decide (n < 0) = false := by simp; omega
  have HM := hide (yMay_any y n0 c0 Im a b ao0 w h ha hb false (by symm; simpa using hno))
  clear h hno
  go_enter Try.func18, Try.ntmps18
  go_wp2_with fail
  refine HM.out.mono ?_
  rintro r w1 ⟨rfl, hb1⟩
  have HB := hide hb1
  clear hb1 HM
  go_wp2
  go_ret3
  exact ⟨rfl, HB.out⟩
theorem yNextNeg_any (y : Nat) (ref : Int) (w : World) (hq : -9223372036854775808 ≤ ref ∧ ref < 0) :
    Calls Try.prog 20 #[.pointer (some ⟨y, 0, none⟩), .int .i64 ref] w fun r w' => r = .returned (.tuple #[.int .i64 0, .int .i64 1]) ∧ w' = w := by
  have h := hq.2
  go_enter Try.func20, Try.ntmps20
  go_wp2
  go_ret2
  exact ⟨rfl, rfl⟩
set_option maxRecDepth 100000 in
theorem yNextNot_any (y n0 c0 : Nat) (Im : List Int) (a b : Int) (ao0 : Option Addr) (ref : Int) (w : World) (h : RdY w y Im a b ao0 n0 c0) (ha : -9223372036854775808 ≤ a ∧ a ≤ 9223372036854775807) (hb : -9223372036854775808 ≤ b ∧ b ≤ 9223372036854775807) (hno : ¬ (0 ≤ a ∧ b ≤ n0 ∧ a ≤ b)) (hq : 0 ≤ ref ∧ ref ≤ 9223372036854775807) :
    Calls Try.prog 20 #[.pointer (some ⟨y, 0, none⟩), .int .i64 ref] w fun r w' => r = .returned (.tuple #[.int .i64 0, .int .i64 2]) ∧ Below w.heap.size w w' := by
  have g1 : decide (ref < 0) = false := by simp; omega
  have HM := hide (yMay_any y n0 c0 Im a b ao0 w h ha hb false (by symm; simpa using hno))
  clear h hno
  go_enter Try.func20, Try.ntmps20
  go_wp2_with fail
  refine HM.out.mono ?_
  rintro r w1 ⟨rfl, hb1⟩
  have HB := hide (fun nq => below_drewN hb1 nq)
  clear hb1 HM
  go_wp2_with fail
  go_quiet (fail)
  go_wp2
  go_ret2
  exact ⟨rfl, HB.out _⟩
theorem nxt_cut {Im : List Int} {a b : Nat} (hb : b ≤ Im.length) (k : Nat) :
    (if (skip ((Im.take b).drop a) k).2 = 0 then (256 * (skip ((Im.take b).drop a) k).1, (0 : Int)) else (0, 2)) = if (skip Im ((a + k : Nat) : Int)).2 ≠ 0 ∨ (b : Int) < (skip Im ((a + k : Nat) : Int)).1 then (0, 2) else (256 * ((skip Im ((a + k : Nat) : Int)).1 - a), 0) := by
  obtain ⟨h1, h2⟩ := skip_cut (a := a) hb k
  by_cases h : (skip ((Im.take b).drop a) k).2 = 0
  · obtain ⟨e1, e2, e3⟩ := h1 h
    rw [if_pos h, if_neg (fun hx => by
      rcases hx with hx | hx
      · exact hx e1
      · omega), e3]
    congr 1; omega
  · rw [if_neg h]
    by_cases h3 : (skip Im ((a + k : Nat) : Int)).2 = 0
    · have h4 : (b : Int) < (skip Im ((a + k : Nat) : Int)).1 := by
        have := h2 h3
        omega
      rw [if_pos (.inr h4)]
    · rw [if_pos (.inl h3)]
theorem skip_far {X : List Int} {k : Int} (h : (X.length : Int) < k) : (skip X k).2 = 2 := by
  unfold skip spot
  rw [if_pos (.inr (by omega))]
set_option maxRecDepth 100000 in
set_option maxHeartbeats 400000 in
theorem yNext_any (y n c a b : Nat) (Im : List Int) (ao : Option Addr) (ref : Nat) (w : World) (h : RdY w y Im a b ao n c) (hab : a ≤ b) (hbn : b ≤ n) (hr : (ref : Int) ≤ 9223372036854775807) :
    Calls Try.prog 20 #[.pointer (some ⟨y, 0, none⟩), .int .i64 ref] w fun r w' => r = .returned (.tuple #[.int .i64 (nxt ((Im.take b).drop a) ref).1, .int .i64 (nxt ((Im.take b).drop a) ref).2]) ∧ Below w.heap.size w w' := by
  have hlit := h.lit
  have himl := h.bs.1
  have hXl := cut_length (Im := Im) (a := a) (b := b) (by omega)
  have g1 : ((ref : Int) < 0) = False := by simp
  obtain ⟨k, hk⟩ : ∃ k : Nat, (ref : Int) / 256 = k := ⟨ref / 256, by omega⟩
  have hkb : (k : Int) ≤ 36028797018963967 := by omega
  have HM := hide (yMay_any y n c Im a b ao w h (by omega) (by omega) true (by simp; omega))
  have HN : Hid (nxt ((Im.take b).drop a) ref = if (skip ((Im.take b).drop a) k).2 = 0 then (256 * (skip ((Im.take b).drop a) k).1, (0 : Int)) else (0, 2)) := by
    show nxt _ _ = _
    unfold nxt; rw [hk]
  have HCut := hide (nxt_cut (Im := Im) (a := a) (b := b) (by omega) k)
  have HFar := hide (fun h => skip_far (X := (Im.take b).drop a) (k := k) h)
  have HH := hide h
  generalize nxt ((Im.take b).drop a) ref = N at *
  generalize (Im.take b).drop a = X at *
  clear h
  go_enter Try.func20, Try.ntmps20
  go_wp2_with fail
  refine HM.out.mono ?_
  rintro r w1 ⟨rfl, hb1⟩
  have h1 := HH.out.below hb1
  have c1 := h1.c1
  have c2 := h1.c2
  have c0 := h1.c0
  have HB1 := hide hb1
  have H1 := hide h1
  have hyl := h1.lt
  clear hb1 HM HH h1
  by_cases hf : b - a < k
  · have e1 : (b : Int) - (a : Int) < (k : Int) := by omega
    have HNN : Hid (N = (0, 2)) := by
      show N = _
      rw [HN.out, if_neg (by rw [HFar.out (by omega)]; decide)]
    have HBq := hide (fun nq => below_drewN HB1.out nq)
    clear HN HCut HFar
    go_wp2_with fail
    go_quiet (fail)
    go_wp2
    go_ret2
    exact ⟨by rw [HNN.out]; rfl, HBq.out _⟩
  · have e1 : (k : Int) ≤ (b : Int) - (a : Int) := by omega
    have e2 : decide ((b : Int) - (a : Int) < (k : Int)) = false := by simp; omega
    have e3 : IntKind.i64.wrap ((a : Int) + (k : Int)) = (a : Int) + k := by rw [IntKind.wrap_i64]; omega
    have e0 : IntKind.i64.wrap (k : Int) = k := by rw [IntKind.wrap_i64]; omega
    have htk : ((a + k : Nat) : Int) = (a : Int) + k := by omega
    rw [htk] at HCut
    have HK := hide (fun nq => refSkip_any n c ((a : Int) + k) ao Im ((w1.drewN nq).drew) (H1.out.bs.below ((below_drewN (Below.refl _ _) nq).drew)) H1.out.cap H1.out.nil H1.out.lit H1.out.max (by omega))
    have hsk := skip_next (z := Im) (at' := (a : Int) + k)
    unfold Skips at HK
    generalize skip Im ((a : Int) + k) = sk at *
    obtain ⟨nx, er⟩ := sk
    simp only at HCut HK hsk
    have HSk := hide hsk
    clear hsk
    go_wp2_with fail
    go_quiet (fail)
    have c0q : (w1.drewN nq).cell? ⟨y, 0, none⟩ = some (.slice ao n c) := c0
    have c1q : (w1.drewN nq).cell? ⟨y, 1, none⟩ = some (.int .i64 a) := c1
    go_wp2_with fail
    go_region_held3 (fun wX => wX.cell? ⟨y, 0, none⟩ = some (.slice ao n c) ∧ wX.cell? ⟨y, 1, none⟩ = some (.int .i64 a)) (go_keep)
      ((first
        | (go_at_call 31; refine (HK.out nq).mono ?_; rintro r w5 ⟨rfl, hb5⟩; have hbw : Below w1.heap.size w1 w5 := ⟨hb5.os, hb5.tape, hb5.output, hb5.size, hb5.block⟩; have d0 := (hbw.cell (p := ⟨y, 0, none⟩) hyl).trans c0; have d1 := (hbw.cell (p := ⟨y, 1, none⟩) hyl).trans c1; have d2 := (hbw.cell (p := ⟨y, 2, none⟩) hyl).trans c2; have HBw := hide (HB1.out.trans (hbw.mono HB1.out.size)); clear hb5 hbw)))
    clear HK c0q c1q
    rcases HSk.out with h0 | ⟨h0, h2, h3, h4⟩
    · have her : er = 2 := by injection h0 with _ h
      have HNN : Hid (N = (0, 2)) := by
        show N = _
        rw [HN.out, HCut.out, if_pos (.inl (by rw [her]; decide))]
      subst her
      clear HN HCut HFar HSk h0
      go_wp2
      go_ret2
      exact ⟨by rw [HNN.out]; rfl, HBw.out⟩
    · subst h0
      by_cases h5 : (b : Int) < nx
      · have HNN : Hid (N = (0, 2)) := by
          show N = _
          rw [HN.out, HCut.out, if_pos (.inr h5)]
        clear HN HCut HFar HSk
        go_wp2
        go_ret2
        exact ⟨by rw [HNN.out]; rfl, HBw.out⟩
      · have HNN : Hid (N = (256 * (nx - a), 0)) := by
          show N = _
          rw [HN.out, HCut.out, if_neg (fun hx => by
            rcases hx with hx | hx
            · exact hx rfl
            · exact h5 hx)]
        have e4 : nx ≤ (b : Int) := by omega
        have e5 : decide ((b : Int) < nx) = false := by simp; omega
        clear HN HCut HFar HSk
        go_wp2
        go_ret2
        exact ⟨by rw [HNN.out]; rfl, HBw.out⟩
end Go.Proofs.Ytahbgebnmgnmoaa

/- Layer 7: slices.SortStableFunc of ints, walked: a row of numbers in memory; two stretches exchanged. -/
import Derived.Test.YtppmekmaclolbabTreStabP
import Derived.Test.YtppmekmaclolbabTreRefFind
import Derived.BigRegion
import Derived.BigQuiet
namespace Go.Proofs.Ytppmekmaclolbab
set_option linter.unusedVariables false
open Go.RowKit Go.Maps
open Stb

def ivs (n : Nat) (C : Nat → Nat) : List Value := (List.range n).map fun k => Value.int .i64 (C k : Int)
theorem ivs_length (n : Nat) (C : Nat → Nat) : (ivs n C).length = n := by simp [ivs]
theorem ivs_get (n : Nat) (C : Nat → Nat) (k : Nat) (h : k < n) : (ivs n C)[k]? = some (.int .i64 (C k : Int)) := by simp [ivs, h]
theorem ivs_set (n : Nat) (C : Nat → Nat) (i z : Nat) : (ivs n C).set i (.int .i64 (z : Int)) = ivs n (fun k => if k = i then z else C k) := by
  apply List.ext_getElem?
  intro k
  rw [List.getElem?_set]
  by_cases hk : k < n
  · rw [ivs_get _ _ k hk, ivs_get _ _ k hk]
    by_cases e : i = k
    · subst e; simp [ivs_length, hk]
    · simp [e, Ne.symm e]
  · rw [List.getElem?_eq_none (by rw [ivs_length]; omega), List.getElem?_eq_none (by rw [ivs_length]; omega)]
    by_cases e : i = k
    · subst e; simp [ivs_length, hk]
    · simp [e]
/-- A row of ints of one's own; the world is as it was but for that row. -/
structure IR (w0 : World) (B blk n cap : Nat) (w : World) (C : Nat → Nat) : Prop where
  row : w.ownsRow B 3 1 (.slice (some ⟨blk, 0, none⟩) n cap) n (ivs n C)
  bel : Below blk w0 w
theorem IR.set {w0 w : World} {B blk n cap : Nat} {C : Nat → Nat} (h : IR w0 B blk n cap w C) (i z : Nat) : IR w0 B blk n cap (w.setCell ⟨blk, i, none⟩ (.int .i64 (z : Int))) (fun k => if k = i then z else C k) := by
  exact ⟨by have := (h.row.stored i (.int .i64 (z : Int))).1; rw [ivs_set] at this; exact this, h.bel.setCell (Nat.le_refl _) _⟩
theorem IR.same {w0 w : World} {B blk n cap : Nat} {C D : Nat → Nat} (h : IR w0 B blk n cap w C) (e : ∀ k, k < n → D k = C k) : IR w0 B blk n cap w D := by
  have : ivs n D = ivs n C := List.map_congr_left fun k hk => by rw [e k (by simpa using hk)]
  exact ⟨by rw [this]; exact h.row, h.bel⟩
theorem IR.swap {w0 w : World} {B blk n cap : Nat} {C : Nat → Nat} (h : IR w0 B blk n cap w C) (i j : Nat) (hne : i ≠ j) : IR w0 B blk n cap ((w.setCell ⟨blk, i, none⟩ (.int .i64 (C j : Int))).setCell ⟨blk, j, none⟩ (.int .i64 (C i : Int))) (swp C i j) := by
  refine ((h.set i (C j)).set j (C i)).same fun k _ => ?_
  simp only [swp]
  by_cases e : k = i
  · simp only [if_pos e, if_neg (show ¬ k = j by omega)]
  · by_cases f : k = j
    · simp only [if_pos f, if_neg e]
    · simp only [if_neg f, if_neg e]
theorem IR.swap' {w0 w : World} {B blk n cap : Nat} {C : Nat → Nat} (h : IR w0 B blk n cap w C) (i j : Nat) (hne : i ≠ j) : IR w0 B blk n cap ((w.setCell ⟨blk, j, none⟩ (.int .i64 (C i : Int))).setCell ⟨blk, i, none⟩ (.int .i64 (C j : Int))) (swp C i j) := by
  refine ((h.set j (C i)).set i (C j)).same fun k _ => ?_
  simp only [swp]
/-- What a region that exchanges two places wants. -/
theorem IR.swaps {w0 w : World} {B blk n cap : Nat} {C : Nat → Nat} (h : IR w0 B blk n cap w C) {i j : Nat} (hi : i < n) (hj : j < n) (hne : i ≠ j) :
    w.cell? ⟨blk, i, none⟩ = some (.int .i64 (C i : Int)) ∧ w.cell? ⟨blk, j, none⟩ = some (.int .i64 (C j : Int)) ∧ w.frozen? ⟨blk, i, none⟩ = false ∧ w.frozen? ⟨blk, j, none⟩ = false ∧
    (w.setCell ⟨blk, i, none⟩ (.int .i64 (C j : Int))).cell? ⟨blk, j, none⟩ = some (.int .i64 (C j : Int)) ∧ (w.setCell ⟨blk, j, none⟩ (.int .i64 (C i : Int))).cell? ⟨blk, i, none⟩ = some (.int .i64 (C i : Int)) ∧
    (w.setCell ⟨blk, i, none⟩ (.int .i64 (C j : Int))).frozen? ⟨blk, j, none⟩ = false ∧ (w.setCell ⟨blk, j, none⟩ (.int .i64 (C i : Int))).frozen? ⟨blk, i, none⟩ = false := by
  have hc : ∀ {W : World} {D : Nat → Nat}, IR w0 B blk n cap W D → ∀ k, k < n → W.cell? ⟨blk, k, none⟩ = some (.int .i64 (D k : Int)) := fun h k hk => by rw [h.row.cellAt k (by omega), ivs_get _ _ _ hk]
  refine ⟨hc h i hi, hc h j hj, h.row.frozenAt _, h.row.frozenAt _, ?_, ?_, (h.set i (C j)).row.frozenAt _, (h.set j (C i)).row.frozenAt _⟩
  · rw [hc (h.set i (C j)) j hj, if_neg (Ne.symm hne)]
  · rw [hc (h.set j (C i)) i hi, if_neg hne]
theorem IR.drew {w0 w : World} {B blk n cap : Nat} {C : Nat → Nat} (h : IR w0 B blk n cap w C) (q : Nat) : IR w0 B blk n cap (w.drewN q) C := by
  exact ⟨h.row, ⟨h.bel.os, h.bel.tape, h.bel.output, h.bel.size, h.bel.block⟩⟩
theorem IR.drew1 {w0 w : World} {B blk n cap : Nat} {C : Nat → Nat} (h : IR w0 B blk n cap w C) : IR w0 B blk n cap w.drew C := ⟨h.row, h.bel.drew⟩
theorem IR.cell {w0 w : World} {B blk n cap : Nat} {C : Nat → Nat} (h : IR w0 B blk n cap w C) {k : Nat} (hk : k < n) : w.cell? ⟨blk, k, none⟩ = some (.int .i64 (C k : Int)) := by
  rw [h.row.cellAt k (by omega), ivs_get _ _ _ hk]
set_option maxRecDepth 100000 in
theorem swapRange_any (w0 : World) (B blk n cap : Nat) (fv : Value) (a b m : Nat) (C : Nat → Nat) (w : World) (h : IR w0 B blk n cap w C) (hn : n ≤ 1000) (h1 : a + m ≤ b) (h2 : b + m ≤ n) :
    Calls Try.prog 76 #[.slice (some ⟨blk, 0, none⟩) n cap, .int .i64 a, .int .i64 b, .int .i64 m, fv] w fun e w' => e = .returned (.tuple #[]) ∧ IR w0 B blk n cap w' (swr C a b m) := by
  have H := hide h
  clear h
  go_enter Try.func76, Try.ntmps76
  go_wp2
  go_loopw [10] (fun r wr => ∃ i : Nat, r = .int .i64 i ∧ i ≤ m ∧ IR w0 B blk n cap wr (swr C a b i)) (fun r _ => m - (intOf r).toNat)
  case atStart => exact ⟨0, rfl, Nat.zero_le _, by rw [swr_zero]; exact H.out⟩
  case round =>
    obtain ⟨i, rfl, hi0, hir⟩ := hrel
    have HI := hide hir
    by_cases hi : i < m
    · have hd : decide ((i : Int) < m) = true := by simpa using hi
      have w1 : IntKind.i64.wrap ((a : Int) + i) = ((a + i : Nat) : Int) := by rw [IntWalk.i64_in _ (by omega)]; omega
      have w2 : IntKind.i64.wrap ((b : Int) + i) = ((b + i : Nat) : Int) := by rw [IntWalk.i64_in _ (by omega)]; omega
      obtain ⟨c1, c2, z1, z2, c3, c4, z3, z4⟩ := hir.swaps (i := a + i) (j := b + i) (by omega) (by omega) (by omega)
      have HS := hide (hir.swap (a + i) (b + i) (by omega))
      have HS2 := hide (hir.swap' (a + i) (b + i) (by omega))
      have HE := hide (swr_succ C a b i (by omega))
      have i1 : ((a + i : Nat) : Int) < n := by omega
      have i2 : ((b + i : Nat) : Int) < n := by omega
      generalize swr C a b i (a + i) = x1 at *
      generalize swr C a b i (b + i) = x2 at *
      obtain ⟨p1, hp1⟩ : ∃ p, p = a + i := ⟨_, rfl⟩
      obtain ⟨p2, hp2⟩ : ∃ p, p = b + i := ⟨_, rfl⟩
      rw [← hp1] at w1 c1 z1 c3 c4 z3 z4 i1 HS HS2 HE
      rw [← hp2] at w2 c2 z2 c3 c4 z3 z4 i2 HS HS2 HE
      clear hir hp1 hp2
      go_wp2_with fail
      go_region
      have HR : Hid (∀ o, o = ((wr.setCell ⟨blk, p1, none⟩ (.int .i64 (x2 : Int))).setCell ⟨blk, p2, none⟩ (.int .i64 (x1 : Int))).drew → IR w0 B blk n cap o (swr C a b (i + 1))) := fun o e => by rw [e, ← HE.out]; exact HS.out.drew1
      clear HS HS2 HE c1 c2 c3 c4 z1 z2 z3 z4
      go_wp2
      exact ⟨⟨i + 1, by go_num, by omega, HR.out _ rfl⟩, by simp [intOf]; omega⟩
    · have hd : decide ((i : Int) < m) = false := by simpa using hi
      obtain rfl : i = m := by omega
      go_wp2
      go_end0
      exact ⟨rfl, HI.out⟩
set_option maxRecDepth 100000 in
theorem rotate_any (w0 : World) (B blk n cap : Nat) (fv : Value) (a m b : Nat) (C : Nat → Nat) (w : World) (h : IR w0 B blk n cap w C) (hn : n ≤ 1000) (h1 : a < m) (h2 : m < b) (h3 : b ≤ n) :
    Calls Try.prog 71 #[.slice (some ⟨blk, 0, none⟩) n cap, .int .i64 a, .int .i64 m, .int .i64 b, fv] w fun e w' => e = .returned (.tuple #[]) ∧ IR w0 B blk n cap w' (rot C a m b) := by
  have H := hide h
  have v1 : IntKind.i64.wrap ((m : Int) - a) = ((m - a : Nat) : Int) := by rw [IntWalk.i64_in _ (by omega)]; omega
  have v2 : IntKind.i64.wrap ((b : Int) - m) = ((b - m : Nat) : Int) := by rw [IntWalk.i64_in _ (by omega)]; omega
  clear h
  go_enter Try.func71, Try.ntmps71
  go_wp2
  go_loopw [10, 11] (fun r10 r11 wr => ∃ (i j : Nat) (D : Nat → Nat), r10 = .int .i64 i ∧ r11 = .int .i64 j ∧ 0 < i ∧ 0 < j ∧ i ≤ m ∧ m + j ≤ n ∧ IR w0 B blk n cap wr D ∧ rot D (m - i) m (m + j) = rot C a m b) (fun r10 r11 _ => (intOf r10).toNat + (intOf r11).toNat)
  case atStart => exact ⟨m - a, b - m, C, rfl, rfl, by omega, by omega, by omega, by omega, H.out, by congr 1 <;> omega⟩
  case round =>
    obtain ⟨i, j, D, rfl, rfl, hi0, hj0, him, hjn, hir, hrot⟩ := hrel
    have HI := hide hir
    have HRT := hide hrot
    clear hir hrot v1 v2
    have v1 : IntKind.i64.wrap ((m : Int) - i) = ((m - i : Nat) : Int) := by rw [IntWalk.i64_in _ (by omega)]; omega
    rcases Nat.lt_trichotomy i j with c | c | c
    · have hd : ((i : Int) != j) = true := by simp; omega
      have hd2 : decide ((i : Int) > j) = false := by simp; omega
      have hd3 : decide ((j : Int) < i) = false := by simp; omega
      have v2 : IntKind.i64.wrap ((m : Int) + j) = ((m + j : Nat) : Int) := by rw [IntWalk.i64_in _ (by omega)]; omega
      have v3 : IntKind.i64.wrap (((m + j : Nat) : Int) - i) = ((m + j - i : Nat) : Int) := by rw [IntWalk.i64_in _ (by omega)]; omega
      have v4 : IntKind.i64.wrap ((j : Int) - i) = ((j - i : Nat) : Int) := by rw [IntWalk.i64_in _ (by omega)]; omega
      have HC := hide (swapRange_any w0 B blk n cap fv (m - i) (m + j - i) i D wr HI.out hn (by omega) (by omega))
      have HE := hide (rot_lt D i j m him c)
      generalize m + j - i = p3 at *
      generalize hp4 : j - i = p4 at *
      generalize hp2 : m + j = p2 at *
      generalize hp1 : m - i = p1 at *
      go_wp2_with (go_at_call 76; refine HC.out.mono ?_)
      rintro e w1 ⟨rfl, hir1⟩
      have HI1 := hide hir1
      clear hir1 HC
      go_wp2
      exact ⟨⟨i, p4, _, rfl, rfl, hi0, by omega, him, by omega, HI1.out, by rw [hp1, HE.out, HRT.out]⟩, by simp [intOf]; omega⟩
    · subst c
      have hd : ((i : Int) != i) = false := by simp
      have HC := hide (swapRange_any w0 B blk n cap fv (m - i) m i D wr HI.out hn (by omega) (by omega))
      have HE := hide (rot_eq D i m him)
      generalize m - i = p1 at *
      go_wp2_with (go_at_call 76; refine HC.out.mono ?_)
      rintro e w1 ⟨rfl, hir1⟩
      have HI1 := hide hir1
      clear hir1 HC
      go_wp2
      go_end0
      exact ⟨rfl, by rw [← HRT.out, ← HE.out]; exact HI1.out⟩
    · have hd : ((i : Int) != j) = true := by simp; omega
      have hd2 : decide ((i : Int) > j) = true := by simp; omega
      have hd3 : decide ((j : Int) < i) = true := by simp; omega
      have v4 : IntKind.i64.wrap ((i : Int) - j) = ((i - j : Nat) : Int) := by rw [IntWalk.i64_in _ (by omega)]; omega
      have HC := hide (swapRange_any w0 B blk n cap fv (m - i) m j D wr HI.out hn (by omega) (by omega))
      have HE := hide (rot_gt D i j m him c)
      generalize hp4 : i - j = p4 at *
      generalize m - i = p1 at *
      go_wp2_with (go_at_call 76; refine HC.out.mono ?_)
      rintro e w1 ⟨rfl, hir1⟩
      have HI1 := hide hir1
      clear hir1 HC
      go_wp2
      exact ⟨⟨p4, j, _, rfl, rfl, by omega, hj0, by omega, hjn, HI1.out, by rw [← HRT.out, ← HE.out]⟩, by simp [intOf]; omega⟩
end Go.Proofs.Ytppmekmaclolbab

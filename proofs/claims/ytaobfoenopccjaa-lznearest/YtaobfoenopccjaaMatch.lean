/- The walks of lz.Match and of the reference's Match: each tells the longest and nearest match. -/
import Derived.Test.YtaobfoenopccjaaTrios
namespace Go.Proofs.Ytaobfoenopccjaa
set_option linter.unusedVariables false
open Go.RowKit Go.Maps
open Lz (g lk key lastP prevOf aheadL mt)

/-- The slice at ao, n long, holds the bytes zs. -/
def Bs (w : World) (ao : Option Addr) (n : Nat) (zs : List Int) : Prop :=
  zs.length = n ∧ (∀ i, 0 ≤ g zs i ∧ g zs i ≤ 255) ∧ (n = 0 ∨ ∃ b off, ao = some ⟨b, off, none⟩ ∧ b < w.heap.size ∧ Seg w b off zs)

/-- Match's answer at any number. -/
def mtI (zs : List Int) (a : Int) : Nat × Nat := if a < 0 then (0, 0) else mt zs a.toNat

theorem Seg.below {w w' : World} {B b off : Nat} {zs : List Int} (h : Seg w b off zs) (hb : Below B w w') (hlt : b < B) : Seg w' b off zs := fun i hi => (hb.cell (by exact hlt)).trans (h i hi)
theorem Bs.below {w w' : World} {ao : Option Addr} {n : Nat} {zs : List Int} (h : Bs w ao n zs) (hb : Below w.heap.size w w') : Bs w' ao n zs := by
  refine ⟨h.1, h.2.1, ?_⟩
  rcases h.2.2 with h0 | ⟨b, off, h1, h2, h3⟩
  · exact .inl h0
  · exact .inr ⟨b, off, h1, Nat.lt_of_lt_of_le h2 hb.size, h3.below hb h2⟩

theorem Seg.cut {w : World} {b off : Nat} {zs : List Int} (h : Seg w b off zs) (lo hi : Nat) : Seg w b (off + lo) ((zs.take hi).drop lo) := fun i hj => by
  simp only [List.length_drop, List.length_take] at hj
  rw [Lz.g_drop, Lz.g_take _ _ _ (by omega), Nat.add_assoc]
  exact h (lo + i) (by omega)
theorem bytes_drop {zs : List Int} (h : ∀ i, 0 ≤ g zs i ∧ g zs i ≤ 255) (lo : Nat) : ∀ i, 0 ≤ g (zs.drop lo) i ∧ g (zs.drop lo) i ≤ 255 := fun i => by
  rw [Lz.g_drop]; exact h _
theorem bytes_take {zs : List Int} (h : ∀ i, 0 ≤ g zs i ∧ g zs i ≤ 255) (hi : Nat) : ∀ i, 0 ≤ g (zs.take hi) i ∧ g (zs.take hi) i ≤ 255 := fun i => by
  by_cases e : i < hi
  · rw [Lz.g_take _ _ _ e]; exact h _
  · have : g (zs.take hi) i = 0 := by simp [g, List.getElem?_take, e]
    rw [this]; omega
theorem bytes_cut {zs : List Int} (h : ∀ i, 0 ≤ g zs i ∧ g zs i ≤ 255) (lo hi : Nat) : ∀ i, 0 ≤ g ((zs.take hi).drop lo) i ∧ g ((zs.take hi).drop lo) i ≤ 255 := bytes_drop (bytes_take h hi) lo

set_option maxHeartbeats 800000 in
theorem Match_any (ao : Option Addr) (len cap : Nat) (a : Int) (zs : List Int) (w : World) (hB : Bs w ao len zs) (hl : len ≤ 1000000) (hc : len ≤ cap) (ha1 : -9223372036854775808 ≤ a) (ha2 : a ≤ 9223372036854775807) :
    Calls Try.prog 15 #[.slice ao len cap, .int .i64 a] w fun r w' =>
      r = .returned (.tuple #[.int .i64 (mtI zs a).1, .int .i64 (mtI zs a).2]) ∧ Below w.heap.size w w' := by
  by_cases d1 : a < 0
  · have e : mtI zs a = (0, 0) := by unfold mtI; rw [if_pos d1]
    rw [e]
    clear e
    go_enter Try.func15, Try.ntmps15
    go_wp2
    go_ret2
    exact ⟨rfl, Below.refl _ _⟩
  · obtain ⟨A, rfl⟩ := Int.eq_ofNat_of_zero_le (show 0 ≤ a by omega)
    have e : mtI zs A = mt zs A := by unfold mtI; rw [if_neg d1]; rfl
    rw [e]
    clear e
    by_cases d2 : (len : Int) ≤ A
    · have e : mt zs A = (0, 0) := Lz.mt_zero zs A (by rw [hB.1]; omega)
      rw [e]
      clear e
      go_enter Try.func15, Try.ntmps15
      go_wp2
      go_ret2
      exact ⟨rfl, Below.refl _ _⟩
    · obtain ⟨hz, hby, h0⟩ := hB
      rcases h0 with h0 | ⟨b, off, rfl, hb, hs⟩
      · omega
      · obtain ⟨M, hM⟩ : ∃ M : Nat, M = min 130 (len - A) := ⟨_, rfl⟩
        obtain ⟨F, hF⟩ : ∃ F : Nat, F = A - 256 := ⟨_, rfl⟩
        have hmin : (if (len : Int) - A < 130 then (len : Int) - A else 130) = (M : Int) := by split <;> omega
        have hmax : (if (256 : Int) < (A : Int) then (A : Int) - 256 else 0) = (F : Int) := by split <;> omega
        have hFc : ¬ cap = F := by omega
        have hF1 : F ≤ A := by omega
        have hF2 : F = 0 ∨ F + 256 ≤ A := by omega
        have hM1 : A + M ≤ len := by omega
        have hwin := Lz.mt_window zs A F (A + M) hF1 (by omega) (by unfold Lz.most; omega) hF2
        have HW : Hid (mt ((zs.take (A + M)).drop F) (A - F) = mt zs A) := hwin
        clear hwin hF hM
        go_enter Try.func15, Try.ntmps15
        have hs2 : Seg w b (off + F) ((zs.take (A + M)).drop F) := hs.cut _ _
        have hz2 : ((zs.take (A + M)).drop F).length = A + M - F := by simp [hz]; omega
        have hby2 : ∀ i, 0 ≤ g ((zs.take (A + M)).drop F) i ∧ g ((zs.take (A + M)).drop F) i ≤ 255 := bytes_cut hby _ _
        have eAF : (A : Int) - F = ((A - F : Nat) : Int) := by omega
        have HE : Hid ((A : Int) - F = ((A - F : Nat) : Int)) := eAF
        clear eAF
        generalize (zs.take (A + M)).drop F = ys at *
        go_wp2_with fail
        refine (newTrios_any _ ys).mono ?_
        rintro r w1 ⟨rfl, ht, hbel, _⟩
        go_wp2_with fail
        rw [HE.out]
        have hBw := hbel.size
        refine (addUpTo_any b (off + F) (A + M - F) _ _ w.heap.size 0 (A - F) ys _ hz2 (hs2.below hbel hb) hb hBw (by omega) hby2 ht (by omega)).mono ?_
        rintro r w2 ⟨rfl, ht2, hbel2, _⟩
        go_wp2_with fail
        rw [HE.out]
        refine (match_any b (off + F) (A + M - F) _ _ w.heap.size _ (A - F) ys _ hz2 ((hs2.below hbel hb).below hbel2 hb) (by omega) hby2 ht2 (by omega) (by omega)).mono ?_
        rintro r w3 ⟨rfl, nq, rfl⟩
        rw [HW.out]
        go_wp2
        go_ret2
        exact ⟨rfl, below_drewN (hbel.trans hbel2) nq⟩

set_option maxRecDepth 100000 in
set_option maxHeartbeats 800000 in
theorem refMatch_any (ao : Option Addr) (len cap : Nat) (a : Int) (zs : List Int) (w : World) (hB : Bs w ao len zs) (hl : len ≤ 1000000) (ha1 : -9223372036854775808 ≤ a) (ha2 : a ≤ 9223372036854775807) :
    Calls Try.prog 16 #[.slice ao len cap, .int .i64 a] w fun r w' =>
      r = .returned (.tuple #[.int .i64 (mtI zs a).1, .int .i64 (mtI zs a).2]) ∧ ∃ n, w' = w.drewN n := by
  by_cases d1 : a < 0
  · have e : mtI zs a = (0, 0) := by unfold mtI; rw [if_pos d1]
    rw [e]
    clear e
    go_enter Try.func16, Try.ntmps16
    go_wp2
    go_ret2
    exact ⟨rfl, 0, rfl⟩
  · obtain ⟨A, rfl⟩ := Int.eq_ofNat_of_zero_le (show 0 ≤ a by omega)
    have e : mtI zs A = mt zs A := by unfold mtI; rw [if_neg d1]; rfl
    rw [e]
    clear e
    by_cases d2 : (len : Int) ≤ A
    · have e : mt zs A = (0, 0) := Lz.mt_zero zs A (by rw [hB.1]; omega)
      rw [e]
      clear e
      go_enter Try.func16, Try.ntmps16
      go_wp2
      go_ret2
      exact ⟨rfl, 0, rfl⟩
    · obtain ⟨hz, hby, h0⟩ := hB
      rcases h0 with h0 | ⟨b, off, rfl, hb, hs⟩
      · omega
      · go_enter Try.func16, Try.ntmps16
        go_wp2_with fail
        go_loopw [6, 7, 8] (fun i6 i7 i8 wr => ∃ j : Nat, j ≤ 256 ∧ j ≤ A ∧ i6 = .int .i64 (Lz.best zs A j).1 ∧ i7 = .int .i64 (Lz.best zs A j).2 ∧ i8 = .int .i64 ((j : Int) + 1) ∧ ∃ n, wr = w.drewN n)
          (fun _ _ i8 _ => 257 - (intOf i8).toNat)
        case atStart => exact ⟨0, by omega, by omega, rfl, rfl, rfl, 0, rfl⟩
        case round =>
          obtain ⟨j, hj1, hj2, rfl, rfl, rfl, n, rfl⟩ := hrel
          have hbe := Lz.best_le zs A j
          have hbb := Lz.best_back zs A j
          have hmo : Lz.most zs A ≤ 130 := by unfold Lz.most; omega
          by_cases d3 : j < 256 ∧ j < A
          · obtain ⟨d3, d4⟩ := d3
            have hlb := Lz.lb_le zs A (j + 1)
            have HL : Hid (∀ n, Calls Try.prog 25 #[.slice (some ⟨b, off, none⟩) len cap, .int .i64 A, .int .i64 ((j : Int) + 1)] (w.drewN n) fun e w' => e = .returned (.int .i64 (Lz.lb zs A (j + 1))) ∧ ∃ m, w' = (w.drewN n).drewN m) :=
              fun n => like_any b off len cap A (j + 1) zs _ hz (hs.drewN n) (by omega) (by omega) (by omega) hl
            by_cases d5 : (Lz.best zs A j).1 < Lz.lb zs A (j + 1)
            · have HB : Hid (Lz.best zs A (j + 1) = (Lz.lb zs A (j + 1), j + 1)) := Lz.best_take zs A j d5
              go_wp2_with (go_at_call 25; refine (HL.out _).mono ?_; rintro e w' ⟨rfl, mm, rfl⟩)
              go_roundw
              case rel => exact ⟨j + 1, by omega, by omega, by rw [HB.out], by rw [HB.out]; go_num, by go_num, _, rfl⟩
              case measure => simp only [intOf]; omega
            · have HB : Hid (Lz.best zs A (j + 1) = Lz.best zs A j) := Lz.best_skip zs A j (by omega)
              go_wp2_with (go_at_call 25; refine (HL.out _).mono ?_; rintro e w' ⟨rfl, mm, rfl⟩)
              go_roundw
              case rel => exact ⟨j + 1, by omega, by omega, by rw [HB.out], by rw [HB.out], by go_num, _, rfl⟩
              case measure => simp only [intOf]; omega
          · have ej : j = min 256 A := by omega
            have HF : Hid (mt zs A = if (Lz.best zs A j).1 < 3 then (0, 0) else Lz.best zs A j) := by rw [ej]; rfl
            clear ej
            by_cases d5 : (Lz.best zs A j).1 < 3
            · rw [if_pos d5] at HF
              rcases Nat.lt_or_ge j 256 with d6 | d6
              all_goals
                go_wp2
                go_ret2
                rw [HF.out]
                exact ⟨rfl, _, rfl⟩
            · rw [if_neg d5] at HF
              rcases Nat.lt_or_ge j 256 with d6 | d6
              all_goals
                go_wp2
                go_ret2
                rw [HF.out]
                exact ⟨rfl, _, rfl⟩
end Go.Proofs.Ytaobfoenopccjaa

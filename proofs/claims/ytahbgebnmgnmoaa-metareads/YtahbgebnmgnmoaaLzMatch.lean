/- The walks of lz.Match and of the reference's Match: each tells the longest and nearest match. -/
import Derived.Test.YtahbgebnmgnmoaaLzTrios
namespace Go.Proofs.Ytahbgebnmgnmoaa
set_option linter.unusedVariables false
open Go.RowKit Go.Maps
open Lz (g lk key lastP prevOf aheadL mt)


/-- Match's answer at any number. -/
def mtI (zs : List Int) (a : Int) : Nat × Nat := if a < 0 then (0, 0) else mt zs a.toNat




set_option maxRecDepth 100000 in
set_option maxHeartbeats 800000 in
theorem refMatch_any (ao : Option Addr) (len cap : Nat) (a : Int) (zs : List Int) (w : World) (hB : Bs w ao len zs) (hl : len ≤ 1000000) (ha1 : -9223372036854775808 ≤ a) (ha2 : a ≤ 9223372036854775807) :
    Calls Try.prog 47 #[.slice ao len cap, .int .i64 a] w fun r w' =>
      r = .returned (.tuple #[.int .i64 (mtI zs a).1, .int .i64 (mtI zs a).2]) ∧ ∃ n, w' = w.drewN n := by
  by_cases d1 : a < 0
  · have e : mtI zs a = (0, 0) := by unfold mtI; rw [if_pos d1]
    rw [e]
    clear e
    go_enter Try.func47, Try.ntmps47
    go_wp2
    go_ret2
    exact ⟨rfl, 0, rfl⟩
  · obtain ⟨A, rfl⟩ := Int.eq_ofNat_of_zero_le (show 0 ≤ a by omega)
    have e : mtI zs A = mt zs A := by unfold mtI; rw [if_neg d1]; rfl
    rw [e]
    clear e
    by_cases d2 : (len : Int) ≤ A
    · have e : mt zs A = (0, 0) := Lz.mt_zero zs A (by rw [hB.1]; omega)
      rw [e]
      clear e
      go_enter Try.func47, Try.ntmps47
      go_wp2
      go_ret2
      exact ⟨rfl, 0, rfl⟩
    · obtain ⟨hz, hby, h0⟩ := hB
      rcases h0 with h0 | ⟨b, off, rfl, hb, hs⟩
      · omega
      · go_enter Try.func47, Try.ntmps47
        go_wp2_with fail
        go_loopw [6, 7, 8] (fun i6 i7 i8 wr => ∃ j : Nat, j ≤ 256 ∧ j ≤ A ∧ i6 = .int .i64 (Lz.best zs A j).1 ∧ i7 = .int .i64 (Lz.best zs A j).2 ∧ i8 = .int .i64 ((j : Int) + 1) ∧ ∃ n, wr = w.drewN n)
          (fun _ _ i8 _ => 257 - (intOf i8).toNat)
        case atStart => exact ⟨0, by omega, by omega, rfl, rfl, rfl, 0, rfl⟩
        case round =>
          obtain ⟨j, hj1, hj2, rfl, rfl, rfl, n, rfl⟩ := hrel
          have hbe := Lz.best_le zs A j
          have hbb := Lz.best_back zs A j
          have hmo : Lz.most zs A ≤ 130 := by unfold Lz.most; omega
          by_cases d3 : j < 256 ∧ j < A
          · obtain ⟨d3, d4⟩ := d3
            have hlb := Lz.lb_le zs A (j + 1)
            have HL : Hid (∀ n, Calls Try.prog 65 #[.slice (some ⟨b, off, none⟩) len cap, .int .i64 A, .int .i64 ((j : Int) + 1)] (w.drewN n) fun e w' => e = .returned (.int .i64 (Lz.lb zs A (j + 1))) ∧ ∃ m, w' = (w.drewN n).drewN m) :=
              fun n => like_any b off len cap A (j + 1) zs _ hz (hs.drewN n) (by omega) (by omega) (by omega) hl
            by_cases d5 : (Lz.best zs A j).1 < Lz.lb zs A (j + 1)
            · have HB : Hid (Lz.best zs A (j + 1) = (Lz.lb zs A (j + 1), j + 1)) := Lz.best_take zs A j d5
              go_wp2_with (go_at_call 65; refine (HL.out _).mono ?_; rintro e w' ⟨rfl, mm, rfl⟩)
              go_roundw
              case rel => exact ⟨j + 1, by omega, by omega, by rw [HB.out], by rw [HB.out]; go_num, by go_num, _, rfl⟩
              case measure => simp only [intOf]; omega
            · have HB : Hid (Lz.best zs A (j + 1) = Lz.best zs A j) := Lz.best_skip zs A j (by omega)
              go_wp2_with (go_at_call 65; refine (HL.out _).mono ?_; rintro e w' ⟨rfl, mm, rfl⟩)
              go_roundw
              case rel => exact ⟨j + 1, by omega, by omega, by rw [HB.out], by rw [HB.out], by go_num, _, rfl⟩
              case measure => simp only [intOf]; omega
          · have ej : j = min 256 A := by omega
            have HF : Hid (mt zs A = if (Lz.best zs A j).1 < 3 then (0, 0) else Lz.best zs A j) := by rw [ej]; rfl
            clear ej
            by_cases d5 : (Lz.best zs A j).1 < 3
            · rw [if_pos d5] at HF
              rcases Nat.lt_or_ge j 256 with d6 | d6
              all_goals
                go_wp2
                go_ret2
                rw [HF.out]
                exact ⟨rfl, _, rfl⟩
            · rw [if_neg d5] at HF
              rcases Nat.lt_or_ge j 256 with d6 | d6
              all_goals
                go_wp2
                go_ret2
                rw [HF.out]
                exact ⟨rfl, _, rfl⟩
end Go.Proofs.Ytahbgebnmgnmoaa

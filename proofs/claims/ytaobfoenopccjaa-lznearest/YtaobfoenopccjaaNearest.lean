/- The walk of LzNearest: a match is one, no byte more is alike, and nothing nearer is as long. -/
import Derived.Test.YtaobfoenopccjaaLaws
import Derived.Test.YtaobfoenopccjaaRound
namespace Go.Proofs.Ytaobfoenopccjaa
set_option linter.unusedVariables false
open Go.RowKit Go.Maps
open Lz (g mt lb lk)

theorem mt_stop (zs : List Int) (a : Nat) (h : (mt zs a).1 ≠ 0) (h1 : (mt zs a).1 < 130) (h2 : a + (mt zs a).1 < zs.length) : g zs (a - (mt zs a).2 + (mt zs a).1) ≠ g zs (a + (mt zs a).1) := by
  rcases Lz.mt_is zs a with e | ⟨_, _, h7⟩
  · rw [e] at h; simp at h
  · have hlt : lb zs a (mt zs a).2 < Lz.most zs a := by rw [← h7]; unfold Lz.most; omega
    have := Lz.lk_stop zs (Lz.most zs a) (a - (mt zs a).2) a hlt
    rw [h7]
    exact this
theorem mt_near (zs : List Int) (a o : Nat) (h : (mt zs a).1 ≠ 0) (h1 : 1 ≤ o) (h2 : o < (mt zs a).2) : lb zs a o < (mt zs a).1 := by
  unfold Lz.mt at h h2 ⊢
  split at h
  · simp at h
  · rename_i hc
    rw [if_neg hc] at h2 ⊢
    exact Lz.best_near zs a _ o h1 h2

set_option maxRecDepth 100000 in
set_option maxHeartbeats 4000000 in
theorem nearest_walk (a0 : Option Addr) (len0 cap0 : Nat) (z0 : List Int) (a1 : Int) (a2 : Int) (w : World) (w0 : RowB w a0 len0 cap0 z0) (w1 : (Lit.int .i64 a1).wf = true) (w2 : (Lit.int .i64 a2).wf = true) :
    Calls Try.prog 8 #[.slice a0 len0 cap0, .int .i64 a1, .int .i64 a2] w fun e w' => e = .returned (.bool true) ∧ Below w.heap.size w w' := by
  obtain ⟨hbs, hlc, hcm, hby, hnil⟩ := w0.bs (min len0 600) (by omega)
  obtain ⟨ha1, ha2⟩ := wf_i64_bd w1
  obtain ⟨hb1, hb2⟩ := wf_i64_bd w2
  generalize z0.take (min len0 600) = zs at hbs hby
  clear w0
  go_enter Try.func8, Try.ntmps8
  go_wp2_with fail
  refine (shown_any w).mono ?_
  rintro r ws ⟨rfl, hbs0⟩
  go_wp2_with fail
  refine (few_any a0 len0 cap0 600 ws hlc (by omega)).mono ?_
  rintro r wx ⟨rfl, rfl⟩
  have h1 := hbs.below hbs0
  generalize hm : min len0 600 = m at *
  have hm1 : m ≤ 600 := by omega
  have hm2 : m ≤ cap0 := by omega
  have hz := hbs.1
  clear hm
  go_wp2_with fail
  refine (Match_any a0 m cap0 a1 zs wx h1 (by omega) hm2 ha1 ha2).mono ?_
  rintro r w3 ⟨rfl, bl3⟩
  have hB : Below w.heap.size w w3 := hbs0.trans (bl3.mono hbs0.size)
  have h3 := h1.below bl3
  clear hbs hbs0 h1 bl3 hnil
  by_cases h0 : (mtI zs a1).1 = 0
  · have e : mtI zs a1 = (0, 0) := by
      unfold mtI at h0 ⊢
      split
      · rfl
      · rename_i hn
        rw [if_neg hn] at h0
        rcases Lz.mt_is zs a1.toNat with e | ⟨h5, _⟩
        · exact e
        · omega
    rw [e]
    clear e h0 h3
    go_wp2
    go_ret
    exact ⟨rfl, hB⟩
  · have hneg : ¬ a1 < 0 := fun hn => by unfold mtI at h0; rw [if_pos hn] at h0; simp at h0
    obtain ⟨A, rfl⟩ := Int.eq_ofNat_of_zero_le (show 0 ≤ a1 by omega)
    rw [mtI_nat] at h0 ⊢
    obtain ⟨m1, m2, m3, m4, m5, m6, m7⟩ := Lz.mt_facts zs A h0
    have hstop := mt_stop zs A h0
    have hnear := fun o => mt_near zs A o h0
    rw [hz] at m3 hstop
    obtain ⟨_, _, h3'⟩ := h3
    rcases h3' with h3' | ⟨b, off, rfl, hb, hs⟩
    · omega
    generalize (mt zs A).1 = N at *
    generalize (mt zs A).2 = K at *
    have q0 : ((N : Int) == 0) = false := by rw [beq_eq_false_iff_ne]; omega
    have H7 : Hid (∀ k, k < N → g zs (A - K + k) = g zs (A + k)) := m7
    have HS : Hid (N < 130 → A + N < m → g zs (A - K + N) ≠ g zs (A + N)) := hstop
    have HN : Hid (∀ o, 1 ≤ o → o < K → lb zs A o < N) := hnear
    clear m7 hstop hnear h0
    have p1 : decide ((A : Int) < 1) = false := by simp; omega
    have p2 : decide ((m : Int) ≤ (A : Int)) = false := by simp; omega
    have p3 : decide ((N : Int) < 3) = false := by simp; omega
    have p4 : decide ((130 : Int) < (N : Int)) = false := by simp; omega
    have p5 : decide ((m : Int) - (A : Int) < (N : Int)) = false := by simp; omega
    have p6 : decide ((K : Int) < 1) = false := by simp; omega
    have p7 : decide ((256 : Int) < (K : Int)) = false := by simp; omega
    have p8 : decide ((A : Int) < (K : Int)) = false := by simp; omega
    go_wp2_with fail
    clear p1 p2 p3 p4 p5 p6 p7 p8
    go_loopw [10] (fun s10 wr => ∃ i : Nat, s10 = .int .i64 i ∧ i ≤ N ∧ ∃ n, wr = w3.drewN n) (fun s10 _ => N - (intOf s10).toNat)
    case atStart => exact ⟨0, rfl, by omega, 0, rfl⟩
    case round =>
      obtain ⟨i, rfl, hiN, nq, rfl⟩ := hrel
      by_cases d1 : i < N
      · have c1 := hs (A + i) (by omega)
        have c2 := hs (A - K + i) (by omega)
        rw [H7.out i d1] at c2
        have i1 : (0 : Int) ≤ (A : Int) + i := by omega
        have i2 : (A : Int) + i < m := by omega
        have i3 : (0 : Int) ≤ (A : Int) + i - K := by omega
        have i4 : (A : Int) + i - K < m := by omega
        have i5 : ((A : Int) + i - K).toNat = A - K + i := by omega
        go_wp2
        go_quiet (fail)
        go_wp2
        go_roundw
        case rel => exact ⟨i + 1, by go_num, by omega, _, rfl⟩
        case measure => simp only [intOf]; omega
      · obtain rfl : i = N := by omega
        have HO : Hid (∀ O : Nat, 1 ≤ O → O < K → (lb zs A O < i ∧ (∀ k, k < lb zs A O → g zs (A + k) = g zs (A - O + k)) ∧ g zs (A + lb zs A O) ≠ g zs (A - O + lb zs A O))) := fun O h1 h2 => by
          have hlt := HN.out O h1 h2
          have hmo : i ≤ Lz.most zs A := by unfold Lz.most; omega
          exact ⟨hlt, fun k hk => (Lz.lk_eq zs _ _ _ k hk).symm, (Lz.lk_stop zs _ _ _ (by show lb zs A O < _; omega)).symm⟩
        have hmore : (i < 130 ∧ A + i < m) ∨ ¬ i < 130 ∨ (i < 130 ∧ ¬ A + i < m) := by omega
        rcases hmore with ⟨e1, e2⟩ | e1 | ⟨e1, e2⟩
        · have c1 := hs (A + i) (by omega)
          have c2 := hs (A - K + i) (by omega)
          have q1 : decide ((i : Int) < 130) = true := by simp; omega
          have q2 : decide ((A : Int) + i < (m : Int)) = true := by simp; omega
          have q3 : (g zs (A + i) == g zs (A - K + i)) = false := by rw [beq_eq_false_iff_ne]; exact (HS.out e1 e2).symm
          have i1 : (0 : Int) ≤ (A : Int) + i := by omega
          have i2 : (A : Int) + i < m := by omega
          have i3 : (0 : Int) ≤ (A : Int) + i - K := by omega
          have i4 : (A : Int) + i - K < m := by omega
          have i5 : ((A : Int) + i - K).toNat = A - K + i := by omega
          go_wp2
          go_quiet (fail)
          clear c1 c2 q1 q2 q3 i1 i2 i3 i4 i5 e2
          by_cases d2 : 1 ≤ a2 ∧ a2 < (K : Int)
          · obtain ⟨d2, d3⟩ := d2
            obtain ⟨O, rfl⟩ := Int.eq_ofNat_of_zero_le (show 0 ≤ a2 by omega)
            obtain ⟨o1, o2, o3⟩ := HO.out O (by omega) (by omega)
            have O2 : Hid (∀ k, k < lb zs A O → g zs (A + k) = g zs (A - O + k)) := o2
            have O3 : Hid (g zs (A + lb zs A O) ≠ g zs (A - O + lb zs A O)) := o3
            clear o2 o3 HO
            generalize lb zs A O = L at *
            go_wp2_with fail
            go_loopw [12] (fun s12 wr => ∃ k : Nat, s12 = .int .i64 k ∧ k ≤ L ∧ ∃ n, wr = w3.drewN n) (fun s12 _ => L - (intOf s12).toNat)
            case atStart => exact ⟨0, rfl, by omega, _, rfl⟩
            case round =>
              obtain ⟨k, rfl, hkL, nq2, rfl⟩ := hrel
              have q1 : k < i := by omega
              have c1 := hs (A + k) (by omega)
              have c2 := hs (A - O + k) (by omega)
              have i1 : (0 : Int) ≤ (A : Int) + k := by omega
              have i2 : (A : Int) + k < m := by omega
              have i3 : (0 : Int) ≤ (A : Int) + k - O := by omega
              have i4 : (A : Int) + k - O < m := by omega
              have i5 : ((A : Int) + k - O).toNat = A - O + k := by omega
              by_cases d4 : k < L
              · rw [← O2.out k d4] at c2
                go_wp2
                go_quiet (fail)
                go_wp2
                go_roundw
                case rel => exact ⟨k + 1, by go_num, by omega, _, rfl⟩
                case measure => simp only [intOf]; omega
              · obtain rfl : k = L := by omega
                have q2 : (g zs (A + k) == g zs (A - O + k)) = false := by rw [beq_eq_false_iff_ne]; exact O3.out
                go_wp2
                go_quiet (fail)
                go_wp2
                go_ret
                exact ⟨rfl, below_drewN hB _⟩
          · rcases (show a2 < 1 ∨ (1 ≤ a2 ∧ (K : Int) ≤ a2) by omega) with d3 | ⟨d3, d4⟩
            · go_wp2
              go_ret
              exact ⟨rfl, below_drewN hB _⟩
            · go_wp2
              go_ret
              exact ⟨rfl, below_drewN hB _⟩
        · have q1 : decide ((i : Int) < 130) = false := by simp; omega
          go_wp2
          go_quiet (fail)
          clear q1
          by_cases d2 : 1 ≤ a2 ∧ a2 < (K : Int)
          · obtain ⟨d2, d3⟩ := d2
            obtain ⟨O, rfl⟩ := Int.eq_ofNat_of_zero_le (show 0 ≤ a2 by omega)
            obtain ⟨o1, o2, o3⟩ := HO.out O (by omega) (by omega)
            have O2 : Hid (∀ k, k < lb zs A O → g zs (A + k) = g zs (A - O + k)) := o2
            have O3 : Hid (g zs (A + lb zs A O) ≠ g zs (A - O + lb zs A O)) := o3
            clear o2 o3 HO
            generalize lb zs A O = L at *
            go_wp2_with fail
            go_loopw [12] (fun s12 wr => ∃ k : Nat, s12 = .int .i64 k ∧ k ≤ L ∧ ∃ n, wr = w3.drewN n) (fun s12 _ => L - (intOf s12).toNat)
            case atStart => exact ⟨0, rfl, by omega, _, rfl⟩
            case round =>
              obtain ⟨k, rfl, hkL, nq2, rfl⟩ := hrel
              have q1 : k < i := by omega
              have c1 := hs (A + k) (by omega)
              have c2 := hs (A - O + k) (by omega)
              have i1 : (0 : Int) ≤ (A : Int) + k := by omega
              have i2 : (A : Int) + k < m := by omega
              have i3 : (0 : Int) ≤ (A : Int) + k - O := by omega
              have i4 : (A : Int) + k - O < m := by omega
              have i5 : ((A : Int) + k - O).toNat = A - O + k := by omega
              by_cases d4 : k < L
              · rw [← O2.out k d4] at c2
                go_wp2
                go_quiet (fail)
                go_wp2
                go_roundw
                case rel => exact ⟨k + 1, by go_num, by omega, _, rfl⟩
                case measure => simp only [intOf]; omega
              · obtain rfl : k = L := by omega
                have q2 : (g zs (A + k) == g zs (A - O + k)) = false := by rw [beq_eq_false_iff_ne]; exact O3.out
                go_wp2
                go_quiet (fail)
                go_wp2
                go_ret
                exact ⟨rfl, below_drewN hB _⟩
          · rcases (show a2 < 1 ∨ (1 ≤ a2 ∧ (K : Int) ≤ a2) by omega) with d3 | ⟨d3, d4⟩
            · go_wp2
              go_ret
              exact ⟨rfl, below_drewN hB _⟩
            · go_wp2
              go_ret
              exact ⟨rfl, below_drewN hB _⟩
        · have q1 : decide ((i : Int) < 130) = true := by simp; omega
          have q2 : decide ((A : Int) + i < (m : Int)) = false := by simp; omega
          go_wp2
          go_quiet (fail)
          clear q1 q2
          by_cases d2 : 1 ≤ a2 ∧ a2 < (K : Int)
          · obtain ⟨d2, d3⟩ := d2
            obtain ⟨O, rfl⟩ := Int.eq_ofNat_of_zero_le (show 0 ≤ a2 by omega)
            obtain ⟨o1, o2, o3⟩ := HO.out O (by omega) (by omega)
            have O2 : Hid (∀ k, k < lb zs A O → g zs (A + k) = g zs (A - O + k)) := o2
            have O3 : Hid (g zs (A + lb zs A O) ≠ g zs (A - O + lb zs A O)) := o3
            clear o2 o3 HO
            generalize lb zs A O = L at *
            go_wp2_with fail
            go_loopw [12] (fun s12 wr => ∃ k : Nat, s12 = .int .i64 k ∧ k ≤ L ∧ ∃ n, wr = w3.drewN n) (fun s12 _ => L - (intOf s12).toNat)
            case atStart => exact ⟨0, rfl, by omega, _, rfl⟩
            case round =>
              obtain ⟨k, rfl, hkL, nq2, rfl⟩ := hrel
              have q1 : k < i := by omega
              have c1 := hs (A + k) (by omega)
              have c2 := hs (A - O + k) (by omega)
              have i1 : (0 : Int) ≤ (A : Int) + k := by omega
              have i2 : (A : Int) + k < m := by omega
              have i3 : (0 : Int) ≤ (A : Int) + k - O := by omega
              have i4 : (A : Int) + k - O < m := by omega
              have i5 : ((A : Int) + k - O).toNat = A - O + k := by omega
              by_cases d4 : k < L
              · rw [← O2.out k d4] at c2
                go_wp2
                go_quiet (fail)
                go_wp2
                go_roundw
                case rel => exact ⟨k + 1, by go_num, by omega, _, rfl⟩
                case measure => simp only [intOf]; omega
              · obtain rfl : k = L := by omega
                have q2 : (g zs (A + k) == g zs (A - O + k)) = false := by rw [beq_eq_false_iff_ne]; exact O3.out
                go_wp2
                go_quiet (fail)
                go_wp2
                go_ret
                exact ⟨rfl, below_drewN hB _⟩
          · rcases (show a2 < 1 ∨ (1 ≤ a2 ∧ (K : Int) ≤ a2) by omega) with d3 | ⟨d3, d4⟩
            · go_wp2
              go_ret
              exact ⟨rfl, below_drewN hB _⟩
            · go_wp2
              go_ret
              exact ⟨rfl, below_drewN hB _⟩
end Go.Proofs.Ytaobfoenopccjaa

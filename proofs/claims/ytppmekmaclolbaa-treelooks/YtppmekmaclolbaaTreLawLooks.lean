/- Layer 7: the statement TreeLooks, walked. -/
import Derived.Test.YtppmekmaclolbaaTreRefKid
import Derived.Test.YtppmekmaclolbaaTreLawChecks
namespace Go.Proofs.Ytppmekmaclolbaa
set_option linter.unusedVariables false
open Go.RowKit Go.Maps
open Nam Tre Stb

set_option maxRecDepth 100000 in
set_option maxHeartbeats 1000000 in
theorem looks_walk (a : Option Addr) (n c : Nat) (L : List (Nv × Nod)) (b : Option Addr) (m d : Nat) (ks : List ByteArray) (x : Int) (w : World) (hl : Ns w a n L) (hc : n ≤ c) (hcm : c ≤ 9223372036854775807)
    (hk : Rs w b m ks) (hmd : m ≤ d) (hdm : d ≤ 9223372036854775807) (hsz : ∀ s ∈ ks, s.size ≤ 9223372036854775807) (hxw : (Lit.int .i64 x).wf = true) :
    Calls Try.prog 5 #[.slice a n c, .slice b m d, .int .i64 x] w fun e w' => e = .returned (.bool true) ∧ Below w.heap.size w w' := by
  have HL := hide hl
  have HKS := hide hk
  clear hl hsz hxw hk
  go_enter Try.func5, Try.ntmps5
  go_wp2_with (go_at_call 9; refine (shown_any _).mono ?_)
  rintro e w1 ⟨rfl, hb1⟩
  have E1 := hide hb1
  clear hb1
  go_wp2_with (go_at_call 10; refine (few_any a n c L _ (HL.out.below E1.out) hc hcm).mono ?_)
  rintro e w2 ⟨ao, k, c', rfl, hk, hown, hns, hb2⟩
  have hcap := cap_owns hown
  have E2 := hide (E1.out.trans (hb2.mono E1.out.size))
  have HN := hide hns
  have h20 := fun p hp => Nat.le_trans (fewL_names L p hp) (by omega : 20 ≤ 1000000)
  have H20 := hide h20
  obtain ⟨h1, h2, h3⟩ := hcap
  clear hown hns hb2 h20 h3
  generalize fewL L = F at *
  have HC1 := hide (Kids_any ao k c' F b m d ks w2 HN.out h1 h2 (HKS.out.below E2.out) (by omega) H20.out hk)
  go_wp2_with (go_at_call 16; refine HC1.out.mono ?_)
  rintro e w3 ⟨a1, n1, c1, K1, rfl, hK1, hn1, hc1, hcm1, hik1, hb3⟩
  have E3 := hide (E2.out.trans (hb3.mono E2.out.size))
  have HN3 := hide (HN.out.below hb3)
  have HKI1 := hide hK1
  have HIK1 := hide hik1
  clear hK1 hik1 hb3 HC1 HN
  have HC2 := hide (refKids_any ao k c' F b m d ks w3 HN3.out h1 h2 (HKS.out.below E3.out) (by omega) H20.out hk)
  go_wp2_with (go_at_call 17; refine HC2.out.mono ?_)
  rintro e w4 ⟨a2, n2, c2, K2, rfl, hK2, hn2, hc2, hcm2, hik2, hb4⟩
  have E4 := hide (E3.out.trans (hb4.mono E3.out.size))
  have HN4 := hide (HN3.out.below hb4)
  obtain rfl : K1 = K2 := kids_one HIK1.out hik2
  obtain rfl : n1 = n2 := by rw [← HKI1.out.1, ← hK2.1]
  have HKI2 := hide hK2
  have HKI1' := hide (HKI1.out.below hb4)
  clear hK2 hik2 hb4 HC2 HN3 HKI1 HIK1
  have HC3 := hide (Find_any ao k c' F b m d ks w4 HN4.out h1 h2 (HKS.out.below E4.out) H20.out)
  go_wp2_with (go_at_call 18; refine HC3.out.mono ?_)
  rintro e w5 ⟨rfl, hb5⟩
  have E5 := hide (E4.out.trans (hb5.mono E4.out.size))
  have HN5 := hide (HN4.out.below hb5)
  have HA5 := hide (HKI1'.out.below hb5)
  have HB5 := hide (HKI2.out.below hb5)
  clear hb5 HC3 HN4 HKI1' HKI2
  have HC4 := hide (refFind_any ao k c' F b m d ks w5 HN5.out h1 h2 (HKS.out.below E5.out) H20.out)
  go_wp2_with (go_at_call 19; refine HC4.out.mono ?_)
  rintro e w6 ⟨rfl, q6, rfl⟩
  have hf0 : (fi (nmd ks) 0 (nds F) != fi (nmd ks) 0 (nds F)) = false := by simp
  generalize fi (nmd ks) 0 (nds F) = zf at *
  clear HC4
  have HC5 := hide (Links_any ao k c' F x (w5.drewN q6) (HN5.out.below (by exact bdn (Below.refl _ _) q6)) h1 h2)
  go_wp2_with (go_at_call 20; refine HC5.out.mono ?_)
  rintro e w7 ⟨rfl, hb7⟩
  have hb7' : Below w5.heap.size w5 w7 := (bdn (Below.refl w5.heap.size w5) q6).trans hb7
  have E7 := hide (E5.out.trans (hb7'.mono E5.out.size))
  have HN7 := hide (HN5.out.below hb7')
  have HA7 := hide (HA5.out.below hb7')
  have HB7 := hide (HB5.out.below hb7')
  clear hb7 hb7' HC5 HN5 HA5 HB5
  have HC6 := hide (refLinks_any ao k c' F x w7 HN7.out h1 h2)
  go_wp2_with (go_at_call 21; refine HC6.out.mono ?_)
  rintro e w8 ⟨rfl, q8, rfl⟩
  have hf1 : (lks F x != lks F x) = false := by simp
  generalize lks F x = zl at *
  clear HC6
  go_wp2
  go_loopw [10] (fun r wr => ∃ i q : Nat, r = .int .i64 i ∧ i ≤ n1 ∧ wr = w7.drewN q) (fun r _ => n1 - (intOf r).toNat)
  case atStart => exact ⟨0, q8, rfl, Nat.zero_le _, rfl⟩
  case round =>
    obtain ⟨i, q, rfl, hi0, rfl⟩ := hrel
    by_cases hi : i < n1
    · have hd : decide ((i : Int) < n1) = true := by simpa using hi
      obtain ⟨ba, rfl, hba, hca⟩ : ∃ b, a1 = some ⟨b, 0, none⟩ ∧ b < w7.heap.size ∧ ∀ i, i < n1 → w7.cell? ⟨b, i, none⟩ = some (.int .i64 (fn0 K1 i : Int)) := by
        rcases HA7.out.2 with h | h
        · omega
        · exact h
      obtain ⟨bb, rfl, hbb, hcb⟩ : ∃ b, a2 = some ⟨b, 0, none⟩ ∧ b < w7.heap.size ∧ ∀ i, i < n1 → w7.cell? ⟨b, i, none⟩ = some (.int .i64 (fn0 K1 i : Int)) := by
        rcases HB7.out.2 with h | h
        · omega
        · exact h
      have ca := hca i hi
      have cb := hcb i hi
      have i1 : (i : Int) < n1 := by omega
      generalize fn0 K1 i = X at *
      have hX : ((X : Int) != X) = false := by simp
      clear hca hcb
      go_wp2_with fail
      go_quiet (fail)
      go_wp2
      exact ⟨⟨i + 1, _, by go_num, by omega, rfl⟩, by simp [intOf]; omega⟩
    · have hd : decide ((i : Int) < n1) = false := by simpa using hi
      go_wp2
      go_ret
      exact ⟨rfl, bdn E7.out _⟩
end Go.Proofs.Ytppmekmaclolbaa

/- Layer 7: the statement TreeSorted, walked. -/
import Derived.Test.YtppmekmaclolbaaTreLawChecks
import Derived.Test.YtppmekmaclolbaaTreFacts
namespace Go.Proofs.Ytppmekmaclolbaa
set_option linter.unusedVariables false
open Go.RowKit Go.Maps
open Nam Tre

namespace Tre
/-- Whether the i-th is the root, or stands in one of the first k. -/
def pk (r : List Nod) (i : Nat) : Nat → Bool
  | 0 => decide ((gn r i).names.length = 0)
  | k + 1 => pk r i k || (decide ((gn r k).names = (gn r i).names.dropLast) && decide ((gn r k).kind = 1))
theorem pk_root {r : List Nod} {i : Nat} (h : (gn r i).names.length = 0) : ∀ k, pk r i k = true
  | 0 => by simp [pk, h]
  | k + 1 => by rw [pk, pk_root h k]; rfl
theorem pk_hit {r : List Nod} {i j : Nat} (h1 : (gn r j).names = (gn r i).names.dropLast) (h2 : (gn r j).kind = 1) : ∀ k, j < k → pk r i k = true
  | k + 1, h => by
    rw [pk]
    by_cases e : j = k
    · subst e; rw [h1, h2]; simp
    · rw [pk_hit h1 h2 k (by omega)]; rfl
theorem pk_end {l r : List Nod} (h : CanF l r) {i : Nat} (hi : i < r.length) : pk r i i = true := by
  by_cases e : (gn r i).names = []
  · exact pk_root (by rw [e]; rfl) i
  · obtain ⟨k, h1, h2, h3⟩ := h.par i hi e
    exact pk_hit h2 h3 i h1
end Tre
set_option maxRecDepth 100000 in
set_option maxHeartbeats 4000000 in
theorem sorted_walk (a : Option Addr) (n c : Nat) (L : List (Nv × Nod)) (w : World) (hl : Ns w a n L) (hc : n ≤ c) (hcm : c ≤ 9223372036854775807) :
    Calls Try.prog 8 #[.slice a n c] w fun e w' => e = .returned (.bool true) ∧ Below w.heap.size w w' := by
  have HL := hide hl
  clear hl
  go_enter Try.func8, Try.ntmps8
  go_wp2_with (go_at_call 9; refine (shown_any _).mono ?_)
  rintro e w1 ⟨rfl, hb1⟩
  have E1 := hide hb1
  clear hb1
  go_wp2_with (go_at_call 10; refine (few_any a n c L _ (HL.out.below E1.out) hc hcm).mono ?_)
  rintro e w2 ⟨ao, k, c', rfl, hk, hown, hns, hb2⟩
  have hcap := cap_owns hown
  have E2 := hide (E1.out.trans (hb2.mono E1.out.size))
  have HN := hide hns
  have HFN := hide (fewL_names L)
  obtain ⟨h1, h2, h3⟩ := hcap
  clear hown hns hb2 h3
  generalize fewL L = F at *
  obtain ⟨z, hz⟩ : ∃ z, check (nds F) = z := ⟨_, rfl⟩
  by_cases h0 : z = 0
  · subst h0
    have HC1 := hide (Canon_ok ao k c' F w2 HN.out h1 h2 hz)
    have HZ := hide hz
    clear hz
    go_wp2_with (go_at_call 13; refine HC1.out.mono ?_)
    rintro e w4 ⟨blk, L4, rfl, hown4, hgood4, hic4, hb4⟩
    have E4 := hide (E2.out.trans (hb4.mono E2.out.size))
    have hns4 : Ns w4 (some ⟨blk, 0, none⟩) k L4 := (sh_of_owns hown4).ns (fun p hp => (hgood4 p hp).rep)
    have HA4 := hide hns4
    have HF4 := hide (fun p hp => (hgood4 p hp).few)
    have hcf := canF HZ.out hic4
    have HCF := hide hcf
    have hk0 : 0 < k := by have := hcf.pos; rw [nds_length, hns4.1] at this; exact this
    obtain ⟨b', off', hbo, hb', hat⟩ := hns4.at hk0
    obtain ⟨rfl, rfl⟩ : blk = b' ∧ 0 = off' := by simpa using hbo
    have HAT : Hid (∀ i, i < k → NodAt w4 blk (i * 10) (gl L4 i).1) := fun i hi => by have := hat i hi; rw [Nat.zero_add] at this; exact this
    have f0 := (hat 0 hk0).c0
    have hrn : (gl L4 0).1.nn = 0 := by
      have e1 := hcf.root
      rw [gn_nds L4 0 (by rw [hns4.1]; exact hk0)] at e1
      rw [← (hns4.rep 0 hk0).names.1, e1]; rfl
    rw [hrn, Nat.zero_mul, Nat.add_zero] at f0
    have hk1 : (0 : Int) < k := by omega
    have hk2 : ((k : Int) == 0) = false := by simp; omega
    clear hown4 hgood4 hic4 hb4 HC1 hns4 hcf hat hbo hrn
    go_wp2
    go_loopw [6, 7, 8, 9, 10] (fun r6 r7 _ _ _ wr => ∃ i q : Nat, wr = w4.drewN q ∧ r6 = .int .i64 (tp (nds L4) i) ∧ r7 = .int .i64 i ∧ i ≤ k) (fun _ r7 _ _ _ _ => k - (intOf r7).toNat)
    case atStart => exact ⟨0, 0, rfl, rfl, rfl, Nat.zero_le _⟩
    case round =>
      obtain ⟨i, q, rfl, rfl, rfl, hi0⟩ := hrel
      clear f0
      by_cases hi : i < k
      · have hd : decide ((i : Int) < k) = true := by simpa using hi
        have hi1 : (i : Int) < k := by omega
        have hil : i < L4.length := by rw [HA4.out.1]; exact hi
        have hir : i < (nds L4).length := by rw [nds_length]; exact hil
        have hno := HCF.out.ino i hir
        have htp := HCF.out.top i (by omega)
        have HTP : Hid (tp (nds L4) (i + 1) = max (tp (nds L4) i) (gl L4 i).1.ino) := by
          show _ = _
          rw [tp, gn_nds L4 i hil, (HA4.out.rep i hi).ino]
        rw [gn_nds L4 i hil, (HA4.out.rep i hi).ino] at hno
        have hnn : (gl L4 i).1.nn ≤ 1000000 := by rw [← (HA4.out.rep i hi).names.1]; exact HF4.out _ (gl_mem L4 i hil)
        have c0 := (HAT.out i hi).c0
        have c1 := (HAT.out i hi).c1
        generalize tp (nds L4) i = T at *
        have HR := hide (HA4.out.rep i hi).names
        have HNC := hide (HA4.out.rep i hi).nc
        have HNM := hide (HA4.out.rep i hi).ncm
        obtain ⟨x, hx⟩ : ∃ x, x = (gl L4 i).1 := ⟨_, rfl⟩
        rw [← hx] at hno HTP c0 c1 hnn HR HNC HNM
        have hw1 : IntKind.i64.wrap (T + 1) = T + 1 := IntWalk.i64_in _ (by omega)
        have d1 : decide (x.ino < 1) = false := by simp; omega
        have d2 : decide (T + 1 < x.ino) = false := by simp; omega
        obtain ⟨hn1, hn2⟩ := hno
        have d3 : ¬ x.ino < 1 := by omega
        have d4 : ¬ T + 1 < x.ino := by omega
        by_cases hp : 0 < i
        · have hdp : decide ((0 : Int) < i) = true := by simp; omega
          obtain ⟨t, hjt, hti, HT⟩ : ∃ t : Nat, (i : Int) - 1 = (t : Int) ∧ t < k ∧ Hid (t = i - 1) := ⟨i - 1, by omega, by omega, rfl⟩
          have hwr : IntKind.i64.wrap ((i : Int) - 1) = (t : Int) := by rw [hjt]; exact IntWalk.i64_in _ (by omega)
          have e0 := (HAT.out t hti).c0
          have hmm : (gl L4 t).1.nn ≤ 1000000 := by rw [← (HA4.out.rep t hti).names.1]; exact HF4.out _ (gl_mem L4 t (by rw [HA4.out.1]; exact hti))
          have hlt : ltn (gl L4 t).2 (gl L4 i).2 = true := by
            have := HCF.out.ord i hp hir
            rw [← HT.out, gn_nds L4 t (by rw [HA4.out.1]; exact hti), gn_nds L4 i hil] at this
            exact this
          have HK : Hid (∀ q, Calls Try.prog 24 #[.slice (gl L4 t).1.na (gl L4 t).1.nn (gl L4 t).1.nc, .slice x.na x.nn x.nc] (w4.drewN q) fun e w' => e = .returned (.bool true) ∧ ∃ q', w' = (w4.drewN q).drewN q') := fun q => by
            have := refLess_any _ _ _ (gl L4 t).1.nc _ x.nc _ _ _ ((HA4.out.rep t hti).names.drewN q) (HR.out.drewN q) hmm hnn
            rw [show less (nm (gl L4 t).2.names) (nm (gl L4 i).2.names) = true from hlt] at this
            exact this
          generalize (gl L4 t).1 = v at *
          have hti1 : (t : Int) < k := by omega
          have HS := hide (And.intro e0 (And.intro c0 c1))
          have hp1 : (0 : Int) < i := by omega
          clear hlt hjt hx
          go_wp2
          go_region_held3 (fun wX => wX.cell? ⟨blk, t * 10, none⟩ = some (.slice v.na v.nn v.nc) ∧ wX.cell? ⟨blk, i * 10, none⟩ = some (.slice x.na x.nn x.nc) ∧ wX.cell? ⟨blk, i * 10 + 1, none⟩ = some (.int .i64 x.ino)) (exact HS.out)
            ((first
              | (go_at_call 24; refine (HK.out (q + 1)).mono ?_; rintro r w5 ⟨rfl, q', rfl⟩)))
          clear HK HS hwr HT hti hti1 e0 hmm hp1 hdp
          have hnz : ((x.nn : Int) == 0) = decide ((gn (nds L4) i).names.length = 0) := by
            rw [gn_nds L4 i hil, HR.out.1, Bool.eq_iff_iff]; simp
          have HNZ := hide hnz
          have HGN := hide (gn_nds L4 i hil)
          have hpk0 : ((x.nn : Int) == 0) = pk (nds L4) i 0 := hnz
          clear hnz hw1 d1 d2 d3 d4 hn1 hn2 htp
          go_wp2
          go_loopw [8, 9, 10] (fun r8 r9 _ ws => ∃ j q : Nat, ws = w4.drewN q ∧ r8 = .bool (pk (nds L4) i j) ∧ r9 = .int .i64 j ∧ j ≤ i) (fun _ r9 _ _ => i - (intOf r9).toNat)
          case atStart => exact ⟨0, _, rfl, by first | rfl | (rw [hpk0]) | (rw [← hpk0]), rfl, Nat.zero_le _⟩
          case round =>
            obtain ⟨j, q, rfl, rfl, rfl, hj0⟩ := hrel
            clear hpk0 c1
            by_cases hj : j < i
            · have hdj : decide ((j : Int) < i) = true := by simpa using hj
              have hj1 : (j : Int) < k := by omega
              have hjk : j < k := by omega
              have hjl : j < L4.length := by rw [HA4.out.1]; exact hjk
              by_cases hn0 : 0 < x.nn
              · have hdn : decide ((0 : Int) < x.nn) = true := by simp; omega
                have hn01 : (0 : Int) < x.nn := by omega
                have e0 := (HAT.out j hjk).c0
                have e2 := (HAT.out j hjk).c2
                have hmm : (gl L4 j).1.nn ≤ 1000000 := by rw [← (HA4.out.rep j hjk).names.1]; exact HF4.out _ (gl_mem L4 j hjl)
                obtain ⟨m, hmt, HM⟩ : ∃ m : Nat, (x.nn : Int) - 1 = (m : Int) ∧ Hid (m = x.nn - 1) := ⟨x.nn - 1, by omega, rfl⟩
                have hwr : IntKind.i64.wrap ((x.nn : Int) - 1) = (m : Int) := by rw [hmt]; exact IntWalk.i64_in _ (by omega)
                have hmc : (m : Int) ≤ x.nc := by have := HNC.out; omega
                have hmn : m ≤ x.nn := by omega
                have HK : Hid (∀ q, Calls Try.prog 25 #[.slice (gl L4 j).1.na (gl L4 j).1.nn (gl L4 j).1.nc, .slice x.na m x.nc] (w4.drewN q) fun e w' => e = .returned (.bool (decide ((gn (nds L4) j).names = (gn (nds L4) i).names.dropLast))) ∧ ∃ q', w' = (w4.drewN q).drewN q') := fun q => by
                  have := refSame_one (gl L4 j).1.na x.na (gl L4 j).1.nn (gl L4 j).1.nc m x.nc _ _ (w4.drewN q) ((HA4.out.rep j hjk).names.drewN q) ((HR.out.take m hmn).drewN q) hmm
                  have e : (gl L4 i).2.names.take m = (gn (nds L4) i).names.dropLast := by
                    rw [HGN.out, List.dropLast_eq_take, HR.out.1, HM.out]
                  rw [e, ← gn_nds L4 j hjl] at this
                  exact this
                have HKD : Hid (((gl L4 j).1.kind == 1) = decide ((gn (nds L4) j).kind = 1)) := by
                  show _ = _
                  rw [gn_nds L4 j hjl, (HA4.out.rep j hjk).kind, Bool.eq_iff_iff]; simp
                have HPK := hide (show pk (nds L4) i (j + 1) = (pk (nds L4) i j || (decide ((gn (nds L4) j).names = (gn (nds L4) i).names.dropLast) && decide ((gn (nds L4) j).kind = 1))) from rfl)
                rw [← HKD.out] at HPK
                obtain ⟨y, hy⟩ : ∃ y, decide ((gn (nds L4) j).names = (gn (nds L4) i).names.dropLast) = y := ⟨_, rfl⟩
                rw [hy] at HK HPK
                obtain ⟨zz, hzz⟩ : ∃ zz, pk (nds L4) i j = zz := ⟨_, rfl⟩
                rw [hzz] at HPK ⊢
                generalize (gl L4 j).1 = v at *
                have HS := hide (And.intro e0 c0)
                clear hy hzz hmt HKD
                go_wp2
                go_region_held3 (fun wX => wX.cell? ⟨blk, j * 10, none⟩ = some (.slice v.na v.nn v.nc) ∧ wX.cell? ⟨blk, i * 10, none⟩ = some (.slice x.na x.nn x.nc)) (exact HS.out)
                  ((first
                    | (go_at_call 25; refine (HK.out (q + 1)).mono ?_; rintro r w5 ⟨rfl, q', rfl⟩)))
                cases zz with
                | true =>
                  go_wp2
                  exact ⟨⟨j + 1, _, rfl, by rw [HPK.out]; rfl, by go_num, by omega⟩, by simp [intOf]; omega⟩
                | false =>
                  cases y with
                  | true =>
                    go_wp2
                    exact ⟨⟨j + 1, _, rfl, by rw [HPK.out]; simp, by go_num, by omega⟩, by simp [intOf]; omega⟩
                  | false =>
                    go_wp2
                    exact ⟨⟨j + 1, _, rfl, by rw [HPK.out]; rfl, by go_num, by omega⟩, by simp [intOf]; omega⟩
              · have hdn : decide ((0 : Int) < x.nn) = false := by simp; omega
                have hn01 : ¬ (0 : Int) < x.nn := by omega
                have hlen : (gn (nds L4) i).names.length = 0 := by rw [HGN.out, HR.out.1]; omega
                have HP1 := hide (pk_root hlen (j + 1))
                rw [pk_root hlen j]
                clear hlen
                go_wp2
                exact ⟨⟨j + 1, _, rfl, by rw [HP1.out], by go_num, by omega⟩, by simp [intOf]; omega⟩
            · have hdj : decide ((j : Int) < i) = false := by simpa using hj
              obtain rfl : j = i := by omega
              rw [pk_end HCF.out hir]
              go_wp2
              exact ⟨⟨j + 1, _, rfl, by rw [HTP.out], by go_num, by omega⟩, by simp [intOf]; omega⟩
        · have hdp : decide ((0 : Int) < i) = false := by simp; omega
          have hdp2 : ¬ (0 : Int) < i := by omega
          clear hx
          go_wp2
          go_quiet (fail)
          clear hdp hdp2 hp
          have hnz : ((x.nn : Int) == 0) = decide ((gn (nds L4) i).names.length = 0) := by
            rw [gn_nds L4 i hil, HR.out.1, Bool.eq_iff_iff]; simp
          have HNZ := hide hnz
          have HGN := hide (gn_nds L4 i hil)
          have hpk0 : ((x.nn : Int) == 0) = pk (nds L4) i 0 := hnz
          clear hnz hw1 d1 d2 d3 d4 hn1 hn2 htp
          go_wp2
          go_loopw [8, 9, 10] (fun r8 r9 _ ws => ∃ j q : Nat, ws = w4.drewN q ∧ r8 = .bool (pk (nds L4) i j) ∧ r9 = .int .i64 j ∧ j ≤ i) (fun _ r9 _ _ => i - (intOf r9).toNat)
          case atStart => exact ⟨0, _, rfl, by first | rfl | (rw [hpk0]) | (rw [← hpk0]), rfl, Nat.zero_le _⟩
          case round =>
            obtain ⟨j, q, rfl, rfl, rfl, hj0⟩ := hrel
            clear hpk0 c1
            by_cases hj : j < i
            · have hdj : decide ((j : Int) < i) = true := by simpa using hj
              have hj1 : (j : Int) < k := by omega
              have hjk : j < k := by omega
              have hjl : j < L4.length := by rw [HA4.out.1]; exact hjk
              by_cases hn0 : 0 < x.nn
              · have hdn : decide ((0 : Int) < x.nn) = true := by simp; omega
                have hn01 : (0 : Int) < x.nn := by omega
                have e0 := (HAT.out j hjk).c0
                have e2 := (HAT.out j hjk).c2
                have hmm : (gl L4 j).1.nn ≤ 1000000 := by rw [← (HA4.out.rep j hjk).names.1]; exact HF4.out _ (gl_mem L4 j hjl)
                obtain ⟨m, hmt, HM⟩ : ∃ m : Nat, (x.nn : Int) - 1 = (m : Int) ∧ Hid (m = x.nn - 1) := ⟨x.nn - 1, by omega, rfl⟩
                have hwr : IntKind.i64.wrap ((x.nn : Int) - 1) = (m : Int) := by rw [hmt]; exact IntWalk.i64_in _ (by omega)
                have hmc : (m : Int) ≤ x.nc := by have := HNC.out; omega
                have hmn : m ≤ x.nn := by omega
                have HK : Hid (∀ q, Calls Try.prog 25 #[.slice (gl L4 j).1.na (gl L4 j).1.nn (gl L4 j).1.nc, .slice x.na m x.nc] (w4.drewN q) fun e w' => e = .returned (.bool (decide ((gn (nds L4) j).names = (gn (nds L4) i).names.dropLast))) ∧ ∃ q', w' = (w4.drewN q).drewN q') := fun q => by
                  have := refSame_one (gl L4 j).1.na x.na (gl L4 j).1.nn (gl L4 j).1.nc m x.nc _ _ (w4.drewN q) ((HA4.out.rep j hjk).names.drewN q) ((HR.out.take m hmn).drewN q) hmm
                  have e : (gl L4 i).2.names.take m = (gn (nds L4) i).names.dropLast := by
                    rw [HGN.out, List.dropLast_eq_take, HR.out.1, HM.out]
                  rw [e, ← gn_nds L4 j hjl] at this
                  exact this
                have HKD : Hid (((gl L4 j).1.kind == 1) = decide ((gn (nds L4) j).kind = 1)) := by
                  show _ = _
                  rw [gn_nds L4 j hjl, (HA4.out.rep j hjk).kind, Bool.eq_iff_iff]; simp
                have HPK := hide (show pk (nds L4) i (j + 1) = (pk (nds L4) i j || (decide ((gn (nds L4) j).names = (gn (nds L4) i).names.dropLast) && decide ((gn (nds L4) j).kind = 1))) from rfl)
                rw [← HKD.out] at HPK
                obtain ⟨y, hy⟩ : ∃ y, decide ((gn (nds L4) j).names = (gn (nds L4) i).names.dropLast) = y := ⟨_, rfl⟩
                rw [hy] at HK HPK
                obtain ⟨zz, hzz⟩ : ∃ zz, pk (nds L4) i j = zz := ⟨_, rfl⟩
                rw [hzz] at HPK ⊢
                generalize (gl L4 j).1 = v at *
                have HS := hide (And.intro e0 c0)
                clear hy hzz hmt HKD
                go_wp2
                go_region_held3 (fun wX => wX.cell? ⟨blk, j * 10, none⟩ = some (.slice v.na v.nn v.nc) ∧ wX.cell? ⟨blk, i * 10, none⟩ = some (.slice x.na x.nn x.nc)) (exact HS.out)
                  ((first
                    | (go_at_call 25; refine (HK.out (q + 1)).mono ?_; rintro r w5 ⟨rfl, q', rfl⟩)))
                cases zz with
                | true =>
                  go_wp2
                  exact ⟨⟨j + 1, _, rfl, by rw [HPK.out]; rfl, by go_num, by omega⟩, by simp [intOf]; omega⟩
                | false =>
                  cases y with
                  | true =>
                    go_wp2
                    exact ⟨⟨j + 1, _, rfl, by rw [HPK.out]; simp, by go_num, by omega⟩, by simp [intOf]; omega⟩
                  | false =>
                    go_wp2
                    exact ⟨⟨j + 1, _, rfl, by rw [HPK.out]; rfl, by go_num, by omega⟩, by simp [intOf]; omega⟩
              · have hdn : decide ((0 : Int) < x.nn) = false := by simp; omega
                have hn01 : ¬ (0 : Int) < x.nn := by omega
                have hlen : (gn (nds L4) i).names.length = 0 := by rw [HGN.out, HR.out.1]; omega
                have HP1 := hide (pk_root hlen (j + 1))
                rw [pk_root hlen j]
                clear hlen
                go_wp2
                exact ⟨⟨j + 1, _, rfl, by rw [HP1.out], by go_num, by omega⟩, by simp [intOf]; omega⟩
            · have hdj : decide ((j : Int) < i) = false := by simpa using hj
              obtain rfl : j = i := by omega
              rw [pk_end HCF.out hir]
              go_wp2
              exact ⟨⟨j + 1, _, rfl, by rw [HTP.out], by go_num, by omega⟩, by simp [intOf]; omega⟩
      · have hd : decide ((i : Int) < k) = false := by simpa using hi
        go_wp2
        go_ret
        exact ⟨rfl, E4.out.trans (below_drewN _ _)⟩
  · have HC1 := hide (Canon_no ao k c' F w2 HN.out h1 h2 z hz h0)
    have hzz : (z != 0) = true := by simpa using h0
    clear hz h0
    go_wp2_with (go_at_call 13; refine HC1.out.mono ?_)
    rintro e w4 ⟨rfl, hb4⟩
    have E4 := hide (E2.out.trans (hb4.mono E2.out.size))
    clear hb4 HC1
    go_wp2
    go_ret
    exact ⟨rfl, E4.out⟩
end Go.Proofs.Ytppmekmaclolbaa

/- Layer 7: the reference's named. -/
import Derived.Test.YtppmekmaclolbaaTreRefFind
namespace Go.Proofs.Ytppmekmaclolbaa
set_option linter.unusedVariables false
open Go.RowKit Go.Maps
open Nam Tre

namespace Tre
/-- What is wrong with the names of nodes. -/
def nam (l : List Nod) : Int := if wrong l ≠ 0 then wrong l else if l.any deep = true then 9 else if ¬ (l.map Nod.names).Nodup then 6 else 0
theorem fi_at (p : Nod → Bool) : ∀ (l : List Nod) (o i : Nat) (h : i < l.length), p l[i] = true → ∃ j, fi p o l = ((o + j : Nat) : Int) ∧ j ≤ i ∧ ∃ (hj : j < l.length), p l[j] = true ∧ ∀ t (ht : t < j), p (l[t]'(by omega)) = false
  | n :: r, o, i, h, hp => by
    unfold fi
    cases hn : p n with
    | true => exact ⟨0, by simp, Nat.zero_le _, by simp, hn, fun t ht => by omega⟩
    | false =>
      cases i with
      | zero => simp only [List.getElem_cons_zero] at hp; rw [hn] at hp; cases hp
      | succ i =>
        simp only [List.getElem_cons_succ] at hp
        obtain ⟨j, h1, h2, h3, h4, h5⟩ := fi_at p r (o + 1) i (by simpa using h) hp
        refine ⟨j + 1, by simp only [Bool.false_eq_true, if_false]; rw [h1]; congr 1; omega, by omega, by simp; omega, by simpa using h4, fun t ht => ?_⟩
        cases t with
        | zero => simpa using hn
        | succ t => simpa using h5 t (by omega)
theorem take_nodup {l : List Nod} {i : Nat} (h : i < l.length) (hn : ((l.take i).map Nod.names).Nodup) (hf : ¬ fi (nmd l[i].names) 0 l < (i : Int)) : ((l.take (i + 1)).map Nod.names).Nodup := by
  obtain ⟨j, h1, h2, h3, h4, h5⟩ := fi_at (nmd l[i].names) l 0 i h (by simp [nmd])
  rw [Nat.zero_add] at h1
  have hj : j = i := by omega
  subst hj
  rw [List.take_succ_eq_append_getElem h, List.map_append, List.nodup_append]
  refine ⟨hn, by simp, fun a ha b hb => ?_⟩
  simp only [List.map_cons, List.map_nil, List.mem_singleton] at hb
  rw [List.mem_map] at ha
  obtain ⟨x, hx, rfl⟩ := ha
  rw [List.mem_take_iff_getElem] at hx
  obtain ⟨t, ht, rfl⟩ := hx
  rw [hb]
  have := h5 t (by omega)
  simpa [nmd] using this
theorem not_nodup {l : List Nod} {i : Nat} (h : i < l.length) (hf : fi (nmd l[i].names) 0 l < (i : Int)) : ¬ (l.map Nod.names).Nodup := by
  obtain ⟨j, h1, h2, h3, h4, h5⟩ := fi_at (nmd l[i].names) l 0 i h (by simp [nmd])
  rw [Nat.zero_add] at h1
  intro hn
  have hne : j ≠ i := by omega
  rw [List.Nodup, List.pairwise_iff_getElem] at hn
  have := hn j i (by simpa using h3) (by simpa using h) (by omega)
  simp only [List.getElem_map] at this
  exact this (by simpa [nmd] using h4)
end Tre
set_option maxRecDepth 100000 in
set_option maxHeartbeats 1000000 in
theorem named_any (a : Option Addr) (n c : Nat) (L : List (Nv × Nod)) (w : World) (hl : Ns w a n L) (hc : n ≤ c) (hcm : c ≤ 9223372036854775807) (h20 : ∀ p ∈ L, p.2.names.length ≤ 1000000) :
    Calls Try.prog 60 #[.slice a n c] w fun e w' => e = .returned (.int .i64 (nam (nds L))) ∧ ∃ q, w' = w.drewN q := by
  have HL := hide hl
  have HLN := hide hl.1
  have H20 := hide h20
  clear hl h20
  go_enter Try.func60, Try.ntmps60
  go_wp2
  go_loopw [3, 4, 5] (fun r _ _ wr => ∃ i q : Nat, wr = w.drewN q ∧ r = .int .i64 i ∧ i ≤ n ∧ wrong (nds L) = wrong ((nds L).drop i)) (fun r _ _ _ => n - (intOf r).toNat)
  case atStart => exact ⟨0, 0, rfl, rfl, Nat.zero_le _, rfl⟩
  case round =>
    obtain ⟨i, q, rfl, rfl, hi0, hinv⟩ := hrel
    have HI := hide hinv
    by_cases hi : i < n
    · have hd : decide ((i : Int) < n) = true := by simpa using hi
      obtain ⟨ba, oa, rfl, hba, hca⟩ := HL.out.at (by omega)
      have HE := hide (nds_drop L i (by rw [HLN.out]; exact hi))
      have hr := HL.out.rep i hi
      obtain ⟨na, nn, nc, c0', hN, n1, n2⟩ : ∃ na nn nc, w.cell? ⟨ba, oa + i * 10, none⟩ = some (.slice na nn nc) ∧ Rs w na nn (gl L i).2.names ∧ nn ≤ nc ∧ nc ≤ 9223372036854775807 := ⟨_, _, _, (hca i hi).c0, hr.names, hr.nc, hr.ncm⟩
      have HN := hide hN
      have HNN := hide hN.1
      have hi' : (i : Int) < n := by omega
      clear hca hinv hr hN
      go_wp2
      go_loopw [4, 5] (fun r _ ws => ∃ k q : Nat, ws = w.drewN q ∧ r = .int .i64 k ∧ k ≤ nn ∧ fv (gl L i).2.names = fv ((gl L i).2.names.drop k)) (fun r _ _ => nn - (intOf r).toNat)
      case atStart => exact ⟨0, q, rfl, rfl, Nat.zero_le _, rfl⟩
      case round =>
        obtain ⟨k, q2, rfl, rfl, hk0, hinv2⟩ := hrel
        have HI2 := hide hinv2
        by_cases hk : k < nn
        · have hd2 : decide ((k : Int) < nn) = true := by simpa using hk
          obtain ⟨bb, ob, rfl, hbb, hcb⟩ := HN.out.at (by omega)
          have d1 := hcb k hk
          have HE2 := hide (fv_drop (gl L i).2.names k (by rw [HNN.out]; exact hk))
          obtain ⟨z, hz⟩ : ∃ z, valid (gs (gl L i).2.names k).toList = z := ⟨_, rfl⟩
          have HZ := hide hz
          clear hcb hinv2 hz
          go_wp2_with (go_at_call 75; refine (refValid_any _ _).mono ?_)
          rw [HZ.out]
          rintro e w2 ⟨rfl, rfl⟩
          by_cases hzz : z = 0
          · have hz1 : (z != 0) = false := by simp [hzz]
            have HZZ := hide hzz
            clear hzz
            go_wp2
            refine ⟨⟨k + 1, q2, rfl, by go_num, by omega, ?_⟩, by simp [intOf]; omega⟩
            rw [HI2.out, HE2.out, HZ.out, if_pos HZZ.out]
          · have hz1 : (z != 0) = true := by simpa using hzz
            have HZZ := hide hzz
            clear hzz
            go_wp2
            go_ret
            refine ⟨ret_int ?_, q2, rfl⟩
            have hfv : fv (gl L i).2.names = z := by rw [HI2.out, HE2.out, HZ.out, if_neg HZZ.out]
            have hw : wrong (nds L) = z := by rw [HI.out, HE.out, wrong, hfv, if_neg HZZ.out]
            rw [nam, if_pos (by rw [hw]; exact HZZ.out), hw]
        · have hd2 : decide ((k : Int) < nn) = false := by simpa using hk
          go_wp2
          refine ⟨⟨i + 1, q2, rfl, by go_num, by omega, ?_⟩, by simp [intOf]; omega⟩
          have hfv : fv (gl L i).2.names = 0 := by rw [HI2.out, List.drop_eq_nil_of_le (by rw [HNN.out]; omega)]; rfl
          rw [HI.out, HE.out, wrong, if_pos hfv]
    · have hd : decide ((i : Int) < n) = false := by simpa using hi
      have HW : Hid (wrong (nds L) = 0) := by
        show _ = _
        rw [HI.out, List.drop_eq_nil_of_le (by rw [nds_length, HLN.out]; omega)]; rfl
      clear hinv
      go_wp2
      go_loopw [6] (fun r wr => ∃ i q : Nat, wr = w.drewN q ∧ r = .int .i64 i ∧ i ≤ n ∧ (nds L).any deep = ((nds L).drop i).any deep) (fun r _ => n - (intOf r).toNat)
      case atStart => exact ⟨0, q, rfl, rfl, Nat.zero_le _, rfl⟩
      case round =>
        obtain ⟨i, q, rfl, rfl, hi0, hinv⟩ := hrel
        have HI := hide hinv
        by_cases hi : i < n
        · have hd : decide ((i : Int) < n) = true := by simpa using hi
          obtain ⟨ba, oa, rfl, hba, hca⟩ := HL.out.at (by omega)
          have HE := hide (nds_drop L i (by rw [HLN.out]; exact hi))
          have hr := HL.out.rep i hi
          have c0 := (hca i hi).c0
          have hi' : (i : Int) < n := by omega
          have hdp : deep (gl L i).2 = decide ((16 : Int) < (gl L i).1.nn) := by
            rw [deep, hr.names.1, Bool.eq_iff_iff, decide_eq_true_eq, decide_eq_true_eq]; omega
          clear hca hinv hr
          by_cases h16 : (16 : Int) < (gl L i).1.nn
          · have HQ : Hid ((nds L).any deep = true) := by
              show _ = _
              rw [HI.out, HE.out, List.any_cons, hdp, decide_eq_true h16]; rfl
            clear hdp
            go_wp2
            go_ret
            refine ⟨ret_int ?_, q, rfl⟩
            rw [nam, if_neg (by rw [HW.out]; simp), if_pos HQ.out]
          · have HQ : Hid ((nds L).any deep = ((nds L).drop (i + 1)).any deep) := by
              show _ = _
              rw [HI.out, HE.out, List.any_cons, hdp, decide_eq_false h16]; rfl
            clear hdp
            go_wp2
            exact ⟨⟨i + 1, q, rfl, by go_num, by omega, HQ.out⟩, by simp [intOf]; omega⟩
        · have hd : decide ((i : Int) < n) = false := by simpa using hi
          have HD : Hid ((nds L).any deep = false) := by
            show _ = _
            rw [HI.out, List.drop_eq_nil_of_le (by rw [nds_length, HLN.out]; omega)]; rfl
          clear hinv
          go_wp2
          go_loopw [7] (fun r wr => ∃ i q : Nat, wr = w.drewN q ∧ r = .int .i64 i ∧ i ≤ n ∧ (((nds L).take i).map Nod.names).Nodup) (fun r _ => n - (intOf r).toNat)
          case atStart => exact ⟨0, q, rfl, rfl, Nat.zero_le _, by simp⟩
          case round =>
            obtain ⟨i, q, rfl, rfl, hi0, hinv⟩ := hrel
            have HI := hide hinv
            by_cases hi : i < n
            · have hd : decide ((i : Int) < n) = true := by simpa using hi
              obtain ⟨ba, oa, rfl, hba, hca⟩ := HL.out.at (by omega)
              have hr := HL.out.rep i hi
              have c0 := (hca i hi).c0
              have hi' : (i : Int) < n := by omega
              have hlt : i < (nds L).length := by rw [nds_length, HLN.out]; exact hi
              have hget : (nds L)[i] = (gl L i).2 := by rw [gl_lt L i (by rw [HLN.out]; exact hi)]; simp [nds]
              have HF := hide (refFind_any (some ⟨ba, oa, none⟩) n c L (gl L i).1.na (gl L i).1.nn (gl L i).1.nc (gl L i).2.names (w.drewN q) (HL.out.below (below_drewN w q)) hc hcm (hr.names.drewN q) H20.out)
              have T1 := hide (fun h => take_nodup hlt HI.out h)
              have T2 := hide (fun h => not_nodup hlt h)
              rw [hget] at T1 T2
              generalize fi (nmd (gl L i).2.names) 0 (nds L) = z at *
              clear hca hinv hr hget
              by_cases hz : z < (i : Int)
              · have HN : Hid (nam (nds L) = 6) := by
                  show _ = _
                  rw [nam, if_neg (by rw [HW.out]; simp), if_neg (by rw [HD.out]; simp), if_pos (T2.out hz)]
                go_wp2_with (go_at_call 19; refine HF.out.mono ?_; rintro e w2 ⟨rfl, q2, rfl⟩)
                go_ret
                exact ⟨ret_int HN.out.symm, _, rfl⟩
              · go_wp2_with (go_at_call 19; refine HF.out.mono ?_; rintro e w2 ⟨rfl, q2, rfl⟩)
                exact ⟨⟨i + 1, q + q2, by simp, by go_num, by omega, T1.out hz⟩, by simp [intOf]; omega⟩
            · have hd : decide ((i : Int) < n) = false := by simpa using hi
              have HN : Hid (nam (nds L) = 0) := by
                show _ = _
                rw [List.take_of_length_le (by rw [nds_length, HLN.out]; omega)] at hinv
                rw [nam, if_neg (by rw [HW.out]; simp), if_neg (by rw [HD.out]; simp), if_neg (by simpa using hinv)]
              clear hinv
              go_wp2
              go_ret
              exact ⟨ret_int HN.out.symm, q, rfl⟩
end Go.Proofs.Ytppmekmaclolbaa

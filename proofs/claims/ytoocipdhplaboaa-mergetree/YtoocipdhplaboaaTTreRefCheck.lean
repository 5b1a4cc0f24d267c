import Derived.Test.YtoocipdhplaboaaTJTreLinks
import Derived.Test.YtoocipdhplaboaaTJTreMay
set_option linter.unusedVariables false
namespace Go.Proofs.Ytoocipdhplaboaa
open Go.RowKit Go.Maps
open Nam Tre
namespace Tre
def plc (l : List Nod) : Int := if 1024 < l.length then 3 else if nam l ≠ 0 then nam l else if isDir l [] = false then 4 else if l.all (inDir l) = false then 5 else 0
theorem check_plc (l : List Nod) : check l = if plc l ≠ 0 then plc l else if l.all may = false then 7 else if ¬ l.Pairwise Tre.one then 8 else 0 := by
 by_cases h1 : 1024 < l.length
 ·rw [check_big h1, plc, if_pos h1]; rfl
 ·by_cases h2 : wrong l = 0
  ·cases h3 : l.any deep with
   | true => rw [check_deep h1 h2 h3]; simp [plc, nam, h1, h2, h3]
   | false =>
    by_cases h4 : (l.map Nod.names).Nodup
    ·have hn : nam l = 0 := by simp [nam, h2, h3, h4]
     cases h5 : isDir l [] with
     | false => rw [check_root h1 h2 h3 h4 h5]; simp [plc, hn, h1, h5]
     | true =>
      cases h6 : l.all (inDir l) with
      | false =>
       have hp : plc l = 5 := by rw [plc, if_neg h1, if_neg (by rw [hn]; simp), if_neg (by rw [h5]; simp), if_pos h6]
       rw [check_parent h1 h2 h3 h4 h5 h6, hp]; rfl
      | true =>
       have hp : plc l = 0 := by rw [plc, if_neg h1, if_neg (by rw [hn]; simp), if_neg (by rw [h5]; simp), if_neg (by rw [h6]; simp)]
       rw [hp, if_neg (by simp)]
       cases h7 : l.all may with
       | false => rw [check_kind h1 h2 h3 h4 h5 h6 h7]; rfl
       | true =>
        by_cases h8 : l.Pairwise Tre.one
        ·rw [check_ok h1 h2 h3 h4 h5 h6 h7 h8]; simp [h8]
        ·rw [check_links h1 h2 h3 h4 h5 h6 h7 h8]; simp [h8]
    ·have hn : nam l = 6 := by simp [nam, h2, h3, h4]
     rw [check_twice h1 h2 h3 h4]; simp [plc, hn, h1]
  ·have hn : nam l = wrong l := by simp [nam, h2]
   rw [check_name h1 h2]; simp [plc, hn, h1, h2]
end Tre
set_option maxRecDepth 100000 in
set_option maxHeartbeats 1000000 in
theorem Placed_any (a : Option Addr) (n c : Nat) (L : List (Nv × Nod)) (w : World) (hl : Ns w a n L) (hc : n ≤ c) (hcm : c ≤ 9223372036854775807) (h20 : ∀ p ∈ L, p.2.names.length ≤ 1000000) :
  Calls Try.prog 45 #[.slice a n c] w fun e w' => e = .returned (.int .i64 (plc (nds L))) ∧ ∃ q, w' = w.drewN q := by
 have HL := hide hl
 have HLN := hide hl.1
 have H20 := hide h20
 by_cases h1 : (1024 : Int) < n
 ·have HP : Hid (plc (nds L) = 3) := by show _ = _; rw [plc, if_pos (by rw [nds_length, hl.1]; omega)]
  clear hl h20
  go_enter Try.func45, Try.ntmps45
  go_wp2
  go_ret
  exact ⟨ret_int HP.out.symm, 0, rfl⟩
 have g1 : ¬ 1024 < (nds L).length := by rw [nds_length, hl.1]; omega
 have HNm := hide (named_any a n c L w hl hc hcm h20)
 obtain ⟨z, hz⟩ : ∃ z, nam (nds L) = z := ⟨_, rfl⟩
 rw [hz] at HNm
 by_cases hz0 : z = 0
 ·have hz1 : (z != 0) = false := by simp [hz0]
  have HZ : Hid (nam (nds L) = 0) := hz.trans hz0
  have HD := hide (fun q => refIsDir_any a n c L none 0 0 [] (w.drewN q) (hl.below (drewN_below w q)) hc hcm (Rs.nil _ _) h20)
  have HDK := hide (fun q b m d k (hk : Rs w b m k) => refIsDir_any a n c L b m d k (w.drewN q) (hl.below (drewN_below w q)) hc hcm (hk.drewN q) h20)
  obtain ⟨r, hr⟩ : ∃ r, isDir (nds L) [] = r := ⟨_, rfl⟩
  rw [hr] at HD
  cases r with
  | false =>
   have HP : Hid (plc (nds L) = 4) := by show _ = _; rw [plc, if_neg g1, if_neg (by rw [HZ.out]; simp), if_pos hr]
   clear hl h20 hz0 hz hr
   go_enter Try.func45, Try.ntmps45
   go_wp2_with (first | (go_at_call 61; refine HNm.out.mono ?_; rintro e w1 ⟨rfl, q1, rfl⟩) | (go_at_call 62; refine (HD.out _).mono ?_; rintro e w1 ⟨rfl, q2, rfl⟩))
   go_ret
   exact ⟨ret_int HP.out.symm, _, rfl⟩
  | true =>
   have HP : Hid (plc (nds L) = if (nds L).all (inDir (nds L)) = false then 5 else 0) := by show _ = _; rw [plc, if_neg g1, if_neg (by rw [HZ.out]; simp), if_neg (by rw [hr]; simp)]
   clear hl h20 hz0 hz hr
   go_enter Try.func45, Try.ntmps45
   go_wp2_with (first | (go_at_call 61; refine HNm.out.mono ?_; rintro e w1 ⟨rfl, q1, rfl⟩) | (go_at_call 62; refine (HD.out _).mono ?_; rintro e w1 ⟨rfl, q2, rfl⟩))
   go_loopw [5, 6] (fun r _ wr => ∃ i q : Nat, wr = w.drewN q ∧ r = .int .i64 i ∧ i ≤ n ∧ (nds L).all (inDir (nds L)) = ((nds L).drop i).all (inDir (nds L))) (fun r _ _ => n - (intOf r).toNat)
   case atStart => exact ⟨0, _, rfl, rfl, Nat.zero_le _, rfl⟩
   case round =>
    obtain ⟨i, q, rfl, rfl, hi0, hinv⟩ := hrel
    have HI := hide hinv
    by_cases hi : i < n
    ·have hd : decide ((i : Int) < n) = true := by simpa using hi
     obtain ⟨ba, oa, rfl, hba, hca⟩ := HL.out.at (by omega)
     have HE := hide (nds_drop L i (by rw [HLN.out]; exact hi))
     have hr := HL.out.rep i hi
     obtain ⟨na, nn, nc, c0, hN, n1, n2⟩ : ∃ na nn nc, w.cell? ⟨ba, oa + i * 10, none⟩ = some (.slice na nn nc) ∧ Rs w na nn (gl L i).2.names ∧ nn ≤ nc ∧ nc ≤ 9223372036854775807 := ⟨_, _, _, (hca i hi).c0, hr.names, hr.nc, hr.ncm⟩
     have hi' : (i : Int) < n := by omega
     have h2m := H20.out (gl L i) (gl_mem L i (by rw [HLN.out]; exact hi))
     rw [hN.1] at h2m
     cases nn with
     | zero =>
      have HQ : Hid ((nds L).all (inDir (nds L)) = ((nds L).drop (i + 1)).all (inDir (nds L))) := by
       show _ = _
       rw [HI.out, HE.out, List.all_cons, inDir, hN.1]; rfl
      clear hca hinv hr hN
      go_wp2
      exact ⟨⟨i + 1, q, rfl, by go_num, by omega, HQ.out⟩, by simp [intOf]; omega⟩
     | succ k =>
      have HC := hide (HDK.out q na k nc ((gl L i).2.names.take k) (hN.take k (by omega)))
      have hin : inDir (nds L) (gl L i).2 = isDir (nds L) ((gl L i).2.names.take k) := by
       rw [inDir, hN.1, decide_eq_false (by omega), Bool.false_or, List.dropLast_eq_take, hN.1, Nat.add_sub_cancel]
      have HIN := hide hin
      obtain ⟨z, hz⟩ : ∃ z, isDir (nds L) ((gl L i).2.names.take k) = z := ⟨_, rfl⟩
      have HZ2 := hide hz
      rw [hz] at HC
      have k0 : (0 : Int) ≤ k := by omega
      have k1 : (k : Int) ≤ nc := by omega
      have kk : decide ((0 : Int) < (k : Int) + 1) = true := by rw [decide_eq_true_eq]; omega
      clear hca hinv hr hN hz hin
      cases z with
      | false =>
       have HQ : Hid ((nds L).all (inDir (nds L)) = false) := by
        show _ = _
        rw [HI.out, HE.out, List.all_cons, HIN.out, HZ2.out]; rfl
       go_wp2_with (go_at_call 62; refine HC.out.mono ?_; rintro e w1 ⟨rfl, q3, rfl⟩)
       go_ret
       exact ⟨ret_int (by rw [HP.out, if_pos HQ.out]), _, rfl⟩
      | true =>
       have HQ : Hid ((nds L).all (inDir (nds L)) = ((nds L).drop (i + 1)).all (inDir (nds L))) := by
        show _ = _
        rw [HI.out, HE.out, List.all_cons, HIN.out, HZ2.out]; rfl
       go_wp2_with (go_at_call 62; refine HC.out.mono ?_; rintro e w1 ⟨rfl, q3, rfl⟩)
       exact ⟨⟨i + 1, q + q3, by simp, by go_num, by omega, HQ.out⟩, by simp [intOf]; omega⟩
    ·have hd : decide ((i : Int) < n) = false := by simpa using hi
     have HQ : Hid ((nds L).all (inDir (nds L)) = true) := by
      show _ = _
      rw [HI.out, List.drop_eq_nil_of_le (by rw [nds_length, HLN.out]; omega)]; rfl
     clear hinv
     go_wp2
     go_ret
     exact ⟨ret_int (by rw [HP.out, if_neg (by rw [HQ.out]; simp)]), q, rfl⟩
 ·have hz1 : (z != 0) = true := by simpa using hz0
  have HP : Hid (plc (nds L) = z) := by show _ = _; rw [plc, if_neg g1, if_pos (by rw [hz]; exact hz0), hz]
  clear hl h20 hz0 hz
  go_enter Try.func45, Try.ntmps45
  go_wp2_with (go_at_call 61; refine HNm.out.mono ?_; rintro e w1 ⟨rfl, q1, rfl⟩)
  go_ret
  exact ⟨ret_int HP.out.symm, q1, rfl⟩
theorem drop_get (L : List (Nv × Nod)) (i : Nat) (h : i < L.length) : nds L = (nds L).take i ++ (gl L i).2 :: (nds L).drop (i + 1) := by
 conv => lhs; rw [← List.take_append_drop i (nds L), nds_drop L i h]
theorem mem_take (L : List (Nv × Nod)) (i k : Nat) (h : i ≤ L.length) (hk : k < i) : (gl L k).2 ∈ (nds L).take i := by
 rw [List.mem_take_iff_getElem]
 refine ⟨k, by rw [nds_length]; omega, ?_⟩
 rw [gl_lt L k (by omega)]; simp [nds]
theorem two_nods {w : World} {b o1 o2 : Nat} {v u : Nv} (h0 : NodAt w b o1 v) (h1 : NodAt w b o2 u) : w.cell? ⟨b, o1, none⟩ = some (.slice v.na v.nn v.nc) ∧ w.cell? ⟨b, o1 + 1, none⟩ = some (.int .i64 v.ino) ∧ w.cell? ⟨b, o1 + 2, none⟩ = some (.int .i64 v.kind) ∧ w.cell? ⟨b, o1 + 3, none⟩ = some (.int .i64 v.mode) ∧ w.cell? ⟨b, o1 + 4, none⟩ = some (.int .i64 v.uid) ∧ w.cell? ⟨b, o1 + 5, none⟩ = some (.int .i64 v.gid) ∧ w.cell? ⟨b, o1 + 6, none⟩ = some (.slice v.da v.dn v.dc) ∧ w.cell? ⟨b, o1 + 7, none⟩ = some (.string v.tg) ∧ w.cell? ⟨b, o1 + 8, none⟩ = some (.slice v.xa v.xn v.xc) ∧ w.cell? ⟨b, o1 + 9, none⟩ = some (.bool v.op) ∧ w.cell? ⟨b, o2, none⟩ = some (.slice u.na u.nn u.nc) ∧ w.cell? ⟨b, o2 + 1, none⟩ = some (.int .i64 u.ino) ∧ w.cell? ⟨b, o2 + 2, none⟩ = some (.int .i64 u.kind) ∧ w.cell? ⟨b, o2 + 3, none⟩ = some (.int .i64 u.mode) ∧ w.cell? ⟨b, o2 + 4, none⟩ = some (.int .i64 u.uid) ∧ w.cell? ⟨b, o2 + 5, none⟩ = some (.int .i64 u.gid) ∧ w.cell? ⟨b, o2 + 6, none⟩ = some (.slice u.da u.dn u.dc) ∧ w.cell? ⟨b, o2 + 7, none⟩ = some (.string u.tg) ∧ w.cell? ⟨b, o2 + 8, none⟩ = some (.slice u.xa u.xn u.xc) ∧ w.cell? ⟨b, o2 + 9, none⟩ = some (.bool u.op) :=
 ⟨h0.c0, h0.c1, h0.c2, h0.c3, h0.c4, h0.c5, h0.c6, h0.c7, h0.c8, h0.c9, h1.c0, h1.c1, h1.c2, h1.c3, h1.c4, h1.c5, h1.c6, h1.c7, h1.c8, h1.c9⟩
set_option maxRecDepth 100000 in
set_option maxHeartbeats 1000000 in
theorem refCheck_any (a : Option Addr) (n c : Nat) (L : List (Nv × Nod)) (w : World) (hl : Ns w a n L) (hc : n ≤ c) (hcm : c ≤ 9223372036854775807) (h20 : ∀ p ∈ L, p.2.names.length ≤ 1000000) :
  Calls Try.prog 27 #[.slice a n c] w fun e w' => e = .returned (.int .i64 (check (nds L))) ∧ Below w.heap.size w w' := by
 have HL := hide hl
 have HLN := hide hl.1
 have HPl := hide (Placed_any a n c L w hl hc hcm h20)
 have HCK := hide (check_plc (nds L))
 obtain ⟨z, hz⟩ : ∃ z, plc (nds L) = z := ⟨_, rfl⟩
 rw [hz] at HPl HCK
 clear hl h20 hz
 by_cases hz0 : z = 0
 ·have hz1 : (z != 0) = false := by simp [hz0]
  have HP : Hid (check (nds L) = if (nds L).all may = false then 7 else if ¬ (nds L).Pairwise Tre.one then 8 else 0) := by
   show _ = _
   rw [HCK.out, if_neg (by simpa using hz0)]
  clear hz0
  go_enter Try.func27, Try.ntmps27
  go_wp2_with (go_at_call 45; refine HPl.out.mono ?_; rintro e w1 ⟨rfl, q1, rfl⟩)
  go_loopw [4, 5] (fun r _ wr => ∃ i : Nat, r = .int .i64 i ∧ i ≤ n ∧ Below w.heap.size w wr ∧ (nds L).all may = ((nds L).drop i).all may) (fun r _ _ => n - (intOf r).toNat)
  case atStart => exact ⟨0, rfl, Nat.zero_le _, drewN_below _ _, rfl⟩
  case round =>
   obtain ⟨i, rfl, hi0, hbel, hinv⟩ := hrel
   have HI := hide hinv
   have HB := hide hbel
   by_cases hi : i < n
   ·have hd : decide ((i : Int) < n) = true := by simpa using hi
    obtain ⟨ba, oa, rfl, hba, hca⟩ := (HL.out.below hbel).at (by omega)
    obtain ⟨c0, c1, c2, c3, c4, c5, c6, c7, c8, c9⟩ := hca i hi
    have HE := hide (nds_drop L i (by rw [HLN.out]; exact hi))
    have hi' : (i : Int) < n := by omega
    have HC := hide (refMay_any (gl L i).1 (gl L i).2 wr ((HL.out.below hbel).rep i hi))
    obtain ⟨z2, hz2⟩ : ∃ z, may (gl L i).2 = z := ⟨_, rfl⟩
    have HZ2 := hide hz2
    rw [hz2] at HC
    clear hca hinv hbel hz2
    cases z2 with
    | false =>
     have HQ : Hid (check (nds L) = 7) := by
      show _ = _
      rw [HP.out, HI.out, HE.out, List.all_cons, HZ2.out]; rfl
     go_wp2_with (go_at_call 46; refine HC.out.mono ?_; rintro e w2 ⟨rfl, hb2⟩)
     go_ret
     exact ⟨ret_int HQ.out.symm, HB.out.trans (hb2.mono HB.out.size)⟩
    | true =>
     have HQ : Hid ((nds L).all may = ((nds L).drop (i + 1)).all may) := by
      show _ = _
      rw [HI.out, HE.out, List.all_cons, HZ2.out]; rfl
     go_wp2_with (go_at_call 46; refine HC.out.mono ?_; rintro e w2 ⟨rfl, hb2⟩)
     exact ⟨⟨i + 1, by go_num, by omega, HB.out.trans (hb2.mono HB.out.size), HQ.out⟩, by simp [intOf]; omega⟩
   ·have hd : decide ((i : Int) < n) = false := by simpa using hi
    have HM : Hid (check (nds L) = if ¬ (nds L).Pairwise Tre.one then 8 else 0) := by
     show _ = _
     rw [HP.out, HI.out, List.drop_eq_nil_of_le (by rw [nds_length, HLN.out]; omega)]; rfl
    clear hinv hbel
    go_wp2
    go_loopw [6, 7] (fun r _ wr => ∃ i : Nat, r = .int .i64 i ∧ i ≤ n ∧ Below w.heap.size w wr ∧ ((nds L).take i).Pairwise Tre.one) (fun r _ _ => n - (intOf r).toNat)
    case atStart => exact ⟨0, rfl, Nat.zero_le _, HB.out, by simp⟩
    case round =>
     obtain ⟨i, rfl, hi0, hbel, hinv⟩ := hrel
     have HI := hide hinv
     have HB := hide hbel
     by_cases hi : i < n
     ·have hd : decide ((i : Int) < n) = true := by simpa using hi
      have HNT := hide (nds_take L i (by rw [HLN.out]; exact hi))
      have HDG := hide (drop_get L i (by rw [HLN.out]; exact hi))
      have hi' : (i : Int) < n := by omega
      clear hinv hbel
      go_wp2
      go_loopw [7] (fun r ws => ∃ k : Nat, r = .int .i64 k ∧ k ≤ i ∧ Below w.heap.size w ws ∧ ∀ t, t < k → one (gl L t).2 (gl L i).2) (fun r _ => i - (intOf r).toNat)
      case atStart => exact ⟨0, rfl, Nat.zero_le _, HB.out, fun t ht => by omega⟩
      case round =>
       obtain ⟨k, rfl, hk0, hbel2, hinv2⟩ := hrel
       have HI2 := hide hinv2
       have HB2 := hide hbel2
       by_cases hk : k < i
       ·have hd2 : decide ((k : Int) < i) = true := by simpa using hk
        obtain ⟨ba, oa, rfl, hba, hca⟩ := (HL.out.below hbel2).at (by omega)
        obtain ⟨c0, c1, c2, c3, c4, c5, c6, c7, c8, c9⟩ := hca i hi
        obtain ⟨d0, d1, d2, d3, d4, d5, d6, d7, d8, d9⟩ := hca k (by omega)
        have hri := (HL.out.below hbel2).rep i hi
        have hrk := (HL.out.below hbel2).rep k (by omega)
        have hk' : (k : Int) < n := by omega
        have HMK := hide (mem_take L i k (by rw [HLN.out]; omega) hk)
        have HRI := hide hri
        have HRK := hide hrk
        by_cases hino : (gl L i).1.ino = (gl L k).1.ino
        ·have g1 : ((gl L i).1.ino == (gl L k).1.ino) = true := by simpa using hino
         have HIN : Hid ((gl L k).2.ino = (gl L i).2.ino) := by show _ = _; rw [hri.ino, hrk.ino, hino]
         by_cases hkd : (gl L i).1.kind = 1
         ·have g2 : ((gl L i).1.kind == 1) = true := by simpa using hkd
          have HQ : Hid (check (nds L) = 8) := by
           show _ = _
           rw [HM.out, if_pos]
           rw [HDG.out]
           exact pair_not HMK.out HIN.out (.inl (hri.kind.trans hkd))
          clear hca hri hrk hino hkd hinv2 hbel2 HPl
          go_wp2
          go_quiet (fail)
          go_wp2
          go_ret
          exact ⟨ret_int HQ.out.symm, HB2.out.trans (drewN_below _ _)⟩
         ·have g2 : ((gl L i).1.kind == 1) = false := by simpa using hkd
          have HKD : Hid ((gl L i).2.kind ≠ 1) := by show _ ≠ _; rw [hri.kind]; exact hkd
          obtain ⟨z3, hz3⟩ : ∃ z, alike (gl L i).2 (gl L k).2 = z := ⟨_, rfl⟩
          have HZ3 : Hid (alike (gl L k).2 (gl L i).2 = z3) := by show _ = _; rw [alike_comm]; exact hz3
          have HK2 : Hid (Calls Try.prog 26 #[.agg (gl L i).1.cells, .agg (gl L k).1.cells] wr.drew fun e w' => e = .returned (.bool z3) ∧ Below wr.heap.size wr w') := by
           have := refAlike_any (gl L i).1 (gl L k).1 (gl L i).2 (gl L k).2 wr.drew (hri.below (drewN_below wr 1)) (hrk.below (drewN_below wr 1))
           rw [hz3] at this
           exact this.mono fun e w' ⟨he, hb⟩ => ⟨he, ⟨hb.os, hb.tape, hb.output, hb.size, hb.block⟩⟩
          simp only [Nv.cells] at HK2
          have HNI := hide (hca i hi)
          have HNK := hide (hca k (by omega))
          have HS := hide (two_nods (hca i hi) (hca k (by omega)))
          clear hca hri hrk hino hkd hinv2 hbel2 hz3 HPl
          go_wp2
          clear c0 c1 c2 c3 c4 c5 c6 c7 c8 c9 d0 d1 d2 d3 d4 d5 d6 d7 d8 d9
          go_region_held3 (fun wX => wX.cell? ⟨ba, oa + i * 10, none⟩ = some (.slice (gl L i).1.na (gl L i).1.nn (gl L i).1.nc) ∧ wX.cell? ⟨ba, oa + i * 10 + 1, none⟩ = some (.int .i64 (gl L i).1.ino) ∧ wX.cell? ⟨ba, oa + i * 10 + 2, none⟩ = some (.int .i64 (gl L i).1.kind) ∧ wX.cell? ⟨ba, oa + i * 10 + 3, none⟩ = some (.int .i64 (gl L i).1.mode) ∧ wX.cell? ⟨ba, oa + i * 10 + 4, none⟩ = some (.int .i64 (gl L i).1.uid) ∧ wX.cell? ⟨ba, oa + i * 10 + 5, none⟩ = some (.int .i64 (gl L i).1.gid) ∧ wX.cell? ⟨ba, oa + i * 10 + 6, none⟩ = some (.slice (gl L i).1.da (gl L i).1.dn (gl L i).1.dc) ∧ wX.cell? ⟨ba, oa + i * 10 + 7, none⟩ = some (.string (gl L i).1.tg) ∧ wX.cell? ⟨ba, oa + i * 10 + 8, none⟩ = some (.slice (gl L i).1.xa (gl L i).1.xn (gl L i).1.xc) ∧ wX.cell? ⟨ba, oa + i * 10 + 9, none⟩ = some (.bool (gl L i).1.op) ∧ wX.cell? ⟨ba, oa + k * 10, none⟩ = some (.slice (gl L k).1.na (gl L k).1.nn (gl L k).1.nc) ∧ wX.cell? ⟨ba, oa + k * 10 + 1, none⟩ = some (.int .i64 (gl L k).1.ino) ∧ wX.cell? ⟨ba, oa + k * 10 + 2, none⟩ = some (.int .i64 (gl L k).1.kind) ∧ wX.cell? ⟨ba, oa + k * 10 + 3, none⟩ = some (.int .i64 (gl L k).1.mode) ∧ wX.cell? ⟨ba, oa + k * 10 + 4, none⟩ = some (.int .i64 (gl L k).1.uid) ∧ wX.cell? ⟨ba, oa + k * 10 + 5, none⟩ = some (.int .i64 (gl L k).1.gid) ∧ wX.cell? ⟨ba, oa + k * 10 + 6, none⟩ = some (.slice (gl L k).1.da (gl L k).1.dn (gl L k).1.dc) ∧ wX.cell? ⟨ba, oa + k * 10 + 7, none⟩ = some (.string (gl L k).1.tg) ∧ wX.cell? ⟨ba, oa + k * 10 + 8, none⟩ = some (.slice (gl L k).1.xa (gl L k).1.xn (gl L k).1.xc) ∧ wX.cell? ⟨ba, oa + k * 10 + 9, none⟩ = some (.bool (gl L k).1.op)) (first | exact HS5.out | exact HS.out)
           ((first
            | (go_at_call 26; refine HK2.out.mono ?_; rintro r w5 ⟨rfl, hb5⟩; have HB5 := hide hb5; have HS5 := hide (two_nods (HNI.out.below hb5 hba) (HNK.out.below hb5 hba)); clear hb5)))
          all_goals (
           have e5 := hide (HB2.out.trans (HB5.out.mono HB2.out.size))
           clear HK2
           cases z3 with
           | false =>
            have HQ : Hid (check (nds L) = 8) := by
             show _ = _
             rw [HM.out, if_pos]
             rw [HDG.out]
             exact pair_not HMK.out HIN.out (.inr HZ3.out)
            go_wp2
            go_ret
            exact ⟨ret_int HQ.out.symm, e5.out⟩
           | true =>
            go_wp2
            refine ⟨⟨k + 1, by go_num, by omega, e5.out, fun t ht => ?_⟩, by simp [intOf]; omega⟩
            by_cases e : t = k
            ·subst e; exact fun _ => ⟨HKD.out, HZ3.out⟩
            ·exact HI2.out t (by omega))
        ·have g1 : ((gl L i).1.ino == (gl L k).1.ino) = false := by simpa using hino
         have HIN : Hid (¬ (gl L k).2.ino = (gl L i).2.ino) := by show ¬ _; rw [hri.ino, hrk.ino]; exact fun e => hino e.symm
         clear hca hri hrk hino hinv2 hbel2 HPl
         go_wp2
         go_quiet (fail)
         go_wp2
         refine ⟨⟨k + 1, by go_num, by omega, HB2.out.trans (drewN_below _ _), fun t ht => ?_⟩, by simp [intOf]; omega⟩
         by_cases e : t = k
         ·subst e; exact fun h => absurd h HIN.out
         ·exact HI2.out t (by omega)
       ·have hd2 : decide ((k : Int) < i) = false := by simpa using hk
        have HQ : Hid (((nds L).take (i + 1)).Pairwise Tre.one) := by
         show List.Pairwise _ _
         rw [HNT.out, pair_snoc]
         refine ⟨HI.out, fun m hm => ?_⟩
         rw [List.mem_take_iff_getElem] at hm
         obtain ⟨t, ht, rfl⟩ := hm
         have e : (nds L)[t] = (gl L t).2 := by rw [gl_lt L t (by rw [nds_length] at ht; omega)]; simp [nds]
         rw [e]
         exact HI2.out t (by omega)
        clear hinv2 hbel2
        go_wp2
        exact ⟨⟨i + 1, by go_num, by omega, HB2.out, HQ.out⟩, by simp [intOf]; omega⟩
     ·have hd : decide ((i : Int) < n) = false := by simpa using hi
      have HQ : Hid (check (nds L) = 0) := by
       show _ = _
       rw [List.take_of_length_le (by rw [nds_length, HLN.out]; omega)] at hinv
       rw [HM.out, if_neg (by simpa using hinv)]
      clear hinv hbel
      go_wp2
      go_ret
      exact ⟨ret_int HQ.out.symm, HB.out⟩
 ·have hz1 : (z != 0) = true := by simpa using hz0
  have HQ : Hid (check (nds L) = z) := by show _ = _; rw [HCK.out, if_pos hz0]
  clear hz0
  go_enter Try.func27, Try.ntmps27
  go_wp2_with (go_at_call 45; refine HPl.out.mono ?_; rintro e w1 ⟨rfl, q1, rfl⟩)
  go_ret
  exact ⟨ret_int HQ.out.symm, drewN_below _ _⟩
end Go.Proofs.Ytoocipdhplaboaa

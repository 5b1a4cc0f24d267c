import Derived.Test.YtflohhefbbidcaaLJTreCopied
import Derived.Test.YtflohhefbbidcaaLJTreMay
set_option linter.unusedVariables false
namespace Go.Proofs.Ytflohhefbbidcaa
open Go.RowKit Go.Maps
open Nam Tre
namespace Tre
def plc (l : List Nod) : Int := if 1024 < l.length then 3 else if nam l ≠ 0 then nam l else if isDir l [] = false then 4 else if l.all (inDir l) = false then 5 else 0
end Tre
set_option maxRecDepth 100000 in
set_option maxHeartbeats 1000000 in
theorem Placed_any (a : Option Addr) (n c : Nat) (L : List (Nv × Nod)) (w : World) (hl : Ns w a n L) (hc : n ≤ c) (hcm : c ≤ 9223372036854775807) (h20 : ∀ p ∈ L, p.2.names.length ≤ 1000000) :
  Calls Try.prog 39 #[.slice a n c] w fun e w' => e = .returned (.int .i64 (plc (nds L))) ∧ ∃ q, w' = w.drewN q := by
 have HL := hide hl
 have HLN := hide hl.1
 have H20 := hide h20
 by_cases h1 : (1024 : Int) < n
 ·have HP : Hid (plc (nds L) = 3) := by show _ = _; rw [plc, if_pos (by rw [nds_length, hl.1]; omega)]
  clear hl h20
  go_enter Try.func39, Try.ntmps39
  go_wp2
  go_ret
  exact ⟨ret_int HP.out.symm, 0, rfl⟩
 have g1 : ¬ 1024 < (nds L).length := by rw [nds_length, hl.1]; omega
 have HNm := hide (named_any a n c L w hl hc hcm h20)
 obtain ⟨z, hz⟩ : ∃ z, nam (nds L) = z := ⟨_, rfl⟩
 rw [hz] at HNm
 by_cases hz0 : z = 0
 ·have hz1 : (z != 0) = false := by simp [hz0]
  have HZ : Hid (nam (nds L) = 0) := hz.trans hz0
  have HD := hide (fun q => refIsDir_any a n c L none 0 0 [] (w.drewN q) (hl.below (drewN_below w q)) hc hcm (Rs.nil _ _) h20)
  have HDK := hide (fun q b m d k (hk : Rs w b m k) => refIsDir_any a n c L b m d k (w.drewN q) (hl.below (drewN_below w q)) hc hcm (hk.drewN q) h20)
  obtain ⟨r, hr⟩ : ∃ r, isDir (nds L) [] = r := ⟨_, rfl⟩
  rw [hr] at HD
  cases r with
  | false =>
   have HP : Hid (plc (nds L) = 4) := by show _ = _; rw [plc, if_neg g1, if_neg (by rw [HZ.out]; simp), if_pos hr]
   clear hl h20 hz0 hz hr
   go_enter Try.func39, Try.ntmps39
   go_wp2_with (first | (go_at_call 55; refine HNm.out.mono ?_; rintro e w1 ⟨rfl, q1, rfl⟩) | (go_at_call 56; refine (HD.out _).mono ?_; rintro e w1 ⟨rfl, q2, rfl⟩))
   go_ret
   exact ⟨ret_int HP.out.symm, _, rfl⟩
  | true =>
   have HP : Hid (plc (nds L) = if (nds L).all (inDir (nds L)) = false then 5 else 0) := by show _ = _; rw [plc, if_neg g1, if_neg (by rw [HZ.out]; simp), if_neg (by rw [hr]; simp)]
   clear hl h20 hz0 hz hr
   go_enter Try.func39, Try.ntmps39
   go_wp2_with (first | (go_at_call 55; refine HNm.out.mono ?_; rintro e w1 ⟨rfl, q1, rfl⟩) | (go_at_call 56; refine (HD.out _).mono ?_; rintro e w1 ⟨rfl, q2, rfl⟩))
   go_loopw [5, 6] (fun r _ wr => ∃ i q : Nat, wr = w.drewN q ∧ r = .int .i64 i ∧ i ≤ n ∧ (nds L).all (inDir (nds L)) = ((nds L).drop i).all (inDir (nds L))) (fun r _ _ => n - (intOf r).toNat)
   case atStart => exact ⟨0, _, rfl, rfl, Nat.zero_le _, rfl⟩
   case round =>
    obtain ⟨i, q, rfl, rfl, hi0, hinv⟩ := hrel
    have HI := hide hinv
    by_cases hi : i < n
    ·have hd : decide ((i : Int) < n) = true := by simpa using hi
     obtain ⟨ba, oa, rfl, hba, hca⟩ := HL.out.at (by omega)
     have HE := hide (nds_drop L i (by rw [HLN.out]; exact hi))
     have hr := HL.out.rep i hi
     obtain ⟨na, nn, nc, c0, hN, n1, n2⟩ : ∃ na nn nc, w.cell? ⟨ba, oa + i * 10, none⟩ = some (.slice na nn nc) ∧ Rs w na nn (gl L i).2.names ∧ nn ≤ nc ∧ nc ≤ 9223372036854775807 := ⟨_, _, _, (hca i hi).c0, hr.names, hr.nc, hr.ncm⟩
     have hi' : (i : Int) < n := by omega
     have h2m := H20.out (gl L i) (gl_mem L i (by rw [HLN.out]; exact hi))
     rw [hN.1] at h2m
     cases nn with
     | zero =>
      have HQ : Hid ((nds L).all (inDir (nds L)) = ((nds L).drop (i + 1)).all (inDir (nds L))) := by
       show _ = _
       rw [HI.out, HE.out, List.all_cons, inDir, hN.1]; rfl
      clear hca hinv hr hN
      go_wp2
      exact ⟨⟨i + 1, q, rfl, by go_num, by omega, HQ.out⟩, by simp [intOf]; omega⟩
     | succ k =>
      have HC := hide (HDK.out q na k nc ((gl L i).2.names.take k) (hN.take k (by omega)))
      have hin : inDir (nds L) (gl L i).2 = isDir (nds L) ((gl L i).2.names.take k) := by
       rw [inDir, hN.1, decide_eq_false (by omega), Bool.false_or, List.dropLast_eq_take, hN.1, Nat.add_sub_cancel]
      have HIN := hide hin
      obtain ⟨z, hz⟩ : ∃ z, isDir (nds L) ((gl L i).2.names.take k) = z := ⟨_, rfl⟩
      have HZ2 := hide hz
      rw [hz] at HC
      have k0 : (0 : Int) ≤ k := by omega
      have k1 : (k : Int) ≤ nc := by omega
      have kk : decide ((0 : Int) < (k : Int) + 1) = true := by rw [decide_eq_true_eq]; omega
      clear hca hinv hr hN hz hin
      cases z with
      | false =>
       have HQ : Hid ((nds L).all (inDir (nds L)) = false) := by
        show _ = _
        rw [HI.out, HE.out, List.all_cons, HIN.out, HZ2.out]; rfl
       go_wp2_with (go_at_call 56; refine HC.out.mono ?_; rintro e w1 ⟨rfl, q3, rfl⟩)
       go_ret
       exact ⟨ret_int (by rw [HP.out, if_pos HQ.out]), _, rfl⟩
      | true =>
       have HQ : Hid ((nds L).all (inDir (nds L)) = ((nds L).drop (i + 1)).all (inDir (nds L))) := by
        show _ = _
        rw [HI.out, HE.out, List.all_cons, HIN.out, HZ2.out]; rfl
       go_wp2_with (go_at_call 56; refine HC.out.mono ?_; rintro e w1 ⟨rfl, q3, rfl⟩)
       exact ⟨⟨i + 1, q + q3, by simp, by go_num, by omega, HQ.out⟩, by simp [intOf]; omega⟩
    ·have hd : decide ((i : Int) < n) = false := by simpa using hi
     have HQ : Hid ((nds L).all (inDir (nds L)) = true) := by
      show _ = _
      rw [HI.out, List.drop_eq_nil_of_le (by rw [nds_length, HLN.out]; omega)]; rfl
     clear hinv
     go_wp2
     go_ret
     exact ⟨ret_int (by rw [HP.out, if_neg (by rw [HQ.out]; simp)]), q, rfl⟩
 ·have hz1 : (z != 0) = true := by simpa using hz0
  have HP : Hid (plc (nds L) = z) := by show _ = _; rw [plc, if_neg g1, if_pos (by rw [hz]; exact hz0), hz]
  clear hl h20 hz0 hz
  go_enter Try.func39, Try.ntmps39
  go_wp2_with (go_at_call 55; refine HNm.out.mono ?_; rintro e w1 ⟨rfl, q1, rfl⟩)
  go_ret
  exact ⟨ret_int HP.out.symm, q1, rfl⟩
theorem drop_get (L : List (Nv × Nod)) (i : Nat) (h : i < L.length) : nds L = (nds L).take i ++ (gl L i).2 :: (nds L).drop (i + 1) := by
 conv => lhs; rw [← List.take_append_drop i (nds L), nds_drop L i h]
theorem mem_take (L : List (Nv × Nod)) (i k : Nat) (h : i ≤ L.length) (hk : k < i) : (gl L k).2 ∈ (nds L).take i := by
 rw [List.mem_take_iff_getElem]
 refine ⟨k, by rw [nds_length]; omega, ?_⟩
 rw [gl_lt L k (by omega)]; simp [nds]
theorem two_nods {w : World} {b o1 o2 : Nat} {v u : Nv} (h0 : NodAt w b o1 v) (h1 : NodAt w b o2 u) : w.cell? ⟨b, o1, none⟩ = some (.slice v.na v.nn v.nc) ∧ w.cell? ⟨b, o1 + 1, none⟩ = some (.int .i64 v.ino) ∧ w.cell? ⟨b, o1 + 2, none⟩ = some (.int .i64 v.kind) ∧ w.cell? ⟨b, o1 + 3, none⟩ = some (.int .i64 v.mode) ∧ w.cell? ⟨b, o1 + 4, none⟩ = some (.int .i64 v.uid) ∧ w.cell? ⟨b, o1 + 5, none⟩ = some (.int .i64 v.gid) ∧ w.cell? ⟨b, o1 + 6, none⟩ = some (.slice v.da v.dn v.dc) ∧ w.cell? ⟨b, o1 + 7, none⟩ = some (.string v.tg) ∧ w.cell? ⟨b, o1 + 8, none⟩ = some (.slice v.xa v.xn v.xc) ∧ w.cell? ⟨b, o1 + 9, none⟩ = some (.bool v.op) ∧ w.cell? ⟨b, o2, none⟩ = some (.slice u.na u.nn u.nc) ∧ w.cell? ⟨b, o2 + 1, none⟩ = some (.int .i64 u.ino) ∧ w.cell? ⟨b, o2 + 2, none⟩ = some (.int .i64 u.kind) ∧ w.cell? ⟨b, o2 + 3, none⟩ = some (.int .i64 u.mode) ∧ w.cell? ⟨b, o2 + 4, none⟩ = some (.int .i64 u.uid) ∧ w.cell? ⟨b, o2 + 5, none⟩ = some (.int .i64 u.gid) ∧ w.cell? ⟨b, o2 + 6, none⟩ = some (.slice u.da u.dn u.dc) ∧ w.cell? ⟨b, o2 + 7, none⟩ = some (.string u.tg) ∧ w.cell? ⟨b, o2 + 8, none⟩ = some (.slice u.xa u.xn u.xc) ∧ w.cell? ⟨b, o2 + 9, none⟩ = some (.bool u.op) :=
 ⟨h0.c0, h0.c1, h0.c2, h0.c3, h0.c4, h0.c5, h0.c6, h0.c7, h0.c8, h0.c9, h1.c0, h1.c1, h1.c2, h1.c3, h1.c4, h1.c5, h1.c6, h1.c7, h1.c8, h1.c9⟩
end Go.Proofs.Ytflohhefbbidcaa
namespace Go.Proofs.Ytflohhefbbidcaa
open Go.RowKit Go.Maps
open Nam Tre
end Go.Proofs.Ytflohhefbbidcaa
namespace Go.Proofs.Ytflohhefbbidcaa
open Go.RowKit Go.Maps
open Nam Tre
end Go.Proofs.Ytflohhefbbidcaa
namespace Go.Proofs.Ytflohhefbbidcaa
open Go.RowKit Go.Maps
open Nam Tre
end Go.Proofs.Ytflohhefbbidcaa
namespace Go.Proofs.Ytflohhefbbidcaa
open Go.RowKit Go.Maps
open Nam Tre
end Go.Proofs.Ytflohhefbbidcaa

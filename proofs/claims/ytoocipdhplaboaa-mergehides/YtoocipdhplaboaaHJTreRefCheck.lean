import Derived.Test.YtoocipdhplaboaaHJTreLinks
import Derived.Test.YtoocipdhplaboaaHJTreMay
set_option linter.unusedVariables false
namespace Go.Proofs.Ytoocipdhplaboaa
open Go.RowKit Go.Maps
open Nam Tre
namespace Tre
def plc (l : List Nod) : Int := if 1024 < l.length then 3 else if nam l ≠ 0 then nam l else if isDir l [] = false then 4 else if l.all (inDir l) = false then 5 else 0
end Tre
set_option maxRecDepth 100000 in
set_option maxHeartbeats 1000000 in
theorem Placed_any (a : Option Addr) (n c : Nat) (L : List (Nv × Nod)) (w : World) (hl : Ns w a n L) (hc : n ≤ c) (hcm : c ≤ 9223372036854775807) (h20 : ∀ p ∈ L, p.2.names.length ≤ 1000000) :
  Calls Try.prog 45 #[.slice a n c] w fun e w' => e = .returned (.int .i64 (plc (nds L))) ∧ ∃ q, w' = w.drewN q := by
 have HL := hide hl
 have HLN := hide hl.1
 have H20 := hide h20
 by_cases h1 : (1024 : Int) < n
 ·have HP : Hid (plc (nds L) = 3) := by show _ = _; rw [plc, if_pos (by rw [nds_length, hl.1]; omega)]
  clear hl h20
  go_enter Try.func45, Try.ntmps45
  go_wp2
  go_ret
  exact ⟨ret_int HP.out.symm, 0, rfl⟩
 have g1 : ¬ 1024 < (nds L).length := by rw [nds_length, hl.1]; omega
 have HNm := hide (named_any a n c L w hl hc hcm h20)
 obtain ⟨z, hz⟩ : ∃ z, nam (nds L) = z := ⟨_, rfl⟩
 rw [hz] at HNm
 by_cases hz0 : z = 0
 ·have hz1 : (z != 0) = false := by simp [hz0]
  have HZ : Hid (nam (nds L) = 0) := hz.trans hz0
  have HD := hide (fun q => refIsDir_any a n c L none 0 0 [] (w.drewN q) (hl.below (drewN_below w q)) hc hcm (Rs.nil _ _) h20)
  have HDK := hide (fun q b m d k (hk : Rs w b m k) => refIsDir_any a n c L b m d k (w.drewN q) (hl.below (drewN_below w q)) hc hcm (hk.drewN q) h20)
  obtain ⟨r, hr⟩ : ∃ r, isDir (nds L) [] = r := ⟨_, rfl⟩
  rw [hr] at HD
  cases r with
  | false =>
   have HP : Hid (plc (nds L) = 4) := by show _ = _; rw [plc, if_neg g1, if_neg (by rw [HZ.out]; simp), if_pos hr]
   clear hl h20 hz0 hz hr
   go_enter Try.func45, Try.ntmps45
   go_wp2_with (first | (go_at_call 61; refine HNm.out.mono ?_; rintro e w1 ⟨rfl, q1, rfl⟩) | (go_at_call 62; refine (HD.out _).mono ?_; rintro e w1 ⟨rfl, q2, rfl⟩))
   go_ret
   exact ⟨ret_int HP.out.symm, _, rfl⟩
  | true =>
   have HP : Hid (plc (nds L) = if (nds L).all (inDir (nds L)) = false then 5 else 0) := by show _ = _; rw [plc, if_neg g1, if_neg (by rw [HZ.out]; simp), if_neg (by rw [hr]; simp)]
   clear hl h20 hz0 hz hr
   go_enter Try.func45, Try.ntmps45
   go_wp2_with (first | (go_at_call 61; refine HNm.out.mono ?_; rintro e w1 ⟨rfl, q1, rfl⟩) | (go_at_call 62; refine (HD.out _).mono ?_; rintro e w1 ⟨rfl, q2, rfl⟩))
   go_loopw [5, 6] (fun r _ wr => ∃ i q : Nat, wr = w.drewN q ∧ r = .int .i64 i ∧ i ≤ n ∧ (nds L).all (inDir (nds L)) = ((nds L).drop i).all (inDir (nds L))) (fun r _ _ => n - (intOf r).toNat)
   case atStart => exact ⟨0, _, rfl, rfl, Nat.zero_le _, rfl⟩
   case round =>
    obtain ⟨i, q, rfl, rfl, hi0, hinv⟩ := hrel
    have HI := hide hinv
    by_cases hi : i < n
    ·have hd : decide ((i : Int) < n) = true := by simpa using hi
     obtain ⟨ba, oa, rfl, hba, hca⟩ := HL.out.at (by omega)
     have HE := hide (nds_drop L i (by rw [HLN.out]; exact hi))
     have hr := HL.out.rep i hi
     obtain ⟨na, nn, nc, c0, hN, n1, n2⟩ : ∃ na nn nc, w.cell? ⟨ba, oa + i * 10, none⟩ = some (.slice na nn nc) ∧ Rs w na nn (gl L i).2.names ∧ nn ≤ nc ∧ nc ≤ 9223372036854775807 := ⟨_, _, _, (hca i hi).c0, hr.names, hr.nc, hr.ncm⟩
     have hi' : (i : Int) < n := by omega
     have h2m := H20.out (gl L i) (gl_mem L i (by rw [HLN.out]; exact hi))
     rw [hN.1] at h2m
     cases nn with
     | zero =>
      have HQ : Hid ((nds L).all (inDir (nds L)) = ((nds L).drop (i + 1)).all (inDir (nds L))) := by
       show _ = _
       rw [HI.out, HE.out, List.all_cons, inDir, hN.1]; rfl
      clear hca hinv hr hN
      go_wp2
      exact ⟨⟨i + 1, q, rfl, by go_num, by omega, HQ.out⟩, by simp [intOf]; omega⟩
     | succ k =>
      have HC := hide (HDK.out q na k nc ((gl L i).2.names.take k) (hN.take k (by omega)))
      have hin : inDir (nds L) (gl L i).2 = isDir (nds L) ((gl L i).2.names.take k) := by
       rw [inDir, hN.1, decide_eq_false (by omega), Bool.false_or, List.dropLast_eq_take, hN.1, Nat.add_sub_cancel]
      have HIN := hide hin
      obtain ⟨z, hz⟩ : ∃ z, isDir (nds L) ((gl L i).2.names.take k) = z := ⟨_, rfl⟩
      have HZ2 := hide hz
      rw [hz] at HC
      have k0 : (0 : Int) ≤ k := by omega
      have k1 : (k : Int) ≤ nc := by omega
      have kk : decide ((0 : Int) < (k : Int) + 1) = true := by rw [decide_eq_true_eq]; omega
      clear hca hinv hr hN hz hin
      cases z with
      | false =>
       have HQ : Hid ((nds L).all (inDir (nds L)) = false) := by
        show _ = _
        rw [HI.out, HE.out, List.all_cons, HIN.out, HZ2.out]; rfl
       go_wp2_with (go_at_call 62; refine HC.out.mono ?_; rintro e w1 ⟨rfl, q3, rfl⟩)
       go_ret
       exact ⟨ret_int (by rw [HP.out, if_pos HQ.out]), _, rfl⟩
      | true =>
       have HQ : Hid ((nds L).all (inDir (nds L)) = ((nds L).drop (i + 1)).all (inDir (nds L))) := by
        show _ = _
        rw [HI.out, HE.out, List.all_cons, HIN.out, HZ2.out]; rfl
       go_wp2_with (go_at_call 62; refine HC.out.mono ?_; rintro e w1 ⟨rfl, q3, rfl⟩)
       exact ⟨⟨i + 1, q + q3, by simp, by go_num, by omega, HQ.out⟩, by simp [intOf]; omega⟩
    ·have hd : decide ((i : Int) < n) = false := by simpa using hi
     have HQ : Hid ((nds L).all (inDir (nds L)) = true) := by
      show _ = _
      rw [HI.out, List.drop_eq_nil_of_le (by rw [nds_length, HLN.out]; omega)]; rfl
     clear hinv
     go_wp2
     go_ret
     exact ⟨ret_int (by rw [HP.out, if_neg (by rw [HQ.out]; simp)]), q, rfl⟩
 ·have hz1 : (z != 0) = true := by simpa using hz0
  have HP : Hid (plc (nds L) = z) := by show _ = _; rw [plc, if_neg g1, if_pos (by rw [hz]; exact hz0), hz]
  clear hl h20 hz0 hz
  go_enter Try.func45, Try.ntmps45
  go_wp2_with (go_at_call 61; refine HNm.out.mono ?_; rintro e w1 ⟨rfl, q1, rfl⟩)
  go_ret
  exact ⟨ret_int HP.out.symm, q1, rfl⟩
theorem drop_get (L : List (Nv × Nod)) (i : Nat) (h : i < L.length) : nds L = (nds L).take i ++ (gl L i).2 :: (nds L).drop (i + 1) := by
 conv => lhs; rw [← List.take_append_drop i (nds L), nds_drop L i h]
theorem mem_take (L : List (Nv × Nod)) (i k : Nat) (h : i ≤ L.length) (hk : k < i) : (gl L k).2 ∈ (nds L).take i := by
 rw [List.mem_take_iff_getElem]
 refine ⟨k, by rw [nds_length]; omega, ?_⟩
 rw [gl_lt L k (by omega)]; simp [nds]
theorem two_nods {w : World} {b o1 o2 : Nat} {v u : Nv} (h0 : NodAt w b o1 v) (h1 : NodAt w b o2 u) : w.cell? ⟨b, o1, none⟩ = some (.slice v.na v.nn v.nc) ∧ w.cell? ⟨b, o1 + 1, none⟩ = some (.int .i64 v.ino) ∧ w.cell? ⟨b, o1 + 2, none⟩ = some (.int .i64 v.kind) ∧ w.cell? ⟨b, o1 + 3, none⟩ = some (.int .i64 v.mode) ∧ w.cell? ⟨b, o1 + 4, none⟩ = some (.int .i64 v.uid) ∧ w.cell? ⟨b, o1 + 5, none⟩ = some (.int .i64 v.gid) ∧ w.cell? ⟨b, o1 + 6, none⟩ = some (.slice v.da v.dn v.dc) ∧ w.cell? ⟨b, o1 + 7, none⟩ = some (.string v.tg) ∧ w.cell? ⟨b, o1 + 8, none⟩ = some (.slice v.xa v.xn v.xc) ∧ w.cell? ⟨b, o1 + 9, none⟩ = some (.bool v.op) ∧ w.cell? ⟨b, o2, none⟩ = some (.slice u.na u.nn u.nc) ∧ w.cell? ⟨b, o2 + 1, none⟩ = some (.int .i64 u.ino) ∧ w.cell? ⟨b, o2 + 2, none⟩ = some (.int .i64 u.kind) ∧ w.cell? ⟨b, o2 + 3, none⟩ = some (.int .i64 u.mode) ∧ w.cell? ⟨b, o2 + 4, none⟩ = some (.int .i64 u.uid) ∧ w.cell? ⟨b, o2 + 5, none⟩ = some (.int .i64 u.gid) ∧ w.cell? ⟨b, o2 + 6, none⟩ = some (.slice u.da u.dn u.dc) ∧ w.cell? ⟨b, o2 + 7, none⟩ = some (.string u.tg) ∧ w.cell? ⟨b, o2 + 8, none⟩ = some (.slice u.xa u.xn u.xc) ∧ w.cell? ⟨b, o2 + 9, none⟩ = some (.bool u.op) :=
 ⟨h0.c0, h0.c1, h0.c2, h0.c3, h0.c4, h0.c5, h0.c6, h0.c7, h0.c8, h0.c9, h1.c0, h1.c1, h1.c2, h1.c3, h1.c4, h1.c5, h1.c6, h1.c7, h1.c8, h1.c9⟩
end Go.Proofs.Ytoocipdhplaboaa
namespace Go.Proofs.Ytoocipdhplaboaa
open Go.RowKit Go.Maps
open Nam Tre
theorem two_rows {w : World} {b1 b2 o1 o2 : Nat} {v u : Nv} (h0 : NodAt w b1 o1 v) (h1 : NodAt w b2 o2 u) : w.cell? ⟨b1, o1, none⟩ = some (.slice v.na v.nn v.nc) ∧ w.cell? ⟨b1, o1 + 1, none⟩ = some (.int .i64 v.ino) ∧ w.cell? ⟨b1, o1 + 2, none⟩ = some (.int .i64 v.kind) ∧ w.cell? ⟨b1, o1 + 3, none⟩ = some (.int .i64 v.mode) ∧ w.cell? ⟨b1, o1 + 4, none⟩ = some (.int .i64 v.uid) ∧ w.cell? ⟨b1, o1 + 5, none⟩ = some (.int .i64 v.gid) ∧ w.cell? ⟨b1, o1 + 6, none⟩ = some (.slice v.da v.dn v.dc) ∧ w.cell? ⟨b1, o1 + 7, none⟩ = some (.string v.tg) ∧ w.cell? ⟨b1, o1 + 8, none⟩ = some (.slice v.xa v.xn v.xc) ∧ w.cell? ⟨b1, o1 + 9, none⟩ = some (.bool v.op) ∧ w.cell? ⟨b2, o2, none⟩ = some (.slice u.na u.nn u.nc) ∧ w.cell? ⟨b2, o2 + 1, none⟩ = some (.int .i64 u.ino) ∧ w.cell? ⟨b2, o2 + 2, none⟩ = some (.int .i64 u.kind) ∧ w.cell? ⟨b2, o2 + 3, none⟩ = some (.int .i64 u.mode) ∧ w.cell? ⟨b2, o2 + 4, none⟩ = some (.int .i64 u.uid) ∧ w.cell? ⟨b2, o2 + 5, none⟩ = some (.int .i64 u.gid) ∧ w.cell? ⟨b2, o2 + 6, none⟩ = some (.slice u.da u.dn u.dc) ∧ w.cell? ⟨b2, o2 + 7, none⟩ = some (.string u.tg) ∧ w.cell? ⟨b2, o2 + 8, none⟩ = some (.slice u.xa u.xn u.xc) ∧ w.cell? ⟨b2, o2 + 9, none⟩ = some (.bool u.op) :=
 ⟨h0.c0, h0.c1, h0.c2, h0.c3, h0.c4, h0.c5, h0.c6, h0.c7, h0.c8, h0.c9, h1.c0, h1.c1, h1.c2, h1.c3, h1.c4, h1.c5, h1.c6, h1.c7, h1.c8, h1.c9⟩
end Go.Proofs.Ytoocipdhplaboaa
namespace Go.Proofs.Ytoocipdhplaboaa
open Go.RowKit Go.Maps
open Nam Tre
theorem Tre.nod_ext {a b : Nod} (h1 : a.names = b.names) (h2 : alike a b = true) (h3 : a.ino = b.ino) : a = b := by
 obtain ⟨a1, ⟨a2, a3, a4⟩, a5, a6, a7, a8⟩ := (alike_iff a b).1 h2
 cases a
 cases b
 simp only [] at h1 h3 a1 a2 a3 a4 a5 a6 a7 a8
 subst h1 h3 a1 a2 a3 a4 a5 a6 a7 a8
 rfl
theorem Tre.nds_at {A : List (Nv × Nod)} {i : Nat} (h : i < A.length) : (nds A)[i]'(by rw [nds_length]; exact h) = (gl A i).2 := by rw [gl_lt A i h]; simp [nds]
theorem Tre.nds_no {A B : List (Nv × Nod)} {i : Nat} (ha : i < A.length) (hb : i < B.length) (h : (gl A i).2 ≠ (gl B i).2) : ¬ nds A = nds B := by
 intro e
 apply h
 rw [← nds_at ha, ← nds_at hb]
 simp only [e]
set_option maxRecDepth 100000 in
set_option maxHeartbeats 2000000 in
theorem refSame7_any (a b : Option Addr) (n c m d : Nat) (A B : List (Nv × Nod)) (w : World) (ha : Ns w a n A) (hb : Ns w b m B) (h20 : ∀ p ∈ A, p.2.names.length ≤ 1000000) (h21 : ∀ p ∈ B, p.2.names.length ≤ 1000000) (hn40 : n ≤ 1000000) (q : Bool) (hq : q = true ↔ nds A = nds B) :
    Calls Try.prog 13 #[.slice a n c, .slice b m d] w fun e w' => e = .returned (.bool q) ∧ Below w.heap.size w w' := by
  by_cases hnm : n = m
  · subst hnm
    have HA := hide ha
    have HB := hide hb
    have H20 := hide h20
    have H21 := hide h21
    have HQ := hide hq
    clear ha hb h20 h21 hq
    go_enter Try.func13, Try.ntmps13
    go_wp2
    go_loopw [5, 6, 7] (fun r _ _ wr => ∃ i : Nat, r = .int .i64 i ∧ i ≤ n ∧ (nds A).take i = (nds B).take i ∧ Below w.heap.size w wr) (fun r _ _ _ => n - (intOf r).toNat)
    case atStart => exact ⟨0, rfl, Nat.zero_le _, rfl, Below.refl _ _⟩
    case round =>
      obtain ⟨i, rfl, hi0, htk, hbel⟩ := hrel
      have HBL := hide hbel
      have HTK := hide htk
      clear htk
      by_cases hi : i < n
      · have hd : decide ((i : Int) < n) = true := by simpa using hi
        obtain ⟨ba, oa, rfl, hba, hca⟩ := (HA.out.below hbel).at (by omega)
        obtain ⟨bb, ob, rfl, hbb, hcb⟩ := (HB.out.below hbel).at (by omega)
        have hra := (HA.out.below hbel).rep i hi
        have hrb := (HB.out.below hbel).rep i hi
        have hla : i < A.length := by rw [HA.out.1]; exact hi
        have hlb : i < B.length := by rw [HB.out.1]; exact hi
        have hnn : (gl A i).1.nn ≤ 1000000 := by rw [← hra.names.1]; exact H20.out _ (gl_mem A i hla)
        have hmm : (gl B i).1.nn ≤ 1000000 := by rw [← hrb.names.1]; exact H21.out _ (gl_mem B i hlb)
        obtain ⟨b1, hb1⟩ : ∃ b1, decide ((gl A i).2.names = (gl B i).2.names) = b1 := ⟨_, rfl⟩
        obtain ⟨b2, hb2⟩ : ∃ b2, alike (gl A i).2 (gl B i).2 = b2 := ⟨_, rfl⟩
        obtain ⟨b3, hino⟩ : ∃ b3, ((gl A i).1.ino != (gl B i).1.ino) = b3 := ⟨_, rfl⟩
        have HK1 : Hid (∀ q, Calls Try.prog 25 #[.slice (gl A i).1.na (gl A i).1.nn (gl A i).1.nc, .slice (gl B i).1.na (gl B i).1.nn (gl B i).1.nc] (wr.drewN q) fun e w' => e = .returned (.bool b1) ∧ Below wr.heap.size wr w') := fun q => by
          have := refSame_one (gl A i).1.na (gl B i).1.na (gl A i).1.nn (gl A i).1.nc (gl B i).1.nn (gl B i).1.nc _ _ (wr.drewN q) (hra.names.drewN q) (hrb.names.drewN q) hnn
          rw [hb1] at this
          refine this.mono ?_
          rintro e w' ⟨rfl, q', rfl⟩
          exact ⟨rfl, (drewN_below wr q).trans (drewN_below _ q')⟩
        have HK2 : Hid (∀ wX, Below wr.heap.size wr wX → Calls Try.prog 26 #[.agg (gl A i).1.cells, .agg (gl B i).1.cells] wX fun e w' => e = .returned (.bool b2) ∧ Below wr.heap.size wr w') := fun wX hX => by
          have := refAlike_any (gl A i).1 (gl B i).1 _ _ wX (hra.below hX) (hrb.below hX)
          rw [hb2] at this
          refine this.mono ?_
          rintro e w' ⟨rfl, hb⟩
          exact ⟨rfl, hX.trans (hb.mono hX.size)⟩
        have HYes : Hid (b1 = true → b2 = true → b3 = false → (nds A).take (i + 1) = (nds B).take (i + 1)) := fun e1 e2 e3 => by
          have e : (gl A i).2 = (gl B i).2 := by
            refine nod_ext ?_ (by rw [hb2]; exact e2) ?_
            · rw [e1] at hb1; simpa using hb1
            · rw [e3] at hino
              rw [hra.ino, hrb.ino]
              simpa using hino
          rw [List.take_succ_eq_append_getElem (by rw [nds_length]; exact hla), List.take_succ_eq_append_getElem (by rw [nds_length]; exact hlb), nds_at hla, nds_at hlb, e, HTK.out]
        have HNo : Hid ((b1 = false ∨ b2 = false ∨ b3 = true) → q = false) := fun h => by
          have hno : ¬ nds A = nds B := by
           refine nds_no hla hlb fun e => ?_
           rcases h with h | h | h
           · rw [e] at hb1; rw [h] at hb1; simp at hb1
           · rw [e, alike_refl, h] at hb2; cases hb2
           · have e4 : (gl A i).1.ino = (gl B i).1.ino := by rw [← hra.ino, ← hrb.ino, e]
             rw [e4, h] at hino
             simp at hino
          cases hqq : q with
          | false => rfl
          | true => exact absurd (HQ.out.1 hqq) hno
        simp only [Nv.cells] at HK2
        have HNA := hide (hca i hi)
        have HNB := hide (hcb i hi)
        have HS := hide (And.intro (hca i hi).c0 (hcb i hi).c0)
        have hi1 : (i : Int) < n := by omega
        have DR : Hid (∀ q wX, Below wr.heap.size wr wX → Below wr.heap.size wr (wX.drewN q)) := fun q wX h => h.trans ((drewN_below (B := wX.heap.size) wX q).mono h.size)
        clear hca hcb hra hrb hb1 hb2 hbel hnn hmm
        generalize (gl A i).1 = v at *
        generalize (gl B i).1 = u at *
        go_wp2
        go_region_held3 (fun wX => wX.cell? ⟨ba, oa + i * 10, none⟩ = some (.slice v.na v.nn v.nc) ∧ wX.cell? ⟨bb, ob + i * 10, none⟩ = some (.slice u.na u.nn u.nc)) (first | exact HS5.out | exact HS.out)
          ((first
            | (go_at_call 25; refine (HK1.out _).mono ?_; rintro r w5 ⟨rfl, hb5⟩; have HB5 := hide hb5; have HS5 := hide (And.intro (HNA.out.below hb5 hba).c0 (HNB.out.below hb5 hbb).c0); clear hb5)))
        have HS6 := hide (two_rows (HNA.out.below HB5.out hba) (HNB.out.below HB5.out hbb))
        clear HS HS5 HK1
        go_wp2
        go_region_held3 (fun wX => wX.cell? ⟨ba, oa + i * 10, none⟩ = some (.slice v.na v.nn v.nc) ∧ wX.cell? ⟨ba, oa + i * 10 + 1, none⟩ = some (.int .i64 v.ino) ∧ wX.cell? ⟨ba, oa + i * 10 + 2, none⟩ = some (.int .i64 v.kind) ∧ wX.cell? ⟨ba, oa + i * 10 + 3, none⟩ = some (.int .i64 v.mode) ∧ wX.cell? ⟨ba, oa + i * 10 + 4, none⟩ = some (.int .i64 v.uid) ∧ wX.cell? ⟨ba, oa + i * 10 + 5, none⟩ = some (.int .i64 v.gid) ∧ wX.cell? ⟨ba, oa + i * 10 + 6, none⟩ = some (.slice v.da v.dn v.dc) ∧ wX.cell? ⟨ba, oa + i * 10 + 7, none⟩ = some (.string v.tg) ∧ wX.cell? ⟨ba, oa + i * 10 + 8, none⟩ = some (.slice v.xa v.xn v.xc) ∧ wX.cell? ⟨ba, oa + i * 10 + 9, none⟩ = some (.bool v.op) ∧ wX.cell? ⟨bb, ob + i * 10, none⟩ = some (.slice u.na u.nn u.nc) ∧ wX.cell? ⟨bb, ob + i * 10 + 1, none⟩ = some (.int .i64 u.ino) ∧ wX.cell? ⟨bb, ob + i * 10 + 2, none⟩ = some (.int .i64 u.kind) ∧ wX.cell? ⟨bb, ob + i * 10 + 3, none⟩ = some (.int .i64 u.mode) ∧ wX.cell? ⟨bb, ob + i * 10 + 4, none⟩ = some (.int .i64 u.uid) ∧ wX.cell? ⟨bb, ob + i * 10 + 5, none⟩ = some (.int .i64 u.gid) ∧ wX.cell? ⟨bb, ob + i * 10 + 6, none⟩ = some (.slice u.da u.dn u.dc) ∧ wX.cell? ⟨bb, ob + i * 10 + 7, none⟩ = some (.string u.tg) ∧ wX.cell? ⟨bb, ob + i * 10 + 8, none⟩ = some (.slice u.xa u.xn u.xc) ∧ wX.cell? ⟨bb, ob + i * 10 + 9, none⟩ = some (.bool u.op)) (first | exact HS7.out | exact HS6.out)
          ((first
            | (go_at_call 26; refine (HK2.out w5.drew (DR.out 1 w5 HB5.out)).mono ?_; rintro r w7 ⟨rfl, hb7⟩; have HB7 := hide hb7; have HS7 := hide (two_rows (HNA.out.below hb7 hba) (HNB.out.below hb7 hbb)); clear hb7)))
        have d1 := (HNA.out.below HB7.out hba).c1
        have d2 := (HNB.out.below HB7.out hbb).c1
        have HEnd : Hid (∀ q, Below w.heap.size w (w7.drewN q)) := fun q => HBL.out.trans ((DR.out q _ HB7.out).mono HBL.out.size)
        clear HS6 HS7 HK2
        rcases b1 with _ | _
        · go_wp2
          go_quiet (fail)
          go_wp2
          go_ret
          rw [HNo.out (.inl (by first | rfl | trivial))]
          exact ⟨rfl, HEnd.out _⟩
        · rcases b2 with _ | _
          · go_wp2
            go_quiet (fail)
            go_wp2
            go_ret
            rw [HNo.out (by first | exact .inl trivial | exact .inr (.inl rfl) | simp)]
            exact ⟨rfl, HEnd.out _⟩
          · rcases b3 with _ | _
            · go_wp2
              go_quiet (fail)
              go_wp2
              exact ⟨⟨i + 1, by go_num, by omega, by first | exact HYes.out trivial trivial trivial | exact HYes.out | simpa using HYes.out, HEnd.out _⟩, by simp [intOf]; omega⟩
            · go_wp2
              go_quiet (fail)
              go_wp2
              go_ret
              rw [HNo.out (by first | trivial | exact .inr (.inr rfl) | simp)]
              exact ⟨rfl, HEnd.out _⟩
      · have hd : decide ((i : Int) < n) = false := by simpa using hi
        have he : q = true := by
          have h := HTK.out
          rw [List.take_of_length_le (by rw [nds_length, HA.out.1]; omega), List.take_of_length_le (by rw [nds_length, HB.out.1]; omega)] at h
          exact HQ.out.2 h
        have HE := hide he
        clear he
        go_wp2
        go_ret
        rw [HE.out]
        exact ⟨rfl, HBL.out⟩
  · have hne : q = false := by
      cases hqq : q with
      | false => rfl
      | true =>
        have := congrArg List.length (hq.1 hqq)
        rw [nds_length, nds_length, ha.1, hb.1] at this
        exact absurd this hnm
    have hnm' : ((n : Int) != m) = true := by simp; omega
    rw [hne]
    clear hne ha hb h20 h21 hq
    go_enter Try.func13, Try.ntmps13
    go_wp2
    go_ret
    exact ⟨rfl, Below.refl _ _⟩
end Go.Proofs.Ytoocipdhplaboaa

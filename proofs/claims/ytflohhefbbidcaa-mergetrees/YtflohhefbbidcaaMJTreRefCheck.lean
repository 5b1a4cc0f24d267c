import Derived.Test.YtflohhefbbidcaaMJTreCopied
import Derived.Test.YtflohhefbbidcaaMJTreMay
set_option linter.unusedVariables false
namespace Go.Proofs.Ytflohhefbbidcaa
open Go.RowKit Go.Maps
open Nam Tre
namespace Tre
def plc (l : List Nod) : Int := if 1024 < l.length then 3 else if nam l ≠ 0 then nam l else if isDir l [] = false then 4 else if l.all (inDir l) = false then 5 else 0
end Tre
set_option maxRecDepth 100000 in
set_option maxHeartbeats 1000000 in
theorem Placed_any (a : Option Addr) (n c : Nat) (L : List (Nv × Nod)) (w : World) (hl : Ns w a n L) (hc : n ≤ c) (hcm : c ≤ 9223372036854775807) (h20 : ∀ p ∈ L, p.2.names.length ≤ 1000000) :
  Calls Try.prog 39 #[.slice a n c] w fun e w' => e = .returned (.int .i64 (plc (nds L))) ∧ ∃ q, w' = w.drewN q := by
 have HL := hide hl
 have HLN := hide hl.1
 have H20 := hide h20
 by_cases h1 : (1024 : Int) < n
 ·have HP : Hid (plc (nds L) = 3) := by show _ = _; rw [plc, if_pos (by rw [nds_length, hl.1]; omega)]
  clear hl h20
  go_enter Try.func39, Try.ntmps39
  go_wp2
  go_ret
  exact ⟨ret_int HP.out.symm, 0, rfl⟩
 have g1 : ¬ 1024 < (nds L).length := by rw [nds_length, hl.1]; omega
 have HNm := hide (named_any a n c L w hl hc hcm h20)
 obtain ⟨z, hz⟩ : ∃ z, nam (nds L) = z := ⟨_, rfl⟩
 rw [hz] at HNm
 by_cases hz0 : z = 0
 ·have hz1 : (z != 0) = false := by simp [hz0]
  have HZ : Hid (nam (nds L) = 0) := hz.trans hz0
  have HD := hide (fun q => refIsDir_any a n c L none 0 0 [] (w.drewN q) (hl.below (drewN_below w q)) hc hcm (Rs.nil _ _) h20)
  have HDK := hide (fun q b m d k (hk : Rs w b m k) => refIsDir_any a n c L b m d k (w.drewN q) (hl.below (drewN_below w q)) hc hcm (hk.drewN q) h20)
  obtain ⟨r, hr⟩ : ∃ r, isDir (nds L) [] = r := ⟨_, rfl⟩
  rw [hr] at HD
  cases r with
  | false =>
   have HP : Hid (plc (nds L) = 4) := by show _ = _; rw [plc, if_neg g1, if_neg (by rw [HZ.out]; simp), if_pos hr]
   clear hl h20 hz0 hz hr
   go_enter Try.func39, Try.ntmps39
   go_wp2_with (first | (go_at_call 55; refine HNm.out.mono ?_; rintro e w1 ⟨rfl, q1, rfl⟩) | (go_at_call 56; refine (HD.out _).mono ?_; rintro e w1 ⟨rfl, q2, rfl⟩))
   go_ret
   exact ⟨ret_int HP.out.symm, _, rfl⟩
  | true =>
   have HP : Hid (plc (nds L) = if (nds L).all (inDir (nds L)) = false then 5 else 0) := by show _ = _; rw [plc, if_neg g1, if_neg (by rw [HZ.out]; simp), if_neg (by rw [hr]; simp)]
   clear hl h20 hz0 hz hr
   go_enter Try.func39, Try.ntmps39
   go_wp2_with (first | (go_at_call 55; refine HNm.out.mono ?_; rintro e w1 ⟨rfl, q1, rfl⟩) | (go_at_call 56; refine (HD.out _).mono ?_; rintro e w1 ⟨rfl, q2, rfl⟩))
   go_loopw [5, 6] (fun r _ wr => ∃ i q : Nat, wr = w.drewN q ∧ r = .int .i64 i ∧ i ≤ n ∧ (nds L).all (inDir (nds L)) = ((nds L).drop i).all (inDir (nds L))) (fun r _ _ => n - (intOf r).toNat)
   case atStart => exact ⟨0, _, rfl, rfl, Nat.zero_le _, rfl⟩
   case round =>
    obtain ⟨i, q, rfl, rfl, hi0, hinv⟩ := hrel
    have HI := hide hinv
    by_cases hi : i < n
    ·have hd : decide ((i : Int) < n) = true := by simpa using hi
     obtain ⟨ba, oa, rfl, hba, hca⟩ := HL.out.at (by omega)
     have HE := hide (nds_drop L i (by rw [HLN.out]; exact hi))
     have hr := HL.out.rep i hi
     obtain ⟨na, nn, nc, c0, hN, n1, n2⟩ : ∃ na nn nc, w.cell? ⟨ba, oa + i * 10, none⟩ = some (.slice na nn nc) ∧ Rs w na nn (gl L i).2.names ∧ nn ≤ nc ∧ nc ≤ 9223372036854775807 := ⟨_, _, _, (hca i hi).c0, hr.names, hr.nc, hr.ncm⟩
     have hi' : (i : Int) < n := by omega
     have h2m := H20.out (gl L i) (gl_mem L i (by rw [HLN.out]; exact hi))
     rw [hN.1] at h2m
     cases nn with
     | zero =>
      have HQ : Hid ((nds L).all (inDir (nds L)) = ((nds L).drop (i + 1)).all (inDir (nds L))) := by
       show _ = _
       rw [HI.out, HE.out, List.all_cons, inDir, hN.1]; rfl
      clear hca hinv hr hN
      go_wp2
      exact ⟨⟨i + 1, q, rfl, by go_num, by omega, HQ.out⟩, by simp [intOf]; omega⟩
     | succ k =>
      have HC := hide (HDK.out q na k nc ((gl L i).2.names.take k) (hN.take k (by omega)))
      have hin : inDir (nds L) (gl L i).2 = isDir (nds L) ((gl L i).2.names.take k) := by
       rw [inDir, hN.1, decide_eq_false (by omega), Bool.false_or, List.dropLast_eq_take, hN.1, Nat.add_sub_cancel]
      have HIN := hide hin
      obtain ⟨z, hz⟩ : ∃ z, isDir (nds L) ((gl L i).2.names.take k) = z := ⟨_, rfl⟩
      have HZ2 := hide hz
      rw [hz] at HC
      have k0 : (0 : Int) ≤ k := by omega
      have k1 : (k : Int) ≤ nc := by omega
      have kk : decide ((0 : Int) < (k : Int) + 1) = true := by rw [decide_eq_true_eq]; omega
      clear hca hinv hr hN hz hin
      cases z with
      | false =>
       have HQ : Hid ((nds L).all (inDir (nds L)) = false) := by
        show _ = _
        rw [HI.out, HE.out, List.all_cons, HIN.out, HZ2.out]; rfl
       go_wp2_with (go_at_call 56; refine HC.out.mono ?_; rintro e w1 ⟨rfl, q3, rfl⟩)
       go_ret
       exact ⟨ret_int (by rw [HP.out, if_pos HQ.out]), _, rfl⟩
      | true =>
       have HQ : Hid ((nds L).all (inDir (nds L)) = ((nds L).drop (i + 1)).all (inDir (nds L))) := by
        show _ = _
        rw [HI.out, HE.out, List.all_cons, HIN.out, HZ2.out]; rfl
       go_wp2_with (go_at_call 56; refine HC.out.mono ?_; rintro e w1 ⟨rfl, q3, rfl⟩)
       exact ⟨⟨i + 1, q + q3, by simp, by go_num, by omega, HQ.out⟩, by simp [intOf]; omega⟩
    ·have hd : decide ((i : Int) < n) = false := by simpa using hi
     have HQ : Hid ((nds L).all (inDir (nds L)) = true) := by
      show _ = _
      rw [HI.out, List.drop_eq_nil_of_le (by rw [nds_length, HLN.out]; omega)]; rfl
     clear hinv
     go_wp2
     go_ret
     exact ⟨ret_int (by rw [HP.out, if_neg (by rw [HQ.out]; simp)]), q, rfl⟩
 ·have hz1 : (z != 0) = true := by simpa using hz0
  have HP : Hid (plc (nds L) = z) := by show _ = _; rw [plc, if_neg g1, if_pos (by rw [hz]; exact hz0), hz]
  clear hl h20 hz0 hz
  go_enter Try.func39, Try.ntmps39
  go_wp2_with (go_at_call 55; refine HNm.out.mono ?_; rintro e w1 ⟨rfl, q1, rfl⟩)
  go_ret
  exact ⟨ret_int HP.out.symm, q1, rfl⟩
theorem drop_get (L : List (Nv × Nod)) (i : Nat) (h : i < L.length) : nds L = (nds L).take i ++ (gl L i).2 :: (nds L).drop (i + 1) := by
 conv => lhs; rw [← List.take_append_drop i (nds L), nds_drop L i h]
theorem mem_take (L : List (Nv × Nod)) (i k : Nat) (h : i ≤ L.length) (hk : k < i) : (gl L k).2 ∈ (nds L).take i := by
 rw [List.mem_take_iff_getElem]
 refine ⟨k, by rw [nds_length]; omega, ?_⟩
 rw [gl_lt L k (by omega)]; simp [nds]
theorem two_nods {w : World} {b o1 o2 : Nat} {v u : Nv} (h0 : NodAt w b o1 v) (h1 : NodAt w b o2 u) : w.cell? ⟨b, o1, none⟩ = some (.slice v.na v.nn v.nc) ∧ w.cell? ⟨b, o1 + 1, none⟩ = some (.int .i64 v.ino) ∧ w.cell? ⟨b, o1 + 2, none⟩ = some (.int .i64 v.kind) ∧ w.cell? ⟨b, o1 + 3, none⟩ = some (.int .i64 v.mode) ∧ w.cell? ⟨b, o1 + 4, none⟩ = some (.int .i64 v.uid) ∧ w.cell? ⟨b, o1 + 5, none⟩ = some (.int .i64 v.gid) ∧ w.cell? ⟨b, o1 + 6, none⟩ = some (.slice v.da v.dn v.dc) ∧ w.cell? ⟨b, o1 + 7, none⟩ = some (.string v.tg) ∧ w.cell? ⟨b, o1 + 8, none⟩ = some (.slice v.xa v.xn v.xc) ∧ w.cell? ⟨b, o1 + 9, none⟩ = some (.bool v.op) ∧ w.cell? ⟨b, o2, none⟩ = some (.slice u.na u.nn u.nc) ∧ w.cell? ⟨b, o2 + 1, none⟩ = some (.int .i64 u.ino) ∧ w.cell? ⟨b, o2 + 2, none⟩ = some (.int .i64 u.kind) ∧ w.cell? ⟨b, o2 + 3, none⟩ = some (.int .i64 u.mode) ∧ w.cell? ⟨b, o2 + 4, none⟩ = some (.int .i64 u.uid) ∧ w.cell? ⟨b, o2 + 5, none⟩ = some (.int .i64 u.gid) ∧ w.cell? ⟨b, o2 + 6, none⟩ = some (.slice u.da u.dn u.dc) ∧ w.cell? ⟨b, o2 + 7, none⟩ = some (.string u.tg) ∧ w.cell? ⟨b, o2 + 8, none⟩ = some (.slice u.xa u.xn u.xc) ∧ w.cell? ⟨b, o2 + 9, none⟩ = some (.bool u.op) :=
 ⟨h0.c0, h0.c1, h0.c2, h0.c3, h0.c4, h0.c5, h0.c6, h0.c7, h0.c8, h0.c9, h1.c0, h1.c1, h1.c2, h1.c3, h1.c4, h1.c5, h1.c6, h1.c7, h1.c8, h1.c9⟩
end Go.Proofs.Ytflohhefbbidcaa
namespace Go.Proofs.Ytflohhefbbidcaa
open Go.RowKit Go.Maps
open Nam Tre
theorem two_rows {w : World} {b1 b2 o1 o2 : Nat} {v u : Nv} (h0 : NodAt w b1 o1 v) (h1 : NodAt w b2 o2 u) : w.cell? ⟨b1, o1, none⟩ = some (.slice v.na v.nn v.nc) ∧ w.cell? ⟨b1, o1 + 1, none⟩ = some (.int .i64 v.ino) ∧ w.cell? ⟨b1, o1 + 2, none⟩ = some (.int .i64 v.kind) ∧ w.cell? ⟨b1, o1 + 3, none⟩ = some (.int .i64 v.mode) ∧ w.cell? ⟨b1, o1 + 4, none⟩ = some (.int .i64 v.uid) ∧ w.cell? ⟨b1, o1 + 5, none⟩ = some (.int .i64 v.gid) ∧ w.cell? ⟨b1, o1 + 6, none⟩ = some (.slice v.da v.dn v.dc) ∧ w.cell? ⟨b1, o1 + 7, none⟩ = some (.string v.tg) ∧ w.cell? ⟨b1, o1 + 8, none⟩ = some (.slice v.xa v.xn v.xc) ∧ w.cell? ⟨b1, o1 + 9, none⟩ = some (.bool v.op) ∧ w.cell? ⟨b2, o2, none⟩ = some (.slice u.na u.nn u.nc) ∧ w.cell? ⟨b2, o2 + 1, none⟩ = some (.int .i64 u.ino) ∧ w.cell? ⟨b2, o2 + 2, none⟩ = some (.int .i64 u.kind) ∧ w.cell? ⟨b2, o2 + 3, none⟩ = some (.int .i64 u.mode) ∧ w.cell? ⟨b2, o2 + 4, none⟩ = some (.int .i64 u.uid) ∧ w.cell? ⟨b2, o2 + 5, none⟩ = some (.int .i64 u.gid) ∧ w.cell? ⟨b2, o2 + 6, none⟩ = some (.slice u.da u.dn u.dc) ∧ w.cell? ⟨b2, o2 + 7, none⟩ = some (.string u.tg) ∧ w.cell? ⟨b2, o2 + 8, none⟩ = some (.slice u.xa u.xn u.xc) ∧ w.cell? ⟨b2, o2 + 9, none⟩ = some (.bool u.op) :=
 ⟨h0.c0, h0.c1, h0.c2, h0.c3, h0.c4, h0.c5, h0.c6, h0.c7, h0.c8, h0.c9, h1.c0, h1.c1, h1.c2, h1.c3, h1.c4, h1.c5, h1.c6, h1.c7, h1.c8, h1.c9⟩
end Go.Proofs.Ytflohhefbbidcaa
namespace Go.Proofs.Ytflohhefbbidcaa
open Go.RowKit Go.Maps
open Nam Tre
def Srt (C : List (Nv × Nod)) : Prop := C.Pairwise (fun p q => ltn q.2 p.2 = false)
def insJ (C : List (Nv × Nod)) (x : Nv × Nod) (j : Nat) : List (Nv × Nod) := C.take j ++ [x] ++ C.drop j
theorem ltn_asymm {a b : Nod} (h : ltn a b = true) : ltn b a = false := by
 cases h2 : ltn b a with
 | false => rfl
 | true => have := less_trans _ _ _ h h2; rw [less_irrefl] at this; cases this
theorem insJ_srt {C : List (Nv × Nod)} {x : Nv × Nod} {j : Nat} (hs : Srt C) (hj : j ≤ C.length) (h1 : ∀ k, j ≤ k → k < C.length → ltn x.2 (gl C k).2 = true) (h2 : j = 0 ∨ ltn x.2 (gl C (j - 1)).2 = false) : Srt (insJ C x j) := by
 have hs' : (C.take j ++ C.drop j).Pairwise (fun p q => ltn q.2 p.2 = false) := by rw [List.take_append_drop]; exact hs
 obtain ⟨s1, s2, s3⟩ := List.pairwise_append.1 hs'
 have hx : ∀ p ∈ C.take j, ltn x.2 p.2 = false := by
  intro p hp
  rcases h2 with h0 | h2
  ·rw [h0] at hp; simp at hp
  ·obtain ⟨k, hk, rfl⟩ := List.mem_take_iff_getElem.1 hp
   have hk1 : k < j := by omega
   have hk2 : k < C.length := by omega
   rw [gl_lt C (j - 1) (by omega)] at h2
   by_cases e : k = j - 1
   ·subst e; exact h2
   ·exact less_ntrans _ _ _ h2 (List.pairwise_iff_getElem.1 hs k (j - 1) hk2 (by omega) (by omega))
 have hy : ∀ q ∈ C.drop j, ltn q.2 x.2 = false := by
  intro q hq
  obtain ⟨k, hk, rfl⟩ := List.mem_drop_iff_getElem.1 hq
  have := h1 (j + k) (by omega) (by omega)
  rw [gl_lt C (j + k) (by omega)] at this
  exact ltn_asymm this
 unfold Srt insJ
 rw [List.append_assoc, List.pairwise_append]
 refine ⟨s1, List.pairwise_cons.2 ⟨hy, s2⟩, fun p hp q hq => ?_⟩
 rcases List.mem_cons.1 hq with rfl | hq
 ·exact hx p hp
 ·exact s3 p hp q hq
theorem insJ_perm {C L : List (Nv × Nod)} {i j : Nat} (hp : C.Perm (L.take i)) (hi : i < L.length) : (insJ C (gl L i) j).Perm (L.take (i + 1)) := by
 rw [List.take_succ_eq_append_getElem hi, ← gl_lt L i hi]
 refine List.Perm.trans ?_ (hp.append_right _)
 unfold insJ
 have e : C ++ [gl L i] = C.take j ++ (C.drop j ++ [gl L i]) := by rw [← List.append_assoc, List.take_append_drop]
 rw [e, List.append_assoc]
 exact List.Perm.append_left _ List.perm_append_comm
end Go.Proofs.Ytflohhefbbidcaa
namespace Go.Proofs.Ytflohhefbbidcaa
open Go.RowKit Go.Maps
open Nam Tre
def nbl (L : List (Nv × Nod)) (i : Nat) : List (Nv × Nod) := (rl (ikeys (nds L)) L i).take i
theorem nbl_length (L : List (Nv × Nod)) (i : Nat) (h : i ≤ L.length) : (nbl L i).length = i := by rw [nbl, List.length_take, rl_length]; omega
theorem nbl_get (L : List (Nv × Nod)) (i k : Nat) (h : i ≤ L.length) (hk : k < i) : gl (nbl L i) k = rn (gl L k) (nno (ikeys (nds L)) k) := by
 rw [gl_lt _ _ (by rw [nbl_length L i h]; exact hk)]
 have := rl_get (ikeys (nds L)) L i h k
 rw [if_pos hk, gl_lt _ _ (by rw [rl_length]; omega)] at this
 simp only [nbl, List.getElem_take]
 exact this
theorem nbl_succ (L : List (Nv × Nod)) (i : Nat) (h : i < L.length) : nbl L (i + 1) = nbl L i ++ [rn (gl L i) (nno (ikeys (nds L)) i)] := by
 apply List.ext_getElem
 ·rw [nbl_length L (i + 1) h, List.length_append, nbl_length L i (by omega)]; rfl
 ·intro k h1 h2
  rw [nbl_length L (i + 1) h] at h1
  have e1 := nbl_get L (i + 1) k h h1
  rw [gl_lt _ _ (by rw [nbl_length L (i + 1) h]; exact h1)] at e1
  rw [e1]
  by_cases hk : k < i
  ·rw [List.getElem_append_left (by rw [nbl_length L i (by omega)]; exact hk)]
   have e2 := nbl_get L i k (by omega) hk
   rw [gl_lt _ _ (by rw [nbl_length L i (by omega)]; exact hk)] at e2
   exact e2.symm
  ·obtain rfl : k = i := by omega
   rw [List.getElem_append_right (by rw [nbl_length L k (by omega)]; omega)]
   simp [nbl_length L k (by omega)]
theorem nbl_end (L : List (Nv × Nod)) : nds (nbl L L.length) = numb (nds L) := by
 rw [← rl_end]
 congr 1
 exact List.take_of_length_le (by rw [rl_length]; omega)
theorem key_eq (L : List (Nv × Nod)) (i k : Nat) (hi : i < L.length) (hk : k < L.length) : ((ikeys (nds L))[k]'(by rw [ikeys_length, nds_length]; exact hk) = (ikeys (nds L))[i]'(by rw [ikeys_length, nds_length]; exact hi)) ↔ (gl L k).2.ino = (gl L i).2.ino := by
 have e : ∀ j (hj : j < L.length), (ikeys (nds L))[j]'(by rw [ikeys_length, nds_length]; exact hj) = .int .i64 (gl L j).2.ino := fun j hj => by
  have := ikeys_at L j hj
  rw [← this]; simp [ikeys_length, nds_length, hj]
 rw [e k hk, e i hi]
 simp
def seen (L : List (Nv × Nod)) (i : Nat) : Nat → Bool
 | 0 => false
 | k + 1 => seen L i k || decide ((gl L k).2.ino = (gl L i).2.ino)
theorem seen_iff (L : List (Nv × Nod)) (i : Nat) : ∀ k, seen L i k = true ↔ ∃ j, j < k ∧ (gl L j).2.ino = (gl L i).2.ino
 | 0 => by simp [seen]
 | k + 1 => by
  rw [seen, Bool.or_eq_true, seen_iff L i k, decide_eq_true_eq]
  constructor
  ·rintro (⟨j, h1, h2⟩ | h)
   ·exact ⟨j, by omega, h2⟩
   ·exact ⟨k, by omega, h⟩
  ·rintro ⟨j, h1, h2⟩
   by_cases e : j = k
   ·exact .inr (by rw [← e]; exact h2)
   ·exact .inl ⟨j, by omega, h2⟩
theorem seen_mem (L : List (Nv × Nod)) (i : Nat) (hi : i < L.length) : seen L i i = true ↔ (ikeys (nds L))[i]'(by rw [ikeys_length, nds_length]; exact hi) ∈ (ikeys (nds L)).take i := by
 rw [seen_iff, List.mem_take_iff_getElem]
 constructor
 ·rintro ⟨j, h1, h2⟩
  exact ⟨j, by rw [ikeys_length, nds_length]; omega, (key_eq L i j hi (by omega)).2 h2⟩
 ·rintro ⟨j, h1, h2⟩
  exact ⟨j, by omega, (key_eq L i j hi (by rw [ikeys_length, nds_length] at h1; omega)).1 h2⟩
def zn (L : List (Nv × Nod)) (i k : Nat) : Nat := if seen L i k = true then nno (ikeys (nds L)) i else 0
theorem zn_hit (L : List (Nv × Nod)) (i k : Nat) (hi : i < L.length) (hk : k < i) (h : (gl L k).2.ino = (gl L i).2.ino) : zn L i (k + 1) = nno (ikeys (nds L)) k := by
 have hs : seen L i (k + 1) = true := by rw [seen, h]; simp
 rw [zn, if_pos hs]
 exact nno_old (ikeys_lit _) (by rw [ikeys_length, nds_length]; exact hi) hk ((key_eq L i k hi (by omega)).2 h)
theorem zn_miss (L : List (Nv × Nod)) (i k : Nat) (h : ¬ (gl L k).2.ino = (gl L i).2.ino) : zn L i (k + 1) = zn L i k := by
 unfold zn
 rw [seen, decide_eq_false h, Bool.or_false]
theorem zn_old (L : List (Nv × Nod)) (i : Nat) (hi : i < L.length) (h : seen L i i = true) : zn L i i = nno (ikeys (nds L)) i ∧ 0 < nno (ikeys (nds L)) i ∧ (nst (ikeys (nds L)) (i + 1)).1 = (nst (ikeys (nds L)) i).1 := by
 have hl : i < (ikeys (nds L)).length := by rw [ikeys_length, nds_length]; exact hi
 refine ⟨by rw [zn, if_pos h], (nno_range (ikeys_lit _) hl).1, nst_same (ikeys_lit _) hl ((seen_mem L i hi).1 h)⟩
theorem zn_new (L : List (Nv × Nod)) (i : Nat) (hi : i < L.length) (h : ¬ seen L i i = true) : zn L i i = 0 ∧ nno (ikeys (nds L)) i = (nst (ikeys (nds L)) i).1 + 1 ∧ (nst (ikeys (nds L)) (i + 1)).1 = (nst (ikeys (nds L)) i).1 + 1 := by
 have hl : i < (ikeys (nds L)).length := by rw [ikeys_length, nds_length]; exact hi
 have := nno_new (ikeys_lit (nds L)) hl (fun q => h ((seen_mem L i hi).2 q))
 exact ⟨by rw [zn, if_neg h], this.1, this.2⟩
theorem Bk.set1 {w : World} {p : Nat} {v : Nv} (h : Bk w p v) (z : Int) : Bk (w.setCell ⟨p, 1, none⟩ (.int .i64 z)) p { v with ino := z } := setCell_heap w p 1 _ _ _ _ h
theorem Bk.below {w w' : World} {p : Nat} {v : Nv} (h : Bk w p v) (hb : Below w.heap.size w w') : Bk w' p v := h.block (hb.block p (heap_lt h))
structure NR (w wr : World) (L : List (Nv × Nod)) (ao : Option Addr) (c' i : Nat) : Prop where
 row : wr.ownsRow w.heap.size 44 10 (.slice ao i c') i (nvs ((nbl L i).map (fun p => p.1)))
 bel : Below w.heap.size w wr
 som : w.heap.size < wr.heap.size
set_option maxRecDepth 100000 in
set_option maxHeartbeats 1000000 in
theorem refNumbered_any (a : Option Addr) (n c : Nat) (L : List (Nv × Nod)) (w : World) (hl : Ns w a n L) (hc : n ≤ c) (hcm : c ≤ 9223372036854775807) (hn : n ≤ 100000) :
  Calls Try.prog 29 #[.slice a n c] w fun e w' => ∃ ao c', e = .returned (.slice ao n c') ∧ NR w w' L ao c' n := by
 have HL := hide hl
 have HLN := hide hl.1
 clear hl
 go_enter Try.func29, Try.ntmps29
 go_wp2
 go_loopw [3, 4, 5, 6, 7] (fun r3 r4 r5 _ _ wr => ∃ (i : Nat) (ao : Option Addr) (c' : Nat), r3 = .slice ao i c' ∧ r4 = .int .i64 (((nst (ikeys (nds L)) i).1 + 1 : Nat)) ∧ r5 = .int .i64 i ∧ i ≤ n ∧ NR w wr L ao c' i) (fun _ _ r5 _ _ _ => n - (intOf r5).toNat)
 case atStart => exact ⟨0, _, _, rfl, rfl, rfl, Nat.zero_le _, by simpa [nbl] using emptyN (Nat.le_refl _), (Below.refl _ _).alloc (Nat.le_refl _) _, by simp⟩
 case round =>
  obtain ⟨W, rfl⟩ : ∃ W, W = wr := ⟨wr, rfl⟩
  obtain ⟨i, ao, c', rfl, rfl, rfl, hi0, hnr⟩ := hrel
  have HNR := hide hnr
  by_cases hi : i < n
  ·have hd : decide ((i : Int) < n) = true := by simpa using hi
   have hla : i < L.length := by rw [HLN.out]; exact hi
   obtain ⟨ba, oa, rfl, hba, hca⟩ := (HL.out.below hnr.bel).at (by omega)
   have hra := (HL.out.below hnr.bel).rep i hi
   have HCA := hide hca
   have HNI := hide (fun k hk => ((HL.out.below hnr.bel).rep k hk).ino)
   obtain ⟨c0, c1, c2, c3, c4, c5, c6, c7, c8, c9⟩ := hca i hi
   have hcl := nst_le (ikeys (nds L)) i
   obtain ⟨nx, hnx⟩ : ∃ nx, (nst (ikeys (nds L)) i).1 + 1 = nx := ⟨_, rfl⟩
   have HNX := hide hnx
   have hnl : nx ≤ 100001 := by omega
   rw [hnx]
   have hi1 : (i : Int) < n := by omega
   obtain ⟨x, hx⟩ : ∃ x, x = (gl L i).1 := ⟨_, rfl⟩
   rw [← hx] at c0 c1 c2 c3 c4 c5 c6 c7 c8 c9
   have HX := hide hx
   have HB0 : Hid (Bk (W.alloc (.cells (Nv.cells { x with ino := ((zn L i 0 : Nat) : Int) }) 44)) W.heap.size { x with ino := ((zn L i 0 : Nat) : Int) }) := bk_new _ _
   have hz0 : zn L i 0 = 0 := by simp [zn, seen]
   rw [hz0] at HB0
   have HZ0 := hide hz0
   have HINO : Hid ((gl L i).2.ino = x.ino) := by rw [hx]; exact HNI.out i hi
   clear hnr hca hnx hra hcl hx hz0
   go_wp2
   go_loopw [7] (fun r7 ws => ∃ k : Nat, r7 = .int .i64 k ∧ k ≤ i ∧ Bk ws W.heap.size { x with ino := ((zn L i k : Nat) : Int) } ∧ Below W.heap.size W ws) (fun r7 _ => i - (intOf r7).toNat)
   case atStart => exact ⟨0, rfl, Nat.zero_le _, by rw [HZ0.out]; exact HB0.out, (Below.refl _ _).alloc (Nat.le_refl _) _⟩
   case round =>
    obtain ⟨k, rfl, hk0, hbk, hbw⟩ := hrel
    have HBK := hide hbk
    have HBW := hide hbw
    have e2 := ((HCA.out i hi).below hbw hba).c1
    rw [← HX.out] at e2
    clear c0 c1 c2 c3 c4 c5 c6 c7 c8 c9
    by_cases hk : k < i
    ·have hdk : decide ((k : Int) < i) = true := by simpa using hk
     have hk1 : (k : Int) < i := by omega
     have hkn : (k : Int) < n := by omega
     have e1 := ((HCA.out k (by omega)).below hbw hba).c1
     have hbx := hbk.box.c1
     have hfz := hbk.frozen 1
     by_cases he : (gl L k).1.ino = x.ino
     ·have heq : ((gl L k).1.ino == x.ino) = true := by simp [he]
      have HZ := hide (zn_hit L i k hla hk (by rw [HNI.out k (by omega), HINO.out]; exact he))
      obtain ⟨g, off', rfl, hg', hat⟩ := (sh_of_owns (owns_below HNR.out.row hbw)).at (by omega)
      have o1 := (hat k hk).c1
      rw [gv_map (nbl L i) k (by rw [nbl_length L i (by omega)]; exact hk), nbl_get L i k (by omega) hk] at o1
      simp only [rn] at o1
      have HST : Hid (∀ q, Bk ((wr.drewN q).setCell ⟨W.heap.size, 1, none⟩ (.int .i64 ((nno (ikeys (nds L)) k : Nat) : Int))) W.heap.size { x with ino := ((nno (ikeys (nds L)) k : Nat) : Int) }) := fun q => (show Bk (wr.drewN q) _ _ from hbk).set1 _
      have HBS : Hid (∀ q, Below W.heap.size W ((wr.drewN q).setCell ⟨W.heap.size, 1, none⟩ (.int .i64 ((nno (ikeys (nds L)) k : Nat) : Int)))) := fun q => (up_drewN hbw q).setCell (p := ⟨W.heap.size, 1, none⟩) (Nat.le_refl _) _
      clear hat hbk hbw
      generalize nno (ikeys (nds L)) k = zk at *
      generalize (gl L k).1.ino = ik at *
      go_wp2
      go_quiet (fail)
      go_wp2
      exact ⟨⟨k + 1, by go_num, by omega, by rw [HZ.out]; exact HST.out _, HBS.out _⟩, by simp [intOf]; omega⟩
     ·have heq : ((gl L k).1.ino == x.ino) = false := by simpa using he
      have HZ := hide (zn_miss L i k (by rw [HNI.out k (by omega), HINO.out]; exact he))
      have HST : Hid (∀ q, Bk (wr.drewN q) W.heap.size { x with ino := ((zn L i k : Nat) : Int) }) := fun q => hbk
      clear hbk hbw
      generalize (gl L k).1.ino = ik at *
      go_wp2
      go_quiet (fail)
      go_wp2
      exact ⟨⟨k + 1, by go_num, by omega, by rw [HZ.out]; exact HST.out _, up_drewN HBW.out _⟩, by simp [intOf]; omega⟩
    ·have hdk : decide ((k : Int) < i) = false := by simpa using hk
     obtain rfl : k = i := by omega
     have HRW : Hid (∀ w', Below W.heap.size W w' → w'.ownsRow w.heap.size 44 10 (.slice ao k c') k (nvs ((nbl L k).map (fun p => p.1)))) := fun w' h => owns_below HNR.out.row h
     have hrw := HRW.out wr hbw
     by_cases hs : seen L k k = true
     ·obtain ⟨z1, z2, z3⟩ := zn_old L k hla hs
      rw [z1] at hbk
      have HV : Hid (∀ v, v = ({ x with ino := ((nno (ikeys (nds L)) k : Nat) : Int) } : Nv) → (nbl L (k + 1)).map (fun p => p.1) = (nbl L k).map (fun p => p.1) ++ [v]) := fun v hv => by
       rw [hv, nbl_succ L k hla, HX.out]; simp [rn]
      have HN3 : Hid ((nst (ikeys (nds L)) (k + 1)).1 + 1 = nx) := by rw [z3]; exact HNX.out
      obtain ⟨v, hv⟩ : ∃ v, v = ({ x with ino := ((nno (ikeys (nds L)) k : Nat) : Int) } : Nv) := ⟨_, rfl⟩
      have hvi : (v.ino == 0) = false := by rw [hv]; simp; omega
      have HVV := hide (HV.out v hv)
      rw [← hv] at hbk
      obtain ⟨_, b0, b1, b2, b3, b4, b5, b6, b7, b8, b9⟩ := hbk.box
      have hsz := HNR.out.som
      have hsw := hbw.size
      clear hbk hbw hv HV z1 z2 z3 hrw
      go_wp2_with (at_builtin; refine wpList_append_nod _ rfl _ _ rfl w.heap.size _ _ _ ((nbl L k).map (fun p => p.1)) rfl ((HRW.out _ HBW.out).alloc _) _ _ _ [v] rfl (sh_one' (by simp)) (fun h => by cases h) (by omega) (by simp; omega) ?_)
      intro ao2 k2 w2 hown2 hg2
      have hs2 := hg2.size
      simp only [World.size_alloc] at hs2
      rw [← HVV.out] at hown2
      have HF : Hid (NR w w2 L ao2 k2 (k + 1)) := ⟨hown2, ((HNR.out.bel.trans (HBW.out.mono HNR.out.bel.size)).alloc (by omega) _).grown hg2 (by simp; omega) (fun j e => ((HRW.out _ HBW.out).lt j e).1), by omega⟩
      clear hown2 hg2 HVV b0 b1 b2 b3 b4 b5 b6 b7 b8 b9
      go_wp2
      exact ⟨⟨k + 1, ao2, k2, rfl, by rw [HN3.out], by go_num, by omega, HF.out⟩, by simp [intOf]; omega⟩
     ·obtain ⟨z1, z2, z3⟩ := zn_new L k hla hs
      have hfz := hbk.frozen 1
      have hb1 : wr.cell? ⟨W.heap.size, 1, none⟩ = some (.int .i64 0) := by have := hbk.box.c1; rw [z1] at this; exact this
      obtain ⟨W2, hW2⟩ : ∃ W2, W2 = wr.setCell ⟨W.heap.size, 1, none⟩ (.int .i64 (nx : Int)) := ⟨_, rfl⟩
      have hbk2 := hbk.set1 (nx : Int)
      have hbw2 : Below W.heap.size W W2 := by rw [hW2]; exact hbw.setCell (p := ⟨W.heap.size, 1, none⟩) (Nat.le_refl _) _
      rw [← hW2] at hbk2
      have HV : Hid (∀ v, v = ({ x with ino := (nx : Int) } : Nv) → (nbl L (k + 1)).map (fun p => p.1) = (nbl L k).map (fun p => p.1) ++ [v]) := fun v hv => by
       rw [hv, nbl_succ L k hla, HX.out, ← HNX.out, ← z2]; simp [rn]
      have HN3 : Hid ((nst (ikeys (nds L)) (k + 1)).1 + 1 = nx + 1) := by rw [z3, HNX.out]; rfl
      obtain ⟨v, hv⟩ : ∃ v, v = ({ x with ino := (nx : Int) } : Nv) := ⟨_, rfl⟩
      have HVV := hide (HV.out v hv)
      have hbk3 : Bk W2 W.heap.size v := by rw [hv]; exact hbk2
      obtain ⟨_, b0, b1, b2, b3, b4, b5, b6, b7, b8, b9⟩ := hbk3.box
      have hsz := HNR.out.som
      have hsw := hbw2.size
      have HBW2 := hide hbw2
      have hW2' := hW2.symm
      clear hbk hbw hv HV z1 z2 z3 hrw hbk2 hbw2 hbk3 hW2
      go_wp2_with (at_builtin; refine wpList_append_nod _ rfl _ _ rfl w.heap.size _ _ _ ((nbl L k).map (fun p => p.1)) rfl ((HRW.out _ HBW2.out).alloc _) _ _ _ [v] rfl (sh_one' (by simp)) (fun h => by cases h) (by omega) (by simp; omega) ?_)
      intro ao2 k2 w2 hown2 hg2
      have hs2 := hg2.size
      simp only [World.size_alloc] at hs2
      rw [← HVV.out] at hown2
      have HF : Hid (NR w w2 L ao2 k2 (k + 1)) := ⟨hown2, ((HNR.out.bel.trans (HBW2.out.mono HNR.out.bel.size)).alloc (by omega) _).grown hg2 (by simp; omega) (fun j e => ((HRW.out _ HBW2.out).lt j e).1), by omega⟩
      clear hown2 hg2 HVV b0 b1 b2 b3 b4 b5 b6 b7 b8 b9 hW2'
      go_wp2
      exact ⟨⟨k + 1, ao2, k2, rfl, by rw [HN3.out]; go_num, by go_num, by omega, HF.out⟩, by simp [intOf]; omega⟩
  ·have hd : decide ((i : Int) < n) = false := by simpa using hi
   obtain rfl : i = n := by omega
   clear hnr
   go_wp2
   go_ret
   exact ⟨ao, c', rfl, HNR.out⟩
end Go.Proofs.Ytflohhefbbidcaa
namespace Go.Proofs.Ytflohhefbbidcaa
open Go.RowKit Go.Maps
open Nam Tre
structure SO (w wr : World) (L C : List (Nv × Nod)) (ao : Option Addr) (c' i : Nat) : Prop where
 row : wr.ownsRow w.heap.size 44 10 (.slice ao i c') i (nvs (C.map (·.1)))
 perm : C.Perm (L.take i)
 srt : Srt C
 bel : Below w.heap.size w wr
 som : ∃ g, ao = some ⟨g, 0, none⟩
theorem SO.ins {w wr w5 : World} {L C : List (Nv × Nod)} {ao ao5 : Option Addr} {c' i n k5 j : Nat} {x : Nv × Nod} (h : SO w wr L C ao c' i) (hL : L.length = n) (hi : i < n) (hx : x = gl L i) (hj : j ≤ i) (hI : ∀ k, j ≤ k → k < C.length → ltn x.2 (gl C k).2 = true) (hE : j = 0 ∨ ltn x.2 (gl C (j - 1)).2 = false)
  (hb : Below wr.heap.size wr w5) (ho : w5.ownsRow wr.heap.size 44 10 (.slice ao5 (i + 1) k5) (i + 1) (nvs ((insJ C x j).map (fun p => p.1)))) : SO w w5 L (insJ C x j) ao5 k5 (i + 1) := by
 have hCl : C.length = i := by rw [h.perm.length_eq, List.length_take]; omega
 refine ⟨owns_low ho h.bel.size, ?_, insJ_srt h.srt (by omega) hI hE, h.bel.trans (hb.mono h.bel.size), ?_⟩
 ·rw [hx]; exact insJ_perm h.perm (by omega)
 ·obtain ⟨g, cc, hv, _⟩ := ho.form (by omega)
  exact ⟨g, by simp at hv; exact hv.1⟩
set_option maxRecDepth 100000 in
set_option maxHeartbeats 1000000 in
theorem refSorted_any (a : Option Addr) (n c : Nat) (L : List (Nv × Nod)) (w : World) (hl : Ns w a n L) (hc : n ≤ c) (hcm : c ≤ 9223372036854775807) (hn : n ≤ 100000) (h20 : ∀ p ∈ L, p.2.names.length ≤ 1000000) :
  Calls Try.prog 30 #[.slice a n c] w fun e w' => ∃ ao c' C, e = .returned (.slice ao n c') ∧ SO w w' L C ao c' n := by
 have HL := hide hl
 have HLN := hide hl.1
 have H20 := hide h20
 clear hl h20
 go_enter Try.func30, Try.ntmps30
 go_wp2
 go_loopw [3, 4, 5, 6] (fun r3 r4 _ _ wr => ∃ (i : Nat) (ao : Option Addr) (c' : Nat) (C : List (Nv × Nod)), r3 = .slice ao i c' ∧ r4 = .int .i64 i ∧ i ≤ n ∧ SO w wr L C ao c' i) (fun _ r4 _ _ _ => n - (intOf r4).toNat)
 case atStart => exact ⟨0, _, _, [], rfl, rfl, Nat.zero_le _, emptyN (Nat.le_refl _), by simp, List.Pairwise.nil, (Below.refl _ _).alloc (Nat.le_refl _) _, _, rfl⟩
 case round =>
  obtain ⟨i, ao, c', C, rfl, rfl, hi0, hso⟩ := hrel
  have HSO := hide hso
  by_cases hi : i < n
  ·have hd : decide ((i : Int) < n) = true := by simpa using hi
   have hla : i < L.length := by rw [HLN.out]; exact hi
   have hCl : C.length = i := by rw [hso.perm.length_eq, List.length_take]; omega
   obtain ⟨ba, oa, rfl, hba, hca⟩ := (HL.out.below hso.bel).at (by omega)
   have hra := (HL.out.below hso.bel).rep i hi
   have hnn : (gl L i).1.nn ≤ 1000000 := by rw [← hra.names.1]; exact H20.out _ (gl_mem L i hla)
   have HNA := hide (hca i hi)
   have c0 := (hca i hi).c0
   have hsh := sh_of_owns hso.row
   have HSH := hide hsh
   have hCr : ∀ p ∈ C, Rep wr p.1 p.2 ∧ p.1.nn ≤ 1000000 := fun p hp => by
    have hm : p ∈ L := List.mem_of_mem_take (hso.perm.mem_iff.1 hp)
    have hr := (HL.out.below hso.bel).2.1 p hm
    exact ⟨hr, by rw [← hr.names.1]; exact H20.out p hm⟩
   have HCR := hide hCr
   have HCC := hide hCl
   obtain ⟨x, hx⟩ : ∃ x, x = gl L i := ⟨_, rfl⟩
   have HX := hide hx
   rw [← hx] at hra hnn HNA c0
   have HRA := hide hra
   obtain ⟨g, rfl⟩ := hso.som
   have hcc := cap_owns hso.row
   obtain ⟨hcc1, hcc2, _⟩ := hcc
   have hi1 : (i : Int) < n := by omega
   clear hso hca hra hsh hCr hCl hx
   go_wp2
   go_loopw [5] (fun r5 ws => ∃ j q : Nat, ws = wr.drewN q ∧ r5 = .int .i64 j ∧ j ≤ i ∧ ∀ k, j ≤ k → k < C.length → ltn x.2 (gl C k).2 = true) (fun r5 _ => (intOf r5).toNat)
   case atStart => exact ⟨i, 0, rfl, by go_num, Nat.le_refl _, fun k h1 h2 => by have := HCC.out; omega⟩
   case round =>
    obtain ⟨j, q, rfl, rfl, hj0, hinv⟩ := hrel
    have HI := hide hinv
    have SHD : Hid (∀ W, Below wr.heap.size wr W → ∀ off', (off' = j * 10 ∨ i - j = 0) → Sh W (some ⟨g, off', none⟩) (i - j) ((C.map (fun p => p.1)).drop j)) := fun W hW off' ho => by
     rcases ho with rfl | ho
     ·have := (HSH.out.below hW).drop j hj0
      rw [Nat.zero_add] at this
      exact this
     ·exact ⟨by rw [List.length_drop, List.length_map, HCC.out], .inl ho⟩
    clear hinv
    by_cases hj : 0 < j
    ·have hdj : decide ((0 : Int) < j) = true := by simp; omega
     obtain ⟨b', off', hbo, hb', hat⟩ := HSH.out.at (by omega)
     obtain ⟨rfl, rfl⟩ : g = b' ∧ 0 = off' := by simpa using hbo
     obtain ⟨t, hjt, hti, HT⟩ : ∃ t : Nat, (j : Int) - 1 = (t : Int) ∧ t < i ∧ Hid (t = j - 1) := ⟨j - 1, by omega, by omega, rfl⟩
     have d0 := (hat t hti).c0
     rw [gv_map C t (by rw [HCC.out]; exact hti), Nat.zero_add] at d0
     obtain ⟨hrc, hmm⟩ := HCR.out _ (gl_mem C t (by rw [HCC.out]; exact hti))
     have HK : Hid (∀ q, Calls Try.prog 52 #[.slice x.1.na x.1.nn x.1.nc, .slice (gl C t).1.na (gl C t).1.nn (gl C t).1.nc] (wr.drewN q) fun e w' => e = .returned (.bool (ltn x.2 (gl C t).2)) ∧ ∃ q', w' = (wr.drewN q).drewN q') := fun q =>
      refLess_any _ _ _ _ _ _ _ _ _ (HRA.out.names.drewN q) (hrc.names.drewN q) hnn hmm
     obtain ⟨z, hz⟩ : ∃ z, ltn x.2 (gl C t).2 = z := ⟨_, rfl⟩
     rw [hz] at HK
     have HZ := hide hz
     generalize (gl C t).1 = v at *
     have hcj : (t : Int) < i := by omega
     have HS := hide (And.intro c0 d0)
     have hj1 : (0 : Int) < j := by omega
     have hwr : IntKind.i64.wrap ((j : Int) - 1) = (t : Int) := by rw [hjt]; exact IntWalk.i64_in _ (by omega)
     have hjn : Hid (j ≤ 100000) := by show _ ≤ _; omega
     clear hat hbo hrc hz hjt
     go_wp2
     go_region_held3 (fun wX => wX.cell? ⟨ba, oa + i * 10, none⟩ = some (.slice x.1.na x.1.nn x.1.nc) ∧ wX.cell? ⟨g, t * 10, none⟩ = some (.slice v.na v.nn v.nc)) (exact HS.out)
      ((first
       | (go_at_call 52; refine (HK.out (q + 1)).mono ?_; rintro r w5 ⟨rfl, q', rfl⟩)))
     cases z with
     | true =>
      go_wp2
      refine ⟨⟨t, q + 1 + q', by simp, rfl, by omega, fun k h1 h2 => ?_⟩, by have := HT.out; simp [intOf]; omega⟩
      by_cases e : k = t
      ·rw [e]; exact HZ.out
      ·exact HI.out k (by have := HT.out; omega) h2
     | false =>
      have HEX : Hid (j = 0 ∨ ltn x.2 (gl C (j - 1)).2 = false) := .inr (by rw [← HT.out]; exact HZ.out)
      clear HK HS HZ d0 hcj hti HT hj1 hwr hdj hmm hj
      by_cases hcj : c' = j
      ·have hij : Hid (i - j = 0) := by show _ = _; omega
       go_wp2_with (at_builtin; refine wpList_append_nod _ rfl _ _ rfl wr.heap.size _ _ _ [] rfl (emptyN' (by simp) (by simp)) _ _ _ ((C.map (fun p => p.1)).drop j) rfl (SHD.out _ (by repeat (first | exact HB5.out | exact HB4.out | exact HB3.out | exact Below.refl _ _ | apply up_drew | apply up_drewN | apply up_alloc)) _ (by first | exact .inl rfl | exact .inr hij.out)) (fun h => by cases h) (by omega) (by simp) ?_)
       intro ao2 k2 w2 hown2 hg2
       try rw [List.nil_append, Nat.zero_add] at hown2
       try rw [Nat.zero_add]
       have hb2 : Below wr.heap.size wr w2 := Below.grown (by repeat (first | exact HB5.out | exact HB4.out | exact HB3.out | exact Below.refl _ _ | apply up_drew | apply up_drewN | apply up_alloc)) hg2 (by simp) (fun k e => by simp [Value.ownBlock] at e; omega)
       have E2 := hide hb2
       have HTL := hide (sh_of_owns hown2)
       have hk2 := (cap_owns hown2).2.2
       have HK2 := hide hk2
       have HOJ := hide ((HSH.out.below hb2).take j hj0)
       have HN2 := hide (HNA.out.below hb2 hba)
       have hba2 : ba < w2.heap.size := Nat.lt_of_lt_of_le hba hb2.size
       have hjc : (j : Int) ≤ c' := by omega
       have HIN : Hid (((C.map (fun p => p.1)).take j ++ [x.1]) ++ (C.map (fun p => p.1)).drop j = (insJ C x j).map (fun p => p.1)) := by
        show _ = _
        simp [insJ]
       have HS := hide (ten HN2.out)
       clear hown2 hg2 hk2 hb2 SHD c0 HRA
       go_wp2
       go_region_held3 (fun wX => wX.cell? ⟨ba, oa + i * 10, none⟩ = some (.slice x.1.na x.1.nn x.1.nc) ∧ wX.cell? ⟨ba, oa + i * 10 + 1, none⟩ = some (.int .i64 x.1.ino) ∧ wX.cell? ⟨ba, oa + i * 10 + 2, none⟩ = some (.int .i64 x.1.kind) ∧ wX.cell? ⟨ba, oa + i * 10 + 3, none⟩ = some (.int .i64 x.1.mode) ∧ wX.cell? ⟨ba, oa + i * 10 + 4, none⟩ = some (.int .i64 x.1.uid) ∧ wX.cell? ⟨ba, oa + i * 10 + 5, none⟩ = some (.int .i64 x.1.gid) ∧ wX.cell? ⟨ba, oa + i * 10 + 6, none⟩ = some (.slice x.1.da x.1.dn x.1.dc) ∧ wX.cell? ⟨ba, oa + i * 10 + 7, none⟩ = some (.string x.1.tg) ∧ wX.cell? ⟨ba, oa + i * 10 + 8, none⟩ = some (.slice x.1.xa x.1.xn x.1.xc) ∧ wX.cell? ⟨ba, oa + i * 10 + 9, none⟩ = some (.bool x.1.op)) (exact ten (HN2.out.below (by repeat (first | exact HB5.out | exact HB4.out | exact HB3.out | exact Below.refl _ _ | apply up_drew | apply up_drewN | apply up_alloc)) hba2))
        ((first
         | (refine step_append_nod _ (by rfl) (.tmp 39) (.tmp 42) (by rfl) w2 (by repeat (first | exact HB5.out | exact HB4.out | exact HB3.out | exact Below.refl _ _ | apply up_drew | apply up_drewN | apply up_alloc)) _ _ _ [] (by rfl) (by first | exact emptyN' (by simp) (by simp) | exact (emptyN' (by simp) (by simp)).alloc _) _ _ _ ((C.map (fun p => p.1)).take j) (by rfl) (HOJ.out.below (by repeat (first | exact HB5.out | exact HB4.out | exact HB3.out | exact Below.refl _ _ | apply up_drew | apply up_drewN | apply up_alloc))) (fun h => by cases h) j (by omega) _ rfl (by omega) ?_; intro ao3 k3 w3 hown3 hg3 hb3; have HO3 := hide hown3; have HG3 := hide hg3; have HB3 := hide hb3; clear hown3 hg3 hb3)
         | (refine step_append_nod _ (by rfl) (.tmp 43) (.tmp 48) (by rfl) w2 (by repeat (first | exact HB5.out | exact HB4.out | exact HB3.out | exact Below.refl _ _ | apply up_drew | apply up_drewN | apply up_alloc)) _ _ _ ((C.map (fun p => p.1)).take j) (by rfl) (by first | exact HO3.out | exact HO3.out.alloc _) _ _ _ [x.1] (by rfl) (by first | exact sh_one' (by simp) | exact box_keep (by first | exact heap_new' (by simp) | exact heap_old' (heap_new' (by simp))) HG3.out (by simp [Value.ownBlock])) (fun h => by cases h) (j + 1) (by omega) _ rfl (by omega) ?_; intro ao4 k4 w4 hown4 hg4 hb4; have HO4 := hide hown4; have HB4 := hide hb4; clear hown4 hg4 hb4)
         | (refine step_append_nod _ (by rfl) (.tmp 49) (.tmp 50) (by rfl) w2 (by repeat (first | exact HB5.out | exact HB4.out | exact HB3.out | exact Below.refl _ _ | apply up_drew | apply up_drewN | apply up_alloc)) _ _ _ ((C.map (fun p => p.1)).take j ++ [x.1]) (by rfl) (by first | exact HO4.out) _ _ _ ((C.map (fun p => p.1)).drop j) (by rfl) (HTL.out.below (by repeat (first | exact HB5.out | exact HB4.out | exact HB3.out | exact Below.refl _ _ | apply up_drew | apply up_drewN | apply up_alloc))) HK2.out (i + 1) (by omega) _ HIN.out (by omega) ?_; intro ao5 k5 w5 hown5 hg5 hb5; have HO5 := hide hown5; have HB5 := hide hb5; clear hown5 hg5 hb5)))
       all_goals (
        have HF := hide (HSO.out.ins HLN.out hi HX.out hj0 HI.out HEX.out (E2.out.trans (HB5.out.mono E2.out.size)) (owns_low HO5.out E2.out.size))
        go_wp2
        exact ⟨⟨i + 1, ao5, k5, insJ C x j, rfl, by go_num, by omega, HF.out⟩, by simp [intOf]; omega⟩)
      ·go_wp2_with (at_builtin; refine wpList_append_nod _ rfl _ _ rfl wr.heap.size _ _ _ [] rfl (emptyN' (by simp) (by simp)) _ _ _ ((C.map (fun p => p.1)).drop j) rfl (SHD.out _ (by repeat (first | exact HB5.out | exact HB4.out | exact HB3.out | exact Below.refl _ _ | apply up_drew | apply up_drewN | apply up_alloc)) _ (by first | exact .inl rfl | exact .inr hij.out)) (fun h => by cases h) (by omega) (by simp) ?_)
       intro ao2 k2 w2 hown2 hg2
       try rw [List.nil_append, Nat.zero_add] at hown2
       try rw [Nat.zero_add]
       have hb2 : Below wr.heap.size wr w2 := Below.grown (by repeat (first | exact HB5.out | exact HB4.out | exact HB3.out | exact Below.refl _ _ | apply up_drew | apply up_drewN | apply up_alloc)) hg2 (by simp) (fun k e => by simp [Value.ownBlock] at e; omega)
       have E2 := hide hb2
       have HTL := hide (sh_of_owns hown2)
       have hk2 := (cap_owns hown2).2.2
       have HK2 := hide hk2
       have HOJ := hide ((HSH.out.below hb2).take j hj0)
       have HN2 := hide (HNA.out.below hb2 hba)
       have hba2 : ba < w2.heap.size := Nat.lt_of_lt_of_le hba hb2.size
       have hjc : (j : Int) ≤ c' := by omega
       have HIN : Hid (((C.map (fun p => p.1)).take j ++ [x.1]) ++ (C.map (fun p => p.1)).drop j = (insJ C x j).map (fun p => p.1)) := by
        show _ = _
        simp [insJ]
       have HS := hide (ten HN2.out)
       clear hown2 hg2 hk2 hb2 SHD c0 HRA
       go_wp2
       go_region_held3 (fun wX => wX.cell? ⟨ba, oa + i * 10, none⟩ = some (.slice x.1.na x.1.nn x.1.nc) ∧ wX.cell? ⟨ba, oa + i * 10 + 1, none⟩ = some (.int .i64 x.1.ino) ∧ wX.cell? ⟨ba, oa + i * 10 + 2, none⟩ = some (.int .i64 x.1.kind) ∧ wX.cell? ⟨ba, oa + i * 10 + 3, none⟩ = some (.int .i64 x.1.mode) ∧ wX.cell? ⟨ba, oa + i * 10 + 4, none⟩ = some (.int .i64 x.1.uid) ∧ wX.cell? ⟨ba, oa + i * 10 + 5, none⟩ = some (.int .i64 x.1.gid) ∧ wX.cell? ⟨ba, oa + i * 10 + 6, none⟩ = some (.slice x.1.da x.1.dn x.1.dc) ∧ wX.cell? ⟨ba, oa + i * 10 + 7, none⟩ = some (.string x.1.tg) ∧ wX.cell? ⟨ba, oa + i * 10 + 8, none⟩ = some (.slice x.1.xa x.1.xn x.1.xc) ∧ wX.cell? ⟨ba, oa + i * 10 + 9, none⟩ = some (.bool x.1.op)) (exact ten (HN2.out.below (by repeat (first | exact HB5.out | exact HB4.out | exact HB3.out | exact Below.refl _ _ | apply up_drew | apply up_drewN | apply up_alloc)) hba2))
        ((first
         | (refine step_append_nod _ (by rfl) (.tmp 39) (.tmp 42) (by rfl) w2 (by repeat (first | exact HB5.out | exact HB4.out | exact HB3.out | exact Below.refl _ _ | apply up_drew | apply up_drewN | apply up_alloc)) _ _ _ [] (by rfl) (by first | exact emptyN' (by simp) (by simp) | exact (emptyN' (by simp) (by simp)).alloc _) _ _ _ ((C.map (fun p => p.1)).take j) (by rfl) (HOJ.out.below (by repeat (first | exact HB5.out | exact HB4.out | exact HB3.out | exact Below.refl _ _ | apply up_drew | apply up_drewN | apply up_alloc))) (fun h => by cases h) j (by omega) _ rfl (by omega) ?_; intro ao3 k3 w3 hown3 hg3 hb3; have HO3 := hide hown3; have HG3 := hide hg3; have HB3 := hide hb3; clear hown3 hg3 hb3)
         | (refine step_append_nod _ (by rfl) (.tmp 43) (.tmp 48) (by rfl) w2 (by repeat (first | exact HB5.out | exact HB4.out | exact HB3.out | exact Below.refl _ _ | apply up_drew | apply up_drewN | apply up_alloc)) _ _ _ ((C.map (fun p => p.1)).take j) (by rfl) (by first | exact HO3.out | exact HO3.out.alloc _) _ _ _ [x.1] (by rfl) (by first | exact sh_one' (by simp) | exact box_keep (by first | exact heap_new' (by simp) | exact heap_old' (heap_new' (by simp))) HG3.out (by simp [Value.ownBlock])) (fun h => by cases h) (j + 1) (by omega) _ rfl (by omega) ?_; intro ao4 k4 w4 hown4 hg4 hb4; have HO4 := hide hown4; have HB4 := hide hb4; clear hown4 hg4 hb4)
         | (refine step_append_nod _ (by rfl) (.tmp 49) (.tmp 50) (by rfl) w2 (by repeat (first | exact HB5.out | exact HB4.out | exact HB3.out | exact Below.refl _ _ | apply up_drew | apply up_drewN | apply up_alloc)) _ _ _ ((C.map (fun p => p.1)).take j ++ [x.1]) (by rfl) (by first | exact HO4.out) _ _ _ ((C.map (fun p => p.1)).drop j) (by rfl) (HTL.out.below (by repeat (first | exact HB5.out | exact HB4.out | exact HB3.out | exact Below.refl _ _ | apply up_drew | apply up_drewN | apply up_alloc))) HK2.out (i + 1) (by omega) _ HIN.out (by omega) ?_; intro ao5 k5 w5 hown5 hg5 hb5; have HO5 := hide hown5; have HB5 := hide hb5; clear hown5 hg5 hb5)))
       all_goals (
        have HF := hide (HSO.out.ins HLN.out hi HX.out hj0 HI.out HEX.out (E2.out.trans (HB5.out.mono E2.out.size)) (owns_low HO5.out E2.out.size))
        go_wp2
        exact ⟨⟨i + 1, ao5, k5, insJ C x j, rfl, by go_num, by omega, HF.out⟩, by simp [intOf]; omega⟩)
    ·have HEX : Hid (j = 0 ∨ ltn x.2 (gl C (j - 1)).2 = false) := .inl (by omega)
     have hdj : decide ((0 : Int) < j) = false := by simp; omega
     have hdj2 : ¬ (0 : Int) < j := by omega
     go_wp2
     go_quiet (fail)
     by_cases hcj : c' = j
     ·have hij : Hid (i - j = 0) := by show _ = _; omega
      go_wp2_with (at_builtin; refine wpList_append_nod _ rfl _ _ rfl wr.heap.size _ _ _ [] rfl (emptyN' (by simp) (by simp)) _ _ _ ((C.map (fun p => p.1)).drop j) rfl (SHD.out _ (by repeat (first | exact HB5.out | exact HB4.out | exact HB3.out | exact Below.refl _ _ | apply up_drew | apply up_drewN | apply up_alloc)) _ (by first | exact .inl rfl | exact .inr hij.out)) (fun h => by cases h) (by omega) (by simp) ?_)
      intro ao2 k2 w2 hown2 hg2
      try rw [List.nil_append, Nat.zero_add] at hown2
      try rw [Nat.zero_add]
      have hb2 : Below wr.heap.size wr w2 := Below.grown (by repeat (first | exact HB5.out | exact HB4.out | exact HB3.out | exact Below.refl _ _ | apply up_drew | apply up_drewN | apply up_alloc)) hg2 (by simp) (fun k e => by simp [Value.ownBlock] at e; omega)
      have E2 := hide hb2
      have HTL := hide (sh_of_owns hown2)
      have hk2 := (cap_owns hown2).2.2
      have HK2 := hide hk2
      have HOJ := hide ((HSH.out.below hb2).take j hj0)
      have HN2 := hide (HNA.out.below hb2 hba)
      have hba2 : ba < w2.heap.size := Nat.lt_of_lt_of_le hba hb2.size
      have hjc : (j : Int) ≤ c' := by omega
      have HIN : Hid (((C.map (fun p => p.1)).take j ++ [x.1]) ++ (C.map (fun p => p.1)).drop j = (insJ C x j).map (fun p => p.1)) := by
       show _ = _
       simp [insJ]
      have HS := hide (ten HN2.out)
      clear hown2 hg2 hk2 hb2 SHD c0 HRA
      go_wp2
      go_region_held3 (fun wX => wX.cell? ⟨ba, oa + i * 10, none⟩ = some (.slice x.1.na x.1.nn x.1.nc) ∧ wX.cell? ⟨ba, oa + i * 10 + 1, none⟩ = some (.int .i64 x.1.ino) ∧ wX.cell? ⟨ba, oa + i * 10 + 2, none⟩ = some (.int .i64 x.1.kind) ∧ wX.cell? ⟨ba, oa + i * 10 + 3, none⟩ = some (.int .i64 x.1.mode) ∧ wX.cell? ⟨ba, oa + i * 10 + 4, none⟩ = some (.int .i64 x.1.uid) ∧ wX.cell? ⟨ba, oa + i * 10 + 5, none⟩ = some (.int .i64 x.1.gid) ∧ wX.cell? ⟨ba, oa + i * 10 + 6, none⟩ = some (.slice x.1.da x.1.dn x.1.dc) ∧ wX.cell? ⟨ba, oa + i * 10 + 7, none⟩ = some (.string x.1.tg) ∧ wX.cell? ⟨ba, oa + i * 10 + 8, none⟩ = some (.slice x.1.xa x.1.xn x.1.xc) ∧ wX.cell? ⟨ba, oa + i * 10 + 9, none⟩ = some (.bool x.1.op)) (exact ten (HN2.out.below (by repeat (first | exact HB5.out | exact HB4.out | exact HB3.out | exact Below.refl _ _ | apply up_drew | apply up_drewN | apply up_alloc)) hba2))
       ((first
        | (refine step_append_nod _ (by rfl) (.tmp 39) (.tmp 42) (by rfl) w2 (by repeat (first | exact HB5.out | exact HB4.out | exact HB3.out | exact Below.refl _ _ | apply up_drew | apply up_drewN | apply up_alloc)) _ _ _ [] (by rfl) (by first | exact emptyN' (by simp) (by simp) | exact (emptyN' (by simp) (by simp)).alloc _) _ _ _ ((C.map (fun p => p.1)).take j) (by rfl) (HOJ.out.below (by repeat (first | exact HB5.out | exact HB4.out | exact HB3.out | exact Below.refl _ _ | apply up_drew | apply up_drewN | apply up_alloc))) (fun h => by cases h) j (by omega) _ rfl (by omega) ?_; intro ao3 k3 w3 hown3 hg3 hb3; have HO3 := hide hown3; have HG3 := hide hg3; have HB3 := hide hb3; clear hown3 hg3 hb3)
        | (refine step_append_nod _ (by rfl) (.tmp 43) (.tmp 48) (by rfl) w2 (by repeat (first | exact HB5.out | exact HB4.out | exact HB3.out | exact Below.refl _ _ | apply up_drew | apply up_drewN | apply up_alloc)) _ _ _ ((C.map (fun p => p.1)).take j) (by rfl) (by first | exact HO3.out | exact HO3.out.alloc _) _ _ _ [x.1] (by rfl) (by first | exact sh_one' (by simp) | exact box_keep (by first | exact heap_new' (by simp) | exact heap_old' (heap_new' (by simp))) HG3.out (by simp [Value.ownBlock])) (fun h => by cases h) (j + 1) (by omega) _ rfl (by omega) ?_; intro ao4 k4 w4 hown4 hg4 hb4; have HO4 := hide hown4; have HB4 := hide hb4; clear hown4 hg4 hb4)
        | (refine step_append_nod _ (by rfl) (.tmp 49) (.tmp 50) (by rfl) w2 (by repeat (first | exact HB5.out | exact HB4.out | exact HB3.out | exact Below.refl _ _ | apply up_drew | apply up_drewN | apply up_alloc)) _ _ _ ((C.map (fun p => p.1)).take j ++ [x.1]) (by rfl) (by first | exact HO4.out) _ _ _ ((C.map (fun p => p.1)).drop j) (by rfl) (HTL.out.below (by repeat (first | exact HB5.out | exact HB4.out | exact HB3.out | exact Below.refl _ _ | apply up_drew | apply up_drewN | apply up_alloc))) HK2.out (i + 1) (by omega) _ HIN.out (by omega) ?_; intro ao5 k5 w5 hown5 hg5 hb5; have HO5 := hide hown5; have HB5 := hide hb5; clear hown5 hg5 hb5)))
      all_goals (
       have HF := hide (HSO.out.ins HLN.out hi HX.out hj0 HI.out HEX.out (E2.out.trans (HB5.out.mono E2.out.size)) (owns_low HO5.out E2.out.size))
       go_wp2
       exact ⟨⟨i + 1, ao5, k5, insJ C x j, rfl, by go_num, by omega, HF.out⟩, by simp [intOf]; omega⟩)
     ·go_wp2_with (at_builtin; refine wpList_append_nod _ rfl _ _ rfl wr.heap.size _ _ _ [] rfl (emptyN' (by simp) (by simp)) _ _ _ ((C.map (fun p => p.1)).drop j) rfl (SHD.out _ (by repeat (first | exact HB5.out | exact HB4.out | exact HB3.out | exact Below.refl _ _ | apply up_drew | apply up_drewN | apply up_alloc)) _ (by first | exact .inl rfl | exact .inr hij.out)) (fun h => by cases h) (by omega) (by simp) ?_)
      intro ao2 k2 w2 hown2 hg2
      try rw [List.nil_append, Nat.zero_add] at hown2
      try rw [Nat.zero_add]
      have hb2 : Below wr.heap.size wr w2 := Below.grown (by repeat (first | exact HB5.out | exact HB4.out | exact HB3.out | exact Below.refl _ _ | apply up_drew | apply up_drewN | apply up_alloc)) hg2 (by simp) (fun k e => by simp [Value.ownBlock] at e; omega)
      have E2 := hide hb2
      have HTL := hide (sh_of_owns hown2)
      have hk2 := (cap_owns hown2).2.2
      have HK2 := hide hk2
      have HOJ := hide ((HSH.out.below hb2).take j hj0)
      have HN2 := hide (HNA.out.below hb2 hba)
      have hba2 : ba < w2.heap.size := Nat.lt_of_lt_of_le hba hb2.size
      have hjc : (j : Int) ≤ c' := by omega
      have HIN : Hid (((C.map (fun p => p.1)).take j ++ [x.1]) ++ (C.map (fun p => p.1)).drop j = (insJ C x j).map (fun p => p.1)) := by
       show _ = _
       simp [insJ]
      have HS := hide (ten HN2.out)
      clear hown2 hg2 hk2 hb2 SHD c0 HRA
      go_wp2
      go_region_held3 (fun wX => wX.cell? ⟨ba, oa + i * 10, none⟩ = some (.slice x.1.na x.1.nn x.1.nc) ∧ wX.cell? ⟨ba, oa + i * 10 + 1, none⟩ = some (.int .i64 x.1.ino) ∧ wX.cell? ⟨ba, oa + i * 10 + 2, none⟩ = some (.int .i64 x.1.kind) ∧ wX.cell? ⟨ba, oa + i * 10 + 3, none⟩ = some (.int .i64 x.1.mode) ∧ wX.cell? ⟨ba, oa + i * 10 + 4, none⟩ = some (.int .i64 x.1.uid) ∧ wX.cell? ⟨ba, oa + i * 10 + 5, none⟩ = some (.int .i64 x.1.gid) ∧ wX.cell? ⟨ba, oa + i * 10 + 6, none⟩ = some (.slice x.1.da x.1.dn x.1.dc) ∧ wX.cell? ⟨ba, oa + i * 10 + 7, none⟩ = some (.string x.1.tg) ∧ wX.cell? ⟨ba, oa + i * 10 + 8, none⟩ = some (.slice x.1.xa x.1.xn x.1.xc) ∧ wX.cell? ⟨ba, oa + i * 10 + 9, none⟩ = some (.bool x.1.op)) (exact ten (HN2.out.below (by repeat (first | exact HB5.out | exact HB4.out | exact HB3.out | exact Below.refl _ _ | apply up_drew | apply up_drewN | apply up_alloc)) hba2))
       ((first
        | (refine step_append_nod _ (by rfl) (.tmp 39) (.tmp 42) (by rfl) w2 (by repeat (first | exact HB5.out | exact HB4.out | exact HB3.out | exact Below.refl _ _ | apply up_drew | apply up_drewN | apply up_alloc)) _ _ _ [] (by rfl) (by first | exact emptyN' (by simp) (by simp) | exact (emptyN' (by simp) (by simp)).alloc _) _ _ _ ((C.map (fun p => p.1)).take j) (by rfl) (HOJ.out.below (by repeat (first | exact HB5.out | exact HB4.out | exact HB3.out | exact Below.refl _ _ | apply up_drew | apply up_drewN | apply up_alloc))) (fun h => by cases h) j (by omega) _ rfl (by omega) ?_; intro ao3 k3 w3 hown3 hg3 hb3; have HO3 := hide hown3; have HG3 := hide hg3; have HB3 := hide hb3; clear hown3 hg3 hb3)
        | (refine step_append_nod _ (by rfl) (.tmp 43) (.tmp 48) (by rfl) w2 (by repeat (first | exact HB5.out | exact HB4.out | exact HB3.out | exact Below.refl _ _ | apply up_drew | apply up_drewN | apply up_alloc)) _ _ _ ((C.map (fun p => p.1)).take j) (by rfl) (by first | exact HO3.out | exact HO3.out.alloc _) _ _ _ [x.1] (by rfl) (by first | exact sh_one' (by simp) | exact box_keep (by first | exact heap_new' (by simp) | exact heap_old' (heap_new' (by simp))) HG3.out (by simp [Value.ownBlock])) (fun h => by cases h) (j + 1) (by omega) _ rfl (by omega) ?_; intro ao4 k4 w4 hown4 hg4 hb4; have HO4 := hide hown4; have HB4 := hide hb4; clear hown4 hg4 hb4)
        | (refine step_append_nod _ (by rfl) (.tmp 49) (.tmp 50) (by rfl) w2 (by repeat (first | exact HB5.out | exact HB4.out | exact HB3.out | exact Below.refl _ _ | apply up_drew | apply up_drewN | apply up_alloc)) _ _ _ ((C.map (fun p => p.1)).take j ++ [x.1]) (by rfl) (by first | exact HO4.out) _ _ _ ((C.map (fun p => p.1)).drop j) (by rfl) (HTL.out.below (by repeat (first | exact HB5.out | exact HB4.out | exact HB3.out | exact Below.refl _ _ | apply up_drew | apply up_drewN | apply up_alloc))) HK2.out (i + 1) (by omega) _ HIN.out (by omega) ?_; intro ao5 k5 w5 hown5 hg5 hb5; have HO5 := hide hown5; have HB5 := hide hb5; clear hown5 hg5 hb5)))
      all_goals (
       have HF := hide (HSO.out.ins HLN.out hi HX.out hj0 HI.out HEX.out (E2.out.trans (HB5.out.mono E2.out.size)) (owns_low HO5.out E2.out.size))
       go_wp2
       exact ⟨⟨i + 1, ao5, k5, insJ C x j, rfl, by go_num, by omega, HF.out⟩, by simp [intOf]; omega⟩)
  ·have hd : decide ((i : Int) < n) = false := by simpa using hi
   obtain rfl : i = n := by omega
   clear hso
   go_wp2
   go_ret
   exact ⟨ao, c', C, rfl, HSO.out⟩
end Go.Proofs.Ytflohhefbbidcaa
namespace Go.Proofs.Ytflohhefbbidcaa
open Go.RowKit Go.Maps
open Nam Tre
theorem Tre.nod_ext {a b : Nod} (h1 : a.names = b.names) (h2 : alike a b = true) (h3 : a.ino = b.ino) : a = b := by
 obtain ⟨a1, ⟨a2, a3, a4⟩, a5, a6, a7, a8⟩ := (alike_iff a b).1 h2
 cases a
 cases b
 simp only [] at h1 h3 a1 a2 a3 a4 a5 a6 a7 a8
 subst h1 h3 a1 a2 a3 a4 a5 a6 a7 a8
 rfl
theorem Tre.nds_at {A : List (Nv × Nod)} {i : Nat} (h : i < A.length) : (nds A)[i]'(by rw [nds_length]; exact h) = (gl A i).2 := by rw [gl_lt A i h]; simp [nds]
theorem Tre.nds_no {A B : List (Nv × Nod)} {i : Nat} (ha : i < A.length) (hb : i < B.length) (h : (gl A i).2 ≠ (gl B i).2) : ¬ nds A = nds B := by
 intro e
 apply h
 rw [← nds_at ha, ← nds_at hb]
 simp only [e]
set_option maxRecDepth 100000 in
set_option maxHeartbeats 2000000 in
theorem refSame7_any (a b : Option Addr) (n c m d : Nat) (A B : List (Nv × Nod)) (w : World) (ha : Ns w a n A) (hb : Ns w b m B) (h20 : ∀ p ∈ A, p.2.names.length ≤ 1000000) (h21 : ∀ p ∈ B, p.2.names.length ≤ 1000000) (hn40 : n ≤ 1000000) (q : Bool) (hq : q = true ↔ nds A = nds B) :
    Calls Try.prog 9 #[.slice a n c, .slice b m d] w fun e w' => e = .returned (.bool q) ∧ Below w.heap.size w w' := by
  by_cases hnm : n = m
  · subst hnm
    have HA := hide ha
    have HB := hide hb
    have H20 := hide h20
    have H21 := hide h21
    have HQ := hide hq
    clear ha hb h20 h21 hq
    go_enter Try.func9, Try.ntmps9
    go_wp2
    go_loopw [5, 6, 7] (fun r _ _ wr => ∃ i : Nat, r = .int .i64 i ∧ i ≤ n ∧ (nds A).take i = (nds B).take i ∧ Below w.heap.size w wr) (fun r _ _ _ => n - (intOf r).toNat)
    case atStart => exact ⟨0, rfl, Nat.zero_le _, rfl, Below.refl _ _⟩
    case round =>
      obtain ⟨i, rfl, hi0, htk, hbel⟩ := hrel
      have HBL := hide hbel
      have HTK := hide htk
      clear htk
      by_cases hi : i < n
      · have hd : decide ((i : Int) < n) = true := by simpa using hi
        obtain ⟨ba, oa, rfl, hba, hca⟩ := (HA.out.below hbel).at (by omega)
        obtain ⟨bb, ob, rfl, hbb, hcb⟩ := (HB.out.below hbel).at (by omega)
        have hra := (HA.out.below hbel).rep i hi
        have hrb := (HB.out.below hbel).rep i hi
        have hla : i < A.length := by rw [HA.out.1]; exact hi
        have hlb : i < B.length := by rw [HB.out.1]; exact hi
        have hnn : (gl A i).1.nn ≤ 1000000 := by rw [← hra.names.1]; exact H20.out _ (gl_mem A i hla)
        have hmm : (gl B i).1.nn ≤ 1000000 := by rw [← hrb.names.1]; exact H21.out _ (gl_mem B i hlb)
        obtain ⟨b1, hb1⟩ : ∃ b1, decide ((gl A i).2.names = (gl B i).2.names) = b1 := ⟨_, rfl⟩
        obtain ⟨b2, hb2⟩ : ∃ b2, alike (gl A i).2 (gl B i).2 = b2 := ⟨_, rfl⟩
        obtain ⟨b3, hino⟩ : ∃ b3, ((gl A i).1.ino != (gl B i).1.ino) = b3 := ⟨_, rfl⟩
        have HK1 : Hid (∀ q, Calls Try.prog 31 #[.slice (gl A i).1.na (gl A i).1.nn (gl A i).1.nc, .slice (gl B i).1.na (gl B i).1.nn (gl B i).1.nc] (wr.drewN q) fun e w' => e = .returned (.bool b1) ∧ Below wr.heap.size wr w') := fun q => by
          have := refSame_one (gl A i).1.na (gl B i).1.na (gl A i).1.nn (gl A i).1.nc (gl B i).1.nn (gl B i).1.nc _ _ (wr.drewN q) (hra.names.drewN q) (hrb.names.drewN q) hnn
          rw [hb1] at this
          refine this.mono ?_
          rintro e w' ⟨rfl, q', rfl⟩
          exact ⟨rfl, (drewN_below wr q).trans (drewN_below _ q')⟩
        have HK2 : Hid (∀ wX, Below wr.heap.size wr wX → Calls Try.prog 32 #[.agg (gl A i).1.cells, .agg (gl B i).1.cells] wX fun e w' => e = .returned (.bool b2) ∧ Below wr.heap.size wr w') := fun wX hX => by
          have := refAlike_any (gl A i).1 (gl B i).1 _ _ wX (hra.below hX) (hrb.below hX)
          rw [hb2] at this
          refine this.mono ?_
          rintro e w' ⟨rfl, hb⟩
          exact ⟨rfl, hX.trans (hb.mono hX.size)⟩
        have HYes : Hid (b1 = true → b2 = true → b3 = false → (nds A).take (i + 1) = (nds B).take (i + 1)) := fun e1 e2 e3 => by
          have e : (gl A i).2 = (gl B i).2 := by
            refine nod_ext ?_ (by rw [hb2]; exact e2) ?_
            · rw [e1] at hb1; simpa using hb1
            · rw [e3] at hino
              rw [hra.ino, hrb.ino]
              simpa using hino
          rw [List.take_succ_eq_append_getElem (by rw [nds_length]; exact hla), List.take_succ_eq_append_getElem (by rw [nds_length]; exact hlb), nds_at hla, nds_at hlb, e, HTK.out]
        have HNo : Hid ((b1 = false ∨ b2 = false ∨ b3 = true) → q = false) := fun h => by
          have hno : ¬ nds A = nds B := by
           refine nds_no hla hlb fun e => ?_
           rcases h with h | h | h
           · rw [e] at hb1; rw [h] at hb1; simp at hb1
           · rw [e, alike_refl, h] at hb2; cases hb2
           · have e4 : (gl A i).1.ino = (gl B i).1.ino := by rw [← hra.ino, ← hrb.ino, e]
             rw [e4, h] at hino
             simp at hino
          cases hqq : q with
          | false => rfl
          | true => exact absurd (HQ.out.1 hqq) hno
        simp only [Nv.cells] at HK2
        have HNA := hide (hca i hi)
        have HNB := hide (hcb i hi)
        have HS := hide (And.intro (hca i hi).c0 (hcb i hi).c0)
        have hi1 : (i : Int) < n := by omega
        have DR : Hid (∀ q wX, Below wr.heap.size wr wX → Below wr.heap.size wr (wX.drewN q)) := fun q wX h => h.trans ((drewN_below (B := wX.heap.size) wX q).mono h.size)
        clear hca hcb hra hrb hb1 hb2 hbel hnn hmm
        generalize (gl A i).1 = v at *
        generalize (gl B i).1 = u at *
        go_wp2
        go_region_held3 (fun wX => wX.cell? ⟨ba, oa + i * 10, none⟩ = some (.slice v.na v.nn v.nc) ∧ wX.cell? ⟨bb, ob + i * 10, none⟩ = some (.slice u.na u.nn u.nc)) (first | exact HS5.out | exact HS.out)
          ((first
            | (go_at_call 31; refine (HK1.out _).mono ?_; rintro r w5 ⟨rfl, hb5⟩; have HB5 := hide hb5; have HS5 := hide (And.intro (HNA.out.below hb5 hba).c0 (HNB.out.below hb5 hbb).c0); clear hb5)))
        have HS6 := hide (two_rows (HNA.out.below HB5.out hba) (HNB.out.below HB5.out hbb))
        clear HS HS5 HK1
        go_wp2
        go_region_held3 (fun wX => wX.cell? ⟨ba, oa + i * 10, none⟩ = some (.slice v.na v.nn v.nc) ∧ wX.cell? ⟨ba, oa + i * 10 + 1, none⟩ = some (.int .i64 v.ino) ∧ wX.cell? ⟨ba, oa + i * 10 + 2, none⟩ = some (.int .i64 v.kind) ∧ wX.cell? ⟨ba, oa + i * 10 + 3, none⟩ = some (.int .i64 v.mode) ∧ wX.cell? ⟨ba, oa + i * 10 + 4, none⟩ = some (.int .i64 v.uid) ∧ wX.cell? ⟨ba, oa + i * 10 + 5, none⟩ = some (.int .i64 v.gid) ∧ wX.cell? ⟨ba, oa + i * 10 + 6, none⟩ = some (.slice v.da v.dn v.dc) ∧ wX.cell? ⟨ba, oa + i * 10 + 7, none⟩ = some (.string v.tg) ∧ wX.cell? ⟨ba, oa + i * 10 + 8, none⟩ = some (.slice v.xa v.xn v.xc) ∧ wX.cell? ⟨ba, oa + i * 10 + 9, none⟩ = some (.bool v.op) ∧ wX.cell? ⟨bb, ob + i * 10, none⟩ = some (.slice u.na u.nn u.nc) ∧ wX.cell? ⟨bb, ob + i * 10 + 1, none⟩ = some (.int .i64 u.ino) ∧ wX.cell? ⟨bb, ob + i * 10 + 2, none⟩ = some (.int .i64 u.kind) ∧ wX.cell? ⟨bb, ob + i * 10 + 3, none⟩ = some (.int .i64 u.mode) ∧ wX.cell? ⟨bb, ob + i * 10 + 4, none⟩ = some (.int .i64 u.uid) ∧ wX.cell? ⟨bb, ob + i * 10 + 5, none⟩ = some (.int .i64 u.gid) ∧ wX.cell? ⟨bb, ob + i * 10 + 6, none⟩ = some (.slice u.da u.dn u.dc) ∧ wX.cell? ⟨bb, ob + i * 10 + 7, none⟩ = some (.string u.tg) ∧ wX.cell? ⟨bb, ob + i * 10 + 8, none⟩ = some (.slice u.xa u.xn u.xc) ∧ wX.cell? ⟨bb, ob + i * 10 + 9, none⟩ = some (.bool u.op)) (first | exact HS7.out | exact HS6.out)
          ((first
            | (go_at_call 32; refine (HK2.out w5.drew (DR.out 1 w5 HB5.out)).mono ?_; rintro r w7 ⟨rfl, hb7⟩; have HB7 := hide hb7; have HS7 := hide (two_rows (HNA.out.below hb7 hba) (HNB.out.below hb7 hbb)); clear hb7)))
        have d1 := (HNA.out.below HB7.out hba).c1
        have d2 := (HNB.out.below HB7.out hbb).c1
        have HEnd : Hid (∀ q, Below w.heap.size w (w7.drewN q)) := fun q => HBL.out.trans ((DR.out q _ HB7.out).mono HBL.out.size)
        clear HS6 HS7 HK2
        rcases b1 with _ | _
        · go_wp2
          go_quiet (fail)
          go_wp2
          go_ret
          rw [HNo.out (.inl (by first | rfl | trivial))]
          exact ⟨rfl, HEnd.out _⟩
        · rcases b2 with _ | _
          · go_wp2
            go_quiet (fail)
            go_wp2
            go_ret
            rw [HNo.out (by first | exact .inl trivial | exact .inr (.inl rfl) | simp)]
            exact ⟨rfl, HEnd.out _⟩
          · rcases b3 with _ | _
            · go_wp2
              go_quiet (fail)
              go_wp2
              exact ⟨⟨i + 1, by go_num, by omega, by first | exact HYes.out trivial trivial trivial | exact HYes.out | simpa using HYes.out, HEnd.out _⟩, by simp [intOf]; omega⟩
            · go_wp2
              go_quiet (fail)
              go_wp2
              go_ret
              rw [HNo.out (by first | trivial | exact .inr (.inr rfl) | simp)]
              exact ⟨rfl, HEnd.out _⟩
      · have hd : decide ((i : Int) < n) = false := by simpa using hi
        have he : q = true := by
          have h := HTK.out
          rw [List.take_of_length_le (by rw [nds_length, HA.out.1]; omega), List.take_of_length_le (by rw [nds_length, HB.out.1]; omega)] at h
          exact HQ.out.2 h
        have HE := hide he
        clear he
        go_wp2
        go_ret
        rw [HE.out]
        exact ⟨rfl, HBL.out⟩
  · have hne : q = false := by
      cases hqq : q with
      | false => rfl
      | true =>
        have := congrArg List.length (hq.1 hqq)
        rw [nds_length, nds_length, ha.1, hb.1] at this
        exact absurd this hnm
    have hnm' : ((n : Int) != m) = true := by simp; omega
    rw [hne]
    clear hne ha hb h20 h21 hq
    go_enter Try.func9, Try.ntmps9
    go_wp2
    go_ret
    exact ⟨rfl, Below.refl _ _⟩
end Go.Proofs.Ytflohhefbbidcaa

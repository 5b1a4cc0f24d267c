import Derived.Test.YtoohanojfoichaaGreatDoorOJTreSort
import Derived.Test.YtoohanojfoichaaGreatDoorOJTreRefCheck
set_option linter.unusedVariables false
namespace Go.Proofs.YtoohanojfoichaaGreatDoor
open Go.RowKit Go.Maps
open Nam Tre
def Srt (C : List (Nv × Nod)) : Prop := C.Pairwise (fun p q => ltn q.2 p.2 = false)
def insJ (C : List (Nv × Nod)) (x : Nv × Nod) (j : Nat) : List (Nv × Nod) := C.take j ++ [x] ++ C.drop j
theorem ltn_asymm {a b : Nod} (h : ltn a b = true) : ltn b a = false := by
 cases h2 : ltn b a with
 | false => rfl
 | true => have := less_trans _ _ _ h h2; rw [less_irrefl] at this; cases this
theorem insJ_srt {C : List (Nv × Nod)} {x : Nv × Nod} {j : Nat} (hs : Srt C) (hj : j ≤ C.length) (h1 : ∀ k, j ≤ k → k < C.length → ltn x.2 (gl C k).2 = true) (h2 : j = 0 ∨ ltn x.2 (gl C (j - 1)).2 = false) : Srt (insJ C x j) := by
 have hs' : (C.take j ++ C.drop j).Pairwise (fun p q => ltn q.2 p.2 = false) := by rw [List.take_append_drop]; exact hs
 obtain ⟨s1, s2, s3⟩ := List.pairwise_append.1 hs'
 have hx : ∀ p ∈ C.take j, ltn x.2 p.2 = false := by
  intro p hp
  rcases h2 with h0 | h2
  ·rw [h0] at hp; simp at hp
  ·obtain ⟨k, hk, rfl⟩ := List.mem_take_iff_getElem.1 hp
   have hk1 : k < j := by omega
   have hk2 : k < C.length := by omega
   rw [gl_lt C (j - 1) (by omega)] at h2
   by_cases e : k = j - 1
   ·subst e; exact h2
   ·exact less_ntrans _ _ _ h2 (List.pairwise_iff_getElem.1 hs k (j - 1) hk2 (by omega) (by omega))
 have hy : ∀ q ∈ C.drop j, ltn q.2 x.2 = false := by
  intro q hq
  obtain ⟨k, hk, rfl⟩ := List.mem_drop_iff_getElem.1 hq
  have := h1 (j + k) (by omega) (by omega)
  rw [gl_lt C (j + k) (by omega)] at this
  exact ltn_asymm this
 unfold Srt insJ
 rw [List.append_assoc, List.pairwise_append]
 refine ⟨s1, List.pairwise_cons.2 ⟨hy, s2⟩, fun p hp q hq => ?_⟩
 rcases List.mem_cons.1 hq with rfl | hq
 ·exact hx p hp
 ·exact s3 p hp q hq
theorem insJ_perm {C L : List (Nv × Nod)} {i j : Nat} (hp : C.Perm (L.take i)) (hi : i < L.length) : (insJ C (gl L i) j).Perm (L.take (i + 1)) := by
 rw [List.take_succ_eq_append_getElem hi, ← gl_lt L i hi]
 refine List.Perm.trans ?_ (hp.append_right _)
 unfold insJ
 have e : C ++ [gl L i] = C.take j ++ (C.drop j ++ [gl L i]) := by rw [← List.append_assoc, List.take_append_drop]
 rw [e, List.append_assoc]
 exact List.Perm.append_left _ List.perm_append_comm
end Go.Proofs.YtoohanojfoichaaGreatDoor
namespace Go.Proofs.YtoohanojfoichaaGreatDoor
open Go.RowKit Go.Maps
open Nam Tre
def nbl (L : List (Nv × Nod)) (i : Nat) : List (Nv × Nod) := (rl (ikeys (nds L)) L i).take i
theorem nbl_length (L : List (Nv × Nod)) (i : Nat) (h : i ≤ L.length) : (nbl L i).length = i := by rw [nbl, List.length_take, rl_length]; omega
theorem nbl_get (L : List (Nv × Nod)) (i k : Nat) (h : i ≤ L.length) (hk : k < i) : gl (nbl L i) k = rn (gl L k) (nno (ikeys (nds L)) k) := by
 rw [gl_lt _ _ (by rw [nbl_length L i h]; exact hk)]
 have := rl_get (ikeys (nds L)) L i h k
 rw [if_pos hk, gl_lt _ _ (by rw [rl_length]; omega)] at this
 simp only [nbl, List.getElem_take]
 exact this
theorem nbl_succ (L : List (Nv × Nod)) (i : Nat) (h : i < L.length) : nbl L (i + 1) = nbl L i ++ [rn (gl L i) (nno (ikeys (nds L)) i)] := by
 apply List.ext_getElem
 ·rw [nbl_length L (i + 1) h, List.length_append, nbl_length L i (by omega)]; rfl
 ·intro k h1 h2
  rw [nbl_length L (i + 1) h] at h1
  have e1 := nbl_get L (i + 1) k h h1
  rw [gl_lt _ _ (by rw [nbl_length L (i + 1) h]; exact h1)] at e1
  rw [e1]
  by_cases hk : k < i
  ·rw [List.getElem_append_left (by rw [nbl_length L i (by omega)]; exact hk)]
   have e2 := nbl_get L i k (by omega) hk
   rw [gl_lt _ _ (by rw [nbl_length L i (by omega)]; exact hk)] at e2
   exact e2.symm
  ·obtain rfl : k = i := by omega
   rw [List.getElem_append_right (by rw [nbl_length L k (by omega)]; omega)]
   simp [nbl_length L k (by omega)]
theorem nbl_end (L : List (Nv × Nod)) : nds (nbl L L.length) = numb (nds L) := by
 rw [← rl_end]
 congr 1
 exact List.take_of_length_le (by rw [rl_length]; omega)
theorem key_eq (L : List (Nv × Nod)) (i k : Nat) (hi : i < L.length) (hk : k < L.length) : ((ikeys (nds L))[k]'(by rw [ikeys_length, nds_length]; exact hk) = (ikeys (nds L))[i]'(by rw [ikeys_length, nds_length]; exact hi)) ↔ (gl L k).2.ino = (gl L i).2.ino := by
 have e : ∀ j (hj : j < L.length), (ikeys (nds L))[j]'(by rw [ikeys_length, nds_length]; exact hj) = .int .i64 (gl L j).2.ino := fun j hj => by
  have := ikeys_at L j hj
  rw [← this]; simp [ikeys_length, nds_length, hj]
 rw [e k hk, e i hi]
 simp
def seen (L : List (Nv × Nod)) (i : Nat) : Nat → Bool
 | 0 => false
 | k + 1 => seen L i k || decide ((gl L k).2.ino = (gl L i).2.ino)
theorem seen_iff (L : List (Nv × Nod)) (i : Nat) : ∀ k, seen L i k = true ↔ ∃ j, j < k ∧ (gl L j).2.ino = (gl L i).2.ino
 | 0 => by simp [seen]
 | k + 1 => by
  rw [seen, Bool.or_eq_true, seen_iff L i k, decide_eq_true_eq]
  constructor
  ·rintro (⟨j, h1, h2⟩ | h)
   ·exact ⟨j, by omega, h2⟩
   ·exact ⟨k, by omega, h⟩
  ·rintro ⟨j, h1, h2⟩
   by_cases e : j = k
   ·exact .inr (by rw [← e]; exact h2)
   ·exact .inl ⟨j, by omega, h2⟩
theorem seen_mem (L : List (Nv × Nod)) (i : Nat) (hi : i < L.length) : seen L i i = true ↔ (ikeys (nds L))[i]'(by rw [ikeys_length, nds_length]; exact hi) ∈ (ikeys (nds L)).take i := by
 rw [seen_iff, List.mem_take_iff_getElem]
 constructor
 ·rintro ⟨j, h1, h2⟩
  exact ⟨j, by rw [ikeys_length, nds_length]; omega, (key_eq L i j hi (by omega)).2 h2⟩
 ·rintro ⟨j, h1, h2⟩
  exact ⟨j, by omega, (key_eq L i j hi (by rw [ikeys_length, nds_length] at h1; omega)).1 h2⟩
def zn (L : List (Nv × Nod)) (i k : Nat) : Nat := if seen L i k = true then nno (ikeys (nds L)) i else 0
theorem zn_hit (L : List (Nv × Nod)) (i k : Nat) (hi : i < L.length) (hk : k < i) (h : (gl L k).2.ino = (gl L i).2.ino) : zn L i (k + 1) = nno (ikeys (nds L)) k := by
 have hs : seen L i (k + 1) = true := by rw [seen, h]; simp
 rw [zn, if_pos hs]
 exact nno_old (ikeys_lit _) (by rw [ikeys_length, nds_length]; exact hi) hk ((key_eq L i k hi (by omega)).2 h)
theorem zn_miss (L : List (Nv × Nod)) (i k : Nat) (h : ¬ (gl L k).2.ino = (gl L i).2.ino) : zn L i (k + 1) = zn L i k := by
 unfold zn
 rw [seen, decide_eq_false h, Bool.or_false]
theorem zn_old (L : List (Nv × Nod)) (i : Nat) (hi : i < L.length) (h : seen L i i = true) : zn L i i = nno (ikeys (nds L)) i ∧ 0 < nno (ikeys (nds L)) i ∧ (nst (ikeys (nds L)) (i + 1)).1 = (nst (ikeys (nds L)) i).1 := by
 have hl : i < (ikeys (nds L)).length := by rw [ikeys_length, nds_length]; exact hi
 refine ⟨by rw [zn, if_pos h], (nno_range (ikeys_lit _) hl).1, nst_same (ikeys_lit _) hl ((seen_mem L i hi).1 h)⟩
theorem zn_new (L : List (Nv × Nod)) (i : Nat) (hi : i < L.length) (h : ¬ seen L i i = true) : zn L i i = 0 ∧ nno (ikeys (nds L)) i = (nst (ikeys (nds L)) i).1 + 1 ∧ (nst (ikeys (nds L)) (i + 1)).1 = (nst (ikeys (nds L)) i).1 + 1 := by
 have hl : i < (ikeys (nds L)).length := by rw [ikeys_length, nds_length]; exact hi
 have := nno_new (ikeys_lit (nds L)) hl (fun q => h ((seen_mem L i hi).2 q))
 exact ⟨by rw [zn, if_neg h], this.1, this.2⟩
theorem Bk.set1 {w : World} {p : Nat} {v : Nv} (h : Bk w p v) (z : Int) : Bk (w.setCell ⟨p, 1, none⟩ (.int .i64 z)) p { v with ino := z } := setCell_heap w p 1 _ _ _ _ h
structure NR (w wr : World) (L : List (Nv × Nod)) (ao : Option Addr) (c' i : Nat) : Prop where
 row : wr.ownsRow w.heap.size 48 10 (.slice ao i c') i (nvs ((nbl L i).map (fun p => p.1)))
 bel : Below w.heap.size w wr
 som : w.heap.size < wr.heap.size
set_option maxRecDepth 100000 in
set_option maxHeartbeats 1000000 in
theorem refNumbered_any (a : Option Addr) (n c : Nat) (L : List (Nv × Nod)) (w : World) (hl : Ns w a n L) (hc : n ≤ c) (hcm : c ≤ 9223372036854775807) (hn : n ≤ 100000) :
  Calls Tryz.prog 26 #[.slice a n c] w fun e w' => ∃ ao c', e = .returned (.slice ao n c') ∧ NR w w' L ao c' n := by
 have HL := hide hl
 have HLN := hide hl.1
 clear hl
 go_enter Tryz.func26, Tryz.ntmps26
 go_wp2
 go_loopw [3, 4, 5, 6, 7] (fun r3 r4 r5 _ _ wr => ∃ (i : Nat) (ao : Option Addr) (c' : Nat), r3 = .slice ao i c' ∧ r4 = .int .i64 (((nst (ikeys (nds L)) i).1 + 1 : Nat)) ∧ r5 = .int .i64 i ∧ i ≤ n ∧ NR w wr L ao c' i) (fun _ _ r5 _ _ _ => n - (intOf r5).toNat)
 case atStart => exact ⟨0, _, _, rfl, rfl, rfl, Nat.zero_le _, by simpa [nbl] using emptyN (Nat.le_refl _), (Below.refl _ _).alloc (Nat.le_refl _) _, by simp⟩
 case round =>
  obtain ⟨W, rfl⟩ : ∃ W, W = wr := ⟨wr, rfl⟩
  obtain ⟨i, ao, c', rfl, rfl, rfl, hi0, hnr⟩ := hrel
  have HNR := hide hnr
  by_cases hi : i < n
  ·have hd : decide ((i : Int) < n) = true := by simpa using hi
   have hla : i < L.length := by rw [HLN.out]; exact hi
   obtain ⟨ba, oa, rfl, hba, hca⟩ := (HL.out.below hnr.bel).at (by omega)
   have hra := (HL.out.below hnr.bel).rep i hi
   have HCA := hide hca
   have HNI := hide (fun k hk => ((HL.out.below hnr.bel).rep k hk).ino)
   obtain ⟨c0, c1, c2, c3, c4, c5, c6, c7, c8, c9⟩ := hca i hi
   have hcl := nst_le (ikeys (nds L)) i
   obtain ⟨nx, hnx⟩ : ∃ nx, (nst (ikeys (nds L)) i).1 + 1 = nx := ⟨_, rfl⟩
   have HNX := hide hnx
   have hnl : nx ≤ 100001 := by omega
   rw [hnx]
   have hi1 : (i : Int) < n := by omega
   obtain ⟨x, hx⟩ : ∃ x, x = (gl L i).1 := ⟨_, rfl⟩
   rw [← hx] at c0 c1 c2 c3 c4 c5 c6 c7 c8 c9
   have HX := hide hx
   have HB0 : Hid (Bk (W.alloc (.cells (Nv.cells { x with ino := ((zn L i 0 : Nat) : Int) }) 48)) W.heap.size { x with ino := ((zn L i 0 : Nat) : Int) }) := bk_new _ _
   have hz0 : zn L i 0 = 0 := by simp [zn, seen]
   rw [hz0] at HB0
   have HZ0 := hide hz0
   have HINO : Hid ((gl L i).2.ino = x.ino) := by rw [hx]; exact HNI.out i hi
   clear hnr hca hnx hra hcl hx hz0
   go_wp2
   go_loopw [7] (fun r7 ws => ∃ k : Nat, r7 = .int .i64 k ∧ k ≤ i ∧ Bk ws W.heap.size { x with ino := ((zn L i k : Nat) : Int) } ∧ Below W.heap.size W ws) (fun r7 _ => i - (intOf r7).toNat)
   case atStart => exact ⟨0, rfl, Nat.zero_le _, by rw [HZ0.out]; exact HB0.out, (Below.refl _ _).alloc (Nat.le_refl _) _⟩
   case round =>
    obtain ⟨k, rfl, hk0, hbk, hbw⟩ := hrel
    have HBK := hide hbk
    have HBW := hide hbw
    have e2 := ((HCA.out i hi).below hbw hba).c1
    rw [← HX.out] at e2
    clear c0 c1 c2 c3 c4 c5 c6 c7 c8 c9
    by_cases hk : k < i
    ·have hdk : decide ((k : Int) < i) = true := by simpa using hk
     have hk1 : (k : Int) < i := by omega
     have hkn : (k : Int) < n := by omega
     have e1 := ((HCA.out k (by omega)).below hbw hba).c1
     have hbx := hbk.box.c1
     have hfz := hbk.frozen 1
     by_cases he : (gl L k).1.ino = x.ino
     ·have heq : ((gl L k).1.ino == x.ino) = true := by simp [he]
      have HZ := hide (zn_hit L i k hla hk (by rw [HNI.out k (by omega), HINO.out]; exact he))
      obtain ⟨g, off', rfl, hg', hat⟩ := (sh_of_owns (owns_below HNR.out.row hbw)).at (by omega)
      have o1 := (hat k hk).c1
      rw [gv_map (nbl L i) k (by rw [nbl_length L i (by omega)]; exact hk), nbl_get L i k (by omega) hk] at o1
      simp only [rn] at o1
      have HST : Hid (∀ q, Bk ((wr.drewN q).setCell ⟨W.heap.size, 1, none⟩ (.int .i64 ((nno (ikeys (nds L)) k : Nat) : Int))) W.heap.size { x with ino := ((nno (ikeys (nds L)) k : Nat) : Int) }) := fun q => (show Bk (wr.drewN q) _ _ from hbk).set1 _
      have HBS : Hid (∀ q, Below W.heap.size W ((wr.drewN q).setCell ⟨W.heap.size, 1, none⟩ (.int .i64 ((nno (ikeys (nds L)) k : Nat) : Int)))) := fun q => (up_drewN hbw q).setCell (p := ⟨W.heap.size, 1, none⟩) (Nat.le_refl _) _
      clear hat hbk hbw
      generalize nno (ikeys (nds L)) k = zk at *
      generalize (gl L k).1.ino = ik at *
      go_wp2
      go_quiet (fail)
      go_wp2
      exact ⟨⟨k + 1, by go_num, by omega, by rw [HZ.out]; exact HST.out _, HBS.out _⟩, by simp [intOf]; omega⟩
     ·have heq : ((gl L k).1.ino == x.ino) = false := by simpa using he
      have HZ := hide (zn_miss L i k (by rw [HNI.out k (by omega), HINO.out]; exact he))
      have HST : Hid (∀ q, Bk (wr.drewN q) W.heap.size { x with ino := ((zn L i k : Nat) : Int) }) := fun q => hbk
      clear hbk hbw
      generalize (gl L k).1.ino = ik at *
      go_wp2
      go_quiet (fail)
      go_wp2
      exact ⟨⟨k + 1, by go_num, by omega, by rw [HZ.out]; exact HST.out _, up_drewN HBW.out _⟩, by simp [intOf]; omega⟩
    ·have hdk : decide ((k : Int) < i) = false := by simpa using hk
     obtain rfl : k = i := by omega
     have HRW : Hid (∀ w', Below W.heap.size W w' → w'.ownsRow w.heap.size 48 10 (.slice ao k c') k (nvs ((nbl L k).map (fun p => p.1)))) := fun w' h => owns_below HNR.out.row h
     have hrw := HRW.out wr hbw
     by_cases hs : seen L k k = true
     ·obtain ⟨z1, z2, z3⟩ := zn_old L k hla hs
      rw [z1] at hbk
      have HV : Hid (∀ v, v = ({ x with ino := ((nno (ikeys (nds L)) k : Nat) : Int) } : Nv) → (nbl L (k + 1)).map (fun p => p.1) = (nbl L k).map (fun p => p.1) ++ [v]) := fun v hv => by
       rw [hv, nbl_succ L k hla, HX.out]; simp [rn]
      have HN3 : Hid ((nst (ikeys (nds L)) (k + 1)).1 + 1 = nx) := by rw [z3]; exact HNX.out
      obtain ⟨v, hv⟩ : ∃ v, v = ({ x with ino := ((nno (ikeys (nds L)) k : Nat) : Int) } : Nv) := ⟨_, rfl⟩
      have hvi : (v.ino == 0) = false := by rw [hv]; simp; omega
      have HVV := hide (HV.out v hv)
      rw [← hv] at hbk
      obtain ⟨_, b0, b1, b2, b3, b4, b5, b6, b7, b8, b9⟩ := hbk.box
      have hsz := HNR.out.som
      have hsw := hbw.size
      clear hbk hbw hv HV z1 z2 z3 hrw
      go_wp2_with (at_builtin; refine wpList_append_nod _ rfl _ _ rfl w.heap.size _ _ _ ((nbl L k).map (fun p => p.1)) rfl ((HRW.out _ HBW.out).alloc _) _ _ _ [v] rfl (sh_one' (by simp)) (fun h => by cases h) (by omega) (by simp; omega) ?_)
      intro ao2 k2 w2 hown2 hg2
      have hs2 := hg2.size
      simp only [World.size_alloc] at hs2
      rw [← HVV.out] at hown2
      have HF : Hid (NR w w2 L ao2 k2 (k + 1)) := ⟨hown2, ((HNR.out.bel.trans (HBW.out.mono HNR.out.bel.size)).alloc (by omega) _).grown hg2 (by simp; omega) (fun j e => ((HRW.out _ HBW.out).lt j e).1), by omega⟩
      clear hown2 hg2 HVV b0 b1 b2 b3 b4 b5 b6 b7 b8 b9
      go_wp2
      exact ⟨⟨k + 1, ao2, k2, rfl, by rw [HN3.out], by go_num, by omega, HF.out⟩, by simp [intOf]; omega⟩
     ·obtain ⟨z1, z2, z3⟩ := zn_new L k hla hs
      have hfz := hbk.frozen 1
      have hb1 : wr.cell? ⟨W.heap.size, 1, none⟩ = some (.int .i64 0) := by have := hbk.box.c1; rw [z1] at this; exact this
      obtain ⟨W2, hW2⟩ : ∃ W2, W2 = wr.setCell ⟨W.heap.size, 1, none⟩ (.int .i64 (nx : Int)) := ⟨_, rfl⟩
      have hbk2 := hbk.set1 (nx : Int)
      have hbw2 : Below W.heap.size W W2 := by rw [hW2]; exact hbw.setCell (p := ⟨W.heap.size, 1, none⟩) (Nat.le_refl _) _
      rw [← hW2] at hbk2
      have HV : Hid (∀ v, v = ({ x with ino := (nx : Int) } : Nv) → (nbl L (k + 1)).map (fun p => p.1) = (nbl L k).map (fun p => p.1) ++ [v]) := fun v hv => by
       rw [hv, nbl_succ L k hla, HX.out, ← HNX.out, ← z2]; simp [rn]
      have HN3 : Hid ((nst (ikeys (nds L)) (k + 1)).1 + 1 = nx + 1) := by rw [z3, HNX.out]; rfl
      obtain ⟨v, hv⟩ : ∃ v, v = ({ x with ino := (nx : Int) } : Nv) := ⟨_, rfl⟩
      have HVV := hide (HV.out v hv)
      have hbk3 : Bk W2 W.heap.size v := by rw [hv]; exact hbk2
      obtain ⟨_, b0, b1, b2, b3, b4, b5, b6, b7, b8, b9⟩ := hbk3.box
      have hsz := HNR.out.som
      have hsw := hbw2.size
      have HBW2 := hide hbw2
      have hW2' := hW2.symm
      clear hbk hbw hv HV z1 z2 z3 hrw hbk2 hbw2 hbk3 hW2
      go_wp2_with (at_builtin; refine wpList_append_nod _ rfl _ _ rfl w.heap.size _ _ _ ((nbl L k).map (fun p => p.1)) rfl ((HRW.out _ HBW2.out).alloc _) _ _ _ [v] rfl (sh_one' (by simp)) (fun h => by cases h) (by omega) (by simp; omega) ?_)
      intro ao2 k2 w2 hown2 hg2
      have hs2 := hg2.size
      simp only [World.size_alloc] at hs2
      rw [← HVV.out] at hown2
      have HF : Hid (NR w w2 L ao2 k2 (k + 1)) := ⟨hown2, ((HNR.out.bel.trans (HBW2.out.mono HNR.out.bel.size)).alloc (by omega) _).grown hg2 (by simp; omega) (fun j e => ((HRW.out _ HBW2.out).lt j e).1), by omega⟩
      clear hown2 hg2 HVV b0 b1 b2 b3 b4 b5 b6 b7 b8 b9 hW2'
      go_wp2
      exact ⟨⟨k + 1, ao2, k2, rfl, by rw [HN3.out]; go_num, by go_num, by omega, HF.out⟩, by simp [intOf]; omega⟩
  ·have hd : decide ((i : Int) < n) = false := by simpa using hi
   obtain rfl : i = n := by omega
   clear hnr
   go_wp2
   go_ret
   exact ⟨ao, c', rfl, HNR.out⟩
end Go.Proofs.YtoohanojfoichaaGreatDoor
namespace Go.Proofs.YtoohanojfoichaaGreatDoor
open Go.RowKit Go.Maps
open Nam Tre
structure SO (w wr : World) (L C : List (Nv × Nod)) (ao : Option Addr) (c' i : Nat) : Prop where
 row : wr.ownsRow w.heap.size 48 10 (.slice ao i c') i (nvs (C.map (·.1)))
 perm : C.Perm (L.take i)
 srt : Srt C
 bel : Below w.heap.size w wr
 som : ∃ g, ao = some ⟨g, 0, none⟩
theorem SO.ins {w wr w5 : World} {L C : List (Nv × Nod)} {ao ao5 : Option Addr} {c' i n k5 j : Nat} {x : Nv × Nod} (h : SO w wr L C ao c' i) (hL : L.length = n) (hi : i < n) (hx : x = gl L i) (hj : j ≤ i) (hI : ∀ k, j ≤ k → k < C.length → ltn x.2 (gl C k).2 = true) (hE : j = 0 ∨ ltn x.2 (gl C (j - 1)).2 = false)
  (hb : Below wr.heap.size wr w5) (ho : w5.ownsRow wr.heap.size 48 10 (.slice ao5 (i + 1) k5) (i + 1) (nvs ((insJ C x j).map (fun p => p.1)))) : SO w w5 L (insJ C x j) ao5 k5 (i + 1) := by
 have hCl : C.length = i := by rw [h.perm.length_eq, List.length_take]; omega
 refine ⟨owns_low ho h.bel.size, ?_, insJ_srt h.srt (by omega) hI hE, h.bel.trans (hb.mono h.bel.size), ?_⟩
 ·rw [hx]; exact insJ_perm h.perm (by omega)
 ·obtain ⟨g, cc, hv, _⟩ := ho.form (by omega)
  exact ⟨g, by simp at hv; exact hv.1⟩
set_option maxRecDepth 100000 in
set_option maxHeartbeats 1000000 in
theorem refSorted_any (a : Option Addr) (n c : Nat) (L : List (Nv × Nod)) (w : World) (hl : Ns w a n L) (hc : n ≤ c) (hcm : c ≤ 9223372036854775807) (hn : n ≤ 100000) (h20 : ∀ p ∈ L, p.2.names.length ≤ 1000000) :
  Calls Tryz.prog 27 #[.slice a n c] w fun e w' => ∃ ao c' C, e = .returned (.slice ao n c') ∧ SO w w' L C ao c' n := by
 have HL := hide hl
 have HLN := hide hl.1
 have H20 := hide h20
 clear hl h20
 go_enter Tryz.func27, Tryz.ntmps27
 go_wp2
 go_loopw [3, 4, 5, 6] (fun r3 r4 _ _ wr => ∃ (i : Nat) (ao : Option Addr) (c' : Nat) (C : List (Nv × Nod)), r3 = .slice ao i c' ∧ r4 = .int .i64 i ∧ i ≤ n ∧ SO w wr L C ao c' i) (fun _ r4 _ _ _ => n - (intOf r4).toNat)
 case atStart => exact ⟨0, _, _, [], rfl, rfl, Nat.zero_le _, emptyN (Nat.le_refl _), by simp, List.Pairwise.nil, (Below.refl _ _).alloc (Nat.le_refl _) _, _, rfl⟩
 case round =>
  obtain ⟨i, ao, c', C, rfl, rfl, hi0, hso⟩ := hrel
  have HSO := hide hso
  by_cases hi : i < n
  ·have hd : decide ((i : Int) < n) = true := by simpa using hi
   have hla : i < L.length := by rw [HLN.out]; exact hi
   have hCl : C.length = i := by rw [hso.perm.length_eq, List.length_take]; omega
   obtain ⟨ba, oa, rfl, hba, hca⟩ := (HL.out.below hso.bel).at (by omega)
   have hra := (HL.out.below hso.bel).rep i hi
   have hnn : (gl L i).1.nn ≤ 1000000 := by rw [← hra.names.1]; exact H20.out _ (gl_mem L i hla)
   have HNA := hide (hca i hi)
   have c0 := (hca i hi).c0
   have hsh := sh_of_owns hso.row
   have HSH := hide hsh
   have hCr : ∀ p ∈ C, Rep wr p.1 p.2 ∧ p.1.nn ≤ 1000000 := fun p hp => by
    have hm : p ∈ L := List.mem_of_mem_take (hso.perm.mem_iff.1 hp)
    have hr := (HL.out.below hso.bel).2.1 p hm
    exact ⟨hr, by rw [← hr.names.1]; exact H20.out p hm⟩
   have HCR := hide hCr
   have HCC := hide hCl
   obtain ⟨x, hx⟩ : ∃ x, x = gl L i := ⟨_, rfl⟩
   have HX := hide hx
   rw [← hx] at hra hnn HNA c0
   have HRA := hide hra
   obtain ⟨g, rfl⟩ := hso.som
   have hcc := cap_owns hso.row
   obtain ⟨hcc1, hcc2, _⟩ := hcc
   have hi1 : (i : Int) < n := by omega
   clear hso hca hra hsh hCr hCl hx
   go_wp2
   go_loopw [5] (fun r5 ws => ∃ j q : Nat, ws = wr.drewN q ∧ r5 = .int .i64 j ∧ j ≤ i ∧ ∀ k, j ≤ k → k < C.length → ltn x.2 (gl C k).2 = true) (fun r5 _ => (intOf r5).toNat)
   case atStart => exact ⟨i, 0, rfl, by go_num, Nat.le_refl _, fun k h1 h2 => by have := HCC.out; omega⟩
   case round =>
    obtain ⟨j, q, rfl, rfl, hj0, hinv⟩ := hrel
    have HI := hide hinv
    have SHD : Hid (∀ W, Below wr.heap.size wr W → ∀ off', (off' = j * 10 ∨ i - j = 0) → Sh W (some ⟨g, off', none⟩) (i - j) ((C.map (fun p => p.1)).drop j)) := fun W hW off' ho => by
     rcases ho with rfl | ho
     ·have := (HSH.out.below hW).drop j hj0
      rw [Nat.zero_add] at this
      exact this
     ·exact ⟨by rw [List.length_drop, List.length_map, HCC.out], .inl ho⟩
    clear hinv
    by_cases hj : 0 < j
    ·have hdj : decide ((0 : Int) < j) = true := by simp; omega
     obtain ⟨b', off', hbo, hb', hat⟩ := HSH.out.at (by omega)
     obtain ⟨rfl, rfl⟩ : g = b' ∧ 0 = off' := by simpa using hbo
     obtain ⟨t, hjt, hti, HT⟩ : ∃ t : Nat, (j : Int) - 1 = (t : Int) ∧ t < i ∧ Hid (t = j - 1) := ⟨j - 1, by omega, by omega, rfl⟩
     have d0 := (hat t hti).c0
     rw [gv_map C t (by rw [HCC.out]; exact hti), Nat.zero_add] at d0
     obtain ⟨hrc, hmm⟩ := HCR.out _ (gl_mem C t (by rw [HCC.out]; exact hti))
     have HK : Hid (∀ q, Calls Tryz.prog 69 #[.slice x.1.na x.1.nn x.1.nc, .slice (gl C t).1.na (gl C t).1.nn (gl C t).1.nc] (wr.drewN q) fun e w' => e = .returned (.bool (ltn x.2 (gl C t).2)) ∧ ∃ q', w' = (wr.drewN q).drewN q') := fun q =>
      refLess_any _ _ _ _ _ _ _ _ _ (HRA.out.names.drewN q) (hrc.names.drewN q) hnn hmm
     obtain ⟨z, hz⟩ : ∃ z, ltn x.2 (gl C t).2 = z := ⟨_, rfl⟩
     rw [hz] at HK
     have HZ := hide hz
     generalize (gl C t).1 = v at *
     have hcj : (t : Int) < i := by omega
     have HS := hide (And.intro c0 d0)
     have hj1 : (0 : Int) < j := by omega
     have hwr : IntKind.i64.wrap ((j : Int) - 1) = (t : Int) := by rw [hjt]; exact IntWalk.i64_in _ (by omega)
     have hjn : Hid (j ≤ 100000) := by show _ ≤ _; omega
     clear hat hbo hrc hz hjt
     go_wp2
     go_region_held3 (fun wX => wX.cell? ⟨ba, oa + i * 10, none⟩ = some (.slice x.1.na x.1.nn x.1.nc) ∧ wX.cell? ⟨g, t * 10, none⟩ = some (.slice v.na v.nn v.nc)) (exact HS.out)
      ((first
       | (go_at_call 69; refine (HK.out (q + 1)).mono ?_; rintro r w5 ⟨rfl, q', rfl⟩)))
     cases z with
     | true =>
      go_wp2
      refine ⟨⟨t, q + 1 + q', by simp, rfl, by omega, fun k h1 h2 => ?_⟩, by have := HT.out; simp [intOf]; omega⟩
      by_cases e : k = t
      ·rw [e]; exact HZ.out
      ·exact HI.out k (by have := HT.out; omega) h2
     | false =>
      have HEX : Hid (j = 0 ∨ ltn x.2 (gl C (j - 1)).2 = false) := .inr (by rw [← HT.out]; exact HZ.out)
      clear HK HS HZ d0 hcj hti HT hj1 hwr hdj hmm hj
      by_cases hcj : c' = j
      ·have hij : Hid (i - j = 0) := by show _ = _; omega
       go_wp2_with (at_builtin; refine wpList_append_nod _ rfl _ _ rfl wr.heap.size _ _ _ [] rfl (emptyN' (by simp) (by simp)) _ _ _ ((C.map (fun p => p.1)).drop j) rfl (SHD.out _ (by repeat (first | exact HB5.out | exact HB4.out | exact HB3.out | exact Below.refl _ _ | apply up_drew | apply up_drewN | apply up_alloc)) _ (by first | exact .inl rfl | exact .inr hij.out)) (fun h => by cases h) (by omega) (by simp) ?_)
       intro ao2 k2 w2 hown2 hg2
       try rw [List.nil_append, Nat.zero_add] at hown2
       try rw [Nat.zero_add]
       have hb2 : Below wr.heap.size wr w2 := Below.grown (by repeat (first | exact HB5.out | exact HB4.out | exact HB3.out | exact Below.refl _ _ | apply up_drew | apply up_drewN | apply up_alloc)) hg2 (by simp) (fun k e => by simp [Value.ownBlock] at e; omega)
       have E2 := hide hb2
       have HTL := hide (sh_of_owns hown2)
       have hk2 := (cap_owns hown2).2.2
       have HK2 := hide hk2
       have HOJ := hide ((HSH.out.below hb2).take j hj0)
       have HN2 := hide (HNA.out.below hb2 hba)
       have hba2 : ba < w2.heap.size := Nat.lt_of_lt_of_le hba hb2.size
       have hjc : (j : Int) ≤ c' := by omega
       have HIN : Hid (((C.map (fun p => p.1)).take j ++ [x.1]) ++ (C.map (fun p => p.1)).drop j = (insJ C x j).map (fun p => p.1)) := by
        show _ = _
        simp [insJ]
       have HS := hide (ten HN2.out)
       clear hown2 hg2 hk2 hb2 SHD c0 HRA
       go_wp2
       go_region_held3 (fun wX => wX.cell? ⟨ba, oa + i * 10, none⟩ = some (.slice x.1.na x.1.nn x.1.nc) ∧ wX.cell? ⟨ba, oa + i * 10 + 1, none⟩ = some (.int .i64 x.1.ino) ∧ wX.cell? ⟨ba, oa + i * 10 + 2, none⟩ = some (.int .i64 x.1.kind) ∧ wX.cell? ⟨ba, oa + i * 10 + 3, none⟩ = some (.int .i64 x.1.mode) ∧ wX.cell? ⟨ba, oa + i * 10 + 4, none⟩ = some (.int .i64 x.1.uid) ∧ wX.cell? ⟨ba, oa + i * 10 + 5, none⟩ = some (.int .i64 x.1.gid) ∧ wX.cell? ⟨ba, oa + i * 10 + 6, none⟩ = some (.slice x.1.da x.1.dn x.1.dc) ∧ wX.cell? ⟨ba, oa + i * 10 + 7, none⟩ = some (.string x.1.tg) ∧ wX.cell? ⟨ba, oa + i * 10 + 8, none⟩ = some (.slice x.1.xa x.1.xn x.1.xc) ∧ wX.cell? ⟨ba, oa + i * 10 + 9, none⟩ = some (.bool x.1.op)) (exact ten (HN2.out.below (by repeat (first | exact HB5.out | exact HB4.out | exact HB3.out | exact Below.refl _ _ | apply up_drew | apply up_drewN | apply up_alloc)) hba2))
        ((first
         | (refine step_append_nod _ (by rfl) (.tmp 39) (.tmp 42) (by rfl) w2 (by repeat (first | exact HB5.out | exact HB4.out | exact HB3.out | exact Below.refl _ _ | apply up_drew | apply up_drewN | apply up_alloc)) _ _ _ [] (by rfl) (by first | exact emptyN' (by simp) (by simp) | exact (emptyN' (by simp) (by simp)).alloc _) _ _ _ ((C.map (fun p => p.1)).take j) (by rfl) (HOJ.out.below (by repeat (first | exact HB5.out | exact HB4.out | exact HB3.out | exact Below.refl _ _ | apply up_drew | apply up_drewN | apply up_alloc))) (fun h => by cases h) j (by omega) _ rfl (by omega) ?_; intro ao3 k3 w3 hown3 hg3 hb3; have HO3 := hide hown3; have HG3 := hide hg3; have HB3 := hide hb3; clear hown3 hg3 hb3)
         | (refine step_append_nod _ (by rfl) (.tmp 43) (.tmp 48) (by rfl) w2 (by repeat (first | exact HB5.out | exact HB4.out | exact HB3.out | exact Below.refl _ _ | apply up_drew | apply up_drewN | apply up_alloc)) _ _ _ ((C.map (fun p => p.1)).take j) (by rfl) (by first | exact HO3.out | exact HO3.out.alloc _) _ _ _ [x.1] (by rfl) (by first | exact sh_one' (by simp) | exact box_keep (by first | exact heap_new' (by simp) | exact heap_old' (heap_new' (by simp))) HG3.out (by simp [Value.ownBlock])) (fun h => by cases h) (j + 1) (by omega) _ rfl (by omega) ?_; intro ao4 k4 w4 hown4 hg4 hb4; have HO4 := hide hown4; have HB4 := hide hb4; clear hown4 hg4 hb4)
         | (refine step_append_nod _ (by rfl) (.tmp 49) (.tmp 50) (by rfl) w2 (by repeat (first | exact HB5.out | exact HB4.out | exact HB3.out | exact Below.refl _ _ | apply up_drew | apply up_drewN | apply up_alloc)) _ _ _ ((C.map (fun p => p.1)).take j ++ [x.1]) (by rfl) (by first | exact HO4.out) _ _ _ ((C.map (fun p => p.1)).drop j) (by rfl) (HTL.out.below (by repeat (first | exact HB5.out | exact HB4.out | exact HB3.out | exact Below.refl _ _ | apply up_drew | apply up_drewN | apply up_alloc))) HK2.out (i + 1) (by omega) _ HIN.out (by omega) ?_; intro ao5 k5 w5 hown5 hg5 hb5; have HO5 := hide hown5; have HB5 := hide hb5; clear hown5 hg5 hb5)))
       all_goals (
        have HF := hide (HSO.out.ins HLN.out hi HX.out hj0 HI.out HEX.out (E2.out.trans (HB5.out.mono E2.out.size)) (owns_low HO5.out E2.out.size))
        go_wp2
        exact ⟨⟨i + 1, ao5, k5, insJ C x j, rfl, by go_num, by omega, HF.out⟩, by simp [intOf]; omega⟩)
      ·go_wp2_with (at_builtin; refine wpList_append_nod _ rfl _ _ rfl wr.heap.size _ _ _ [] rfl (emptyN' (by simp) (by simp)) _ _ _ ((C.map (fun p => p.1)).drop j) rfl (SHD.out _ (by repeat (first | exact HB5.out | exact HB4.out | exact HB3.out | exact Below.refl _ _ | apply up_drew | apply up_drewN | apply up_alloc)) _ (by first | exact .inl rfl | exact .inr hij.out)) (fun h => by cases h) (by omega) (by simp) ?_)
       intro ao2 k2 w2 hown2 hg2
       try rw [List.nil_append, Nat.zero_add] at hown2
       try rw [Nat.zero_add]
       have hb2 : Below wr.heap.size wr w2 := Below.grown (by repeat (first | exact HB5.out | exact HB4.out | exact HB3.out | exact Below.refl _ _ | apply up_drew | apply up_drewN | apply up_alloc)) hg2 (by simp) (fun k e => by simp [Value.ownBlock] at e; omega)
       have E2 := hide hb2
       have HTL := hide (sh_of_owns hown2)
       have hk2 := (cap_owns hown2).2.2
       have HK2 := hide hk2
       have HOJ := hide ((HSH.out.below hb2).take j hj0)
       have HN2 := hide (HNA.out.below hb2 hba)
       have hba2 : ba < w2.heap.size := Nat.lt_of_lt_of_le hba hb2.size
       have hjc : (j : Int) ≤ c' := by omega
       have HIN : Hid (((C.map (fun p => p.1)).take j ++ [x.1]) ++ (C.map (fun p => p.1)).drop j = (insJ C x j).map (fun p => p.1)) := by
        show _ = _
        simp [insJ]
       have HS := hide (ten HN2.out)
       clear hown2 hg2 hk2 hb2 SHD c0 HRA
       go_wp2
       go_region_held3 (fun wX => wX.cell? ⟨ba, oa + i * 10, none⟩ = some (.slice x.1.na x.1.nn x.1.nc) ∧ wX.cell? ⟨ba, oa + i * 10 + 1, none⟩ = some (.int .i64 x.1.ino) ∧ wX.cell? ⟨ba, oa + i * 10 + 2, none⟩ = some (.int .i64 x.1.kind) ∧ wX.cell? ⟨ba, oa + i * 10 + 3, none⟩ = some (.int .i64 x.1.mode) ∧ wX.cell? ⟨ba, oa + i * 10 + 4, none⟩ = some (.int .i64 x.1.uid) ∧ wX.cell? ⟨ba, oa + i * 10 + 5, none⟩ = some (.int .i64 x.1.gid) ∧ wX.cell? ⟨ba, oa + i * 10 + 6, none⟩ = some (.slice x.1.da x.1.dn x.1.dc) ∧ wX.cell? ⟨ba, oa + i * 10 + 7, none⟩ = some (.string x.1.tg) ∧ wX.cell? ⟨ba, oa + i * 10 + 8, none⟩ = some (.slice x.1.xa x.1.xn x.1.xc) ∧ wX.cell? ⟨ba, oa + i * 10 + 9, none⟩ = some (.bool x.1.op)) (exact ten (HN2.out.below (by repeat (first | exact HB5.out | exact HB4.out | exact HB3.out | exact Below.refl _ _ | apply up_drew | apply up_drewN | apply up_alloc)) hba2))
        ((first
         | (refine step_append_nod _ (by rfl) (.tmp 39) (.tmp 42) (by rfl) w2 (by repeat (first | exact HB5.out | exact HB4.out | exact HB3.out | exact Below.refl _ _ | apply up_drew | apply up_drewN | apply up_alloc)) _ _ _ [] (by rfl) (by first | exact emptyN' (by simp) (by simp) | exact (emptyN' (by simp) (by simp)).alloc _) _ _ _ ((C.map (fun p => p.1)).take j) (by rfl) (HOJ.out.below (by repeat (first | exact HB5.out | exact HB4.out | exact HB3.out | exact Below.refl _ _ | apply up_drew | apply up_drewN | apply up_alloc))) (fun h => by cases h) j (by omega) _ rfl (by omega) ?_; intro ao3 k3 w3 hown3 hg3 hb3; have HO3 := hide hown3; have HG3 := hide hg3; have HB3 := hide hb3; clear hown3 hg3 hb3)
         | (refine step_append_nod _ (by rfl) (.tmp 43) (.tmp 48) (by rfl) w2 (by repeat (first | exact HB5.out | exact HB4.out | exact HB3.out | exact Below.refl _ _ | apply up_drew | apply up_drewN | apply up_alloc)) _ _ _ ((C.map (fun p => p.1)).take j) (by rfl) (by first | exact HO3.out | exact HO3.out.alloc _) _ _ _ [x.1] (by rfl) (by first | exact sh_one' (by simp) | exact box_keep (by first | exact heap_new' (by simp) | exact heap_old' (heap_new' (by simp))) HG3.out (by simp [Value.ownBlock])) (fun h => by cases h) (j + 1) (by omega) _ rfl (by omega) ?_; intro ao4 k4 w4 hown4 hg4 hb4; have HO4 := hide hown4; have HB4 := hide hb4; clear hown4 hg4 hb4)
         | (refine step_append_nod _ (by rfl) (.tmp 49) (.tmp 50) (by rfl) w2 (by repeat (first | exact HB5.out | exact HB4.out | exact HB3.out | exact Below.refl _ _ | apply up_drew | apply up_drewN | apply up_alloc)) _ _ _ ((C.map (fun p => p.1)).take j ++ [x.1]) (by rfl) (by first | exact HO4.out) _ _ _ ((C.map (fun p => p.1)).drop j) (by rfl) (HTL.out.below (by repeat (first | exact HB5.out | exact HB4.out | exact HB3.out | exact Below.refl _ _ | apply up_drew | apply up_drewN | apply up_alloc))) HK2.out (i + 1) (by omega) _ HIN.out (by omega) ?_; intro ao5 k5 w5 hown5 hg5 hb5; have HO5 := hide hown5; have HB5 := hide hb5; clear hown5 hg5 hb5)))
       all_goals (
        have HF := hide (HSO.out.ins HLN.out hi HX.out hj0 HI.out HEX.out (E2.out.trans (HB5.out.mono E2.out.size)) (owns_low HO5.out E2.out.size))
        go_wp2
        exact ⟨⟨i + 1, ao5, k5, insJ C x j, rfl, by go_num, by omega, HF.out⟩, by simp [intOf]; omega⟩)
    ·have HEX : Hid (j = 0 ∨ ltn x.2 (gl C (j - 1)).2 = false) := .inl (by omega)
     have hdj : decide ((0 : Int) < j) = false := by simp; omega
     have hdj2 : ¬ (0 : Int) < j := by omega
     go_wp2
     go_quiet (fail)
     by_cases hcj : c' = j
     ·have hij : Hid (i - j = 0) := by show _ = _; omega
      go_wp2_with (at_builtin; refine wpList_append_nod _ rfl _ _ rfl wr.heap.size _ _ _ [] rfl (emptyN' (by simp) (by simp)) _ _ _ ((C.map (fun p => p.1)).drop j) rfl (SHD.out _ (by repeat (first | exact HB5.out | exact HB4.out | exact HB3.out | exact Below.refl _ _ | apply up_drew | apply up_drewN | apply up_alloc)) _ (by first | exact .inl rfl | exact .inr hij.out)) (fun h => by cases h) (by omega) (by simp) ?_)
      intro ao2 k2 w2 hown2 hg2
      try rw [List.nil_append, Nat.zero_add] at hown2
      try rw [Nat.zero_add]
      have hb2 : Below wr.heap.size wr w2 := Below.grown (by repeat (first | exact HB5.out | exact HB4.out | exact HB3.out | exact Below.refl _ _ | apply up_drew | apply up_drewN | apply up_alloc)) hg2 (by simp) (fun k e => by simp [Value.ownBlock] at e; omega)
      have E2 := hide hb2
      have HTL := hide (sh_of_owns hown2)
      have hk2 := (cap_owns hown2).2.2
      have HK2 := hide hk2
      have HOJ := hide ((HSH.out.below hb2).take j hj0)
      have HN2 := hide (HNA.out.below hb2 hba)
      have hba2 : ba < w2.heap.size := Nat.lt_of_lt_of_le hba hb2.size
      have hjc : (j : Int) ≤ c' := by omega
      have HIN : Hid (((C.map (fun p => p.1)).take j ++ [x.1]) ++ (C.map (fun p => p.1)).drop j = (insJ C x j).map (fun p => p.1)) := by
       show _ = _
       simp [insJ]
      have HS := hide (ten HN2.out)
      clear hown2 hg2 hk2 hb2 SHD c0 HRA
      go_wp2
      go_region_held3 (fun wX => wX.cell? ⟨ba, oa + i * 10, none⟩ = some (.slice x.1.na x.1.nn x.1.nc) ∧ wX.cell? ⟨ba, oa + i * 10 + 1, none⟩ = some (.int .i64 x.1.ino) ∧ wX.cell? ⟨ba, oa + i * 10 + 2, none⟩ = some (.int .i64 x.1.kind) ∧ wX.cell? ⟨ba, oa + i * 10 + 3, none⟩ = some (.int .i64 x.1.mode) ∧ wX.cell? ⟨ba, oa + i * 10 + 4, none⟩ = some (.int .i64 x.1.uid) ∧ wX.cell? ⟨ba, oa + i * 10 + 5, none⟩ = some (.int .i64 x.1.gid) ∧ wX.cell? ⟨ba, oa + i * 10 + 6, none⟩ = some (.slice x.1.da x.1.dn x.1.dc) ∧ wX.cell? ⟨ba, oa + i * 10 + 7, none⟩ = some (.string x.1.tg) ∧ wX.cell? ⟨ba, oa + i * 10 + 8, none⟩ = some (.slice x.1.xa x.1.xn x.1.xc) ∧ wX.cell? ⟨ba, oa + i * 10 + 9, none⟩ = some (.bool x.1.op)) (exact ten (HN2.out.below (by repeat (first | exact HB5.out | exact HB4.out | exact HB3.out | exact Below.refl _ _ | apply up_drew | apply up_drewN | apply up_alloc)) hba2))
       ((first
        | (refine step_append_nod _ (by rfl) (.tmp 39) (.tmp 42) (by rfl) w2 (by repeat (first | exact HB5.out | exact HB4.out | exact HB3.out | exact Below.refl _ _ | apply up_drew | apply up_drewN | apply up_alloc)) _ _ _ [] (by rfl) (by first | exact emptyN' (by simp) (by simp) | exact (emptyN' (by simp) (by simp)).alloc _) _ _ _ ((C.map (fun p => p.1)).take j) (by rfl) (HOJ.out.below (by repeat (first | exact HB5.out | exact HB4.out | exact HB3.out | exact Below.refl _ _ | apply up_drew | apply up_drewN | apply up_alloc))) (fun h => by cases h) j (by omega) _ rfl (by omega) ?_; intro ao3 k3 w3 hown3 hg3 hb3; have HO3 := hide hown3; have HG3 := hide hg3; have HB3 := hide hb3; clear hown3 hg3 hb3)
        | (refine step_append_nod _ (by rfl) (.tmp 43) (.tmp 48) (by rfl) w2 (by repeat (first | exact HB5.out | exact HB4.out | exact HB3.out | exact Below.refl _ _ | apply up_drew | apply up_drewN | apply up_alloc)) _ _ _ ((C.map (fun p => p.1)).take j) (by rfl) (by first | exact HO3.out | exact HO3.out.alloc _) _ _ _ [x.1] (by rfl) (by first | exact sh_one' (by simp) | exact box_keep (by first | exact heap_new' (by simp) | exact heap_old' (heap_new' (by simp))) HG3.out (by simp [Value.ownBlock])) (fun h => by cases h) (j + 1) (by omega) _ rfl (by omega) ?_; intro ao4 k4 w4 hown4 hg4 hb4; have HO4 := hide hown4; have HB4 := hide hb4; clear hown4 hg4 hb4)
        | (refine step_append_nod _ (by rfl) (.tmp 49) (.tmp 50) (by rfl) w2 (by repeat (first | exact HB5.out | exact HB4.out | exact HB3.out | exact Below.refl _ _ | apply up_drew | apply up_drewN | apply up_alloc)) _ _ _ ((C.map (fun p => p.1)).take j ++ [x.1]) (by rfl) (by first | exact HO4.out) _ _ _ ((C.map (fun p => p.1)).drop j) (by rfl) (HTL.out.below (by repeat (first | exact HB5.out | exact HB4.out | exact HB3.out | exact Below.refl _ _ | apply up_drew | apply up_drewN | apply up_alloc))) HK2.out (i + 1) (by omega) _ HIN.out (by omega) ?_; intro ao5 k5 w5 hown5 hg5 hb5; have HO5 := hide hown5; have HB5 := hide hb5; clear hown5 hg5 hb5)))
      all_goals (
       have HF := hide (HSO.out.ins HLN.out hi HX.out hj0 HI.out HEX.out (E2.out.trans (HB5.out.mono E2.out.size)) (owns_low HO5.out E2.out.size))
       go_wp2
       exact ⟨⟨i + 1, ao5, k5, insJ C x j, rfl, by go_num, by omega, HF.out⟩, by simp [intOf]; omega⟩)
     ·go_wp2_with (at_builtin; refine wpList_append_nod _ rfl _ _ rfl wr.heap.size _ _ _ [] rfl (emptyN' (by simp) (by simp)) _ _ _ ((C.map (fun p => p.1)).drop j) rfl (SHD.out _ (by repeat (first | exact HB5.out | exact HB4.out | exact HB3.out | exact Below.refl _ _ | apply up_drew | apply up_drewN | apply up_alloc)) _ (by first | exact .inl rfl | exact .inr hij.out)) (fun h => by cases h) (by omega) (by simp) ?_)
      intro ao2 k2 w2 hown2 hg2
      try rw [List.nil_append, Nat.zero_add] at hown2
      try rw [Nat.zero_add]
      have hb2 : Below wr.heap.size wr w2 := Below.grown (by repeat (first | exact HB5.out | exact HB4.out | exact HB3.out | exact Below.refl _ _ | apply up_drew | apply up_drewN | apply up_alloc)) hg2 (by simp) (fun k e => by simp [Value.ownBlock] at e; omega)
      have E2 := hide hb2
      have HTL := hide (sh_of_owns hown2)
      have hk2 := (cap_owns hown2).2.2
      have HK2 := hide hk2
      have HOJ := hide ((HSH.out.below hb2).take j hj0)
      have HN2 := hide (HNA.out.below hb2 hba)
      have hba2 : ba < w2.heap.size := Nat.lt_of_lt_of_le hba hb2.size
      have hjc : (j : Int) ≤ c' := by omega
      have HIN : Hid (((C.map (fun p => p.1)).take j ++ [x.1]) ++ (C.map (fun p => p.1)).drop j = (insJ C x j).map (fun p => p.1)) := by
       show _ = _
       simp [insJ]
      have HS := hide (ten HN2.out)
      clear hown2 hg2 hk2 hb2 SHD c0 HRA
      go_wp2
      go_region_held3 (fun wX => wX.cell? ⟨ba, oa + i * 10, none⟩ = some (.slice x.1.na x.1.nn x.1.nc) ∧ wX.cell? ⟨ba, oa + i * 10 + 1, none⟩ = some (.int .i64 x.1.ino) ∧ wX.cell? ⟨ba, oa + i * 10 + 2, none⟩ = some (.int .i64 x.1.kind) ∧ wX.cell? ⟨ba, oa + i * 10 + 3, none⟩ = some (.int .i64 x.1.mode) ∧ wX.cell? ⟨ba, oa + i * 10 + 4, none⟩ = some (.int .i64 x.1.uid) ∧ wX.cell? ⟨ba, oa + i * 10 + 5, none⟩ = some (.int .i64 x.1.gid) ∧ wX.cell? ⟨ba, oa + i * 10 + 6, none⟩ = some (.slice x.1.da x.1.dn x.1.dc) ∧ wX.cell? ⟨ba, oa + i * 10 + 7, none⟩ = some (.string x.1.tg) ∧ wX.cell? ⟨ba, oa + i * 10 + 8, none⟩ = some (.slice x.1.xa x.1.xn x.1.xc) ∧ wX.cell? ⟨ba, oa + i * 10 + 9, none⟩ = some (.bool x.1.op)) (exact ten (HN2.out.below (by repeat (first | exact HB5.out | exact HB4.out | exact HB3.out | exact Below.refl _ _ | apply up_drew | apply up_drewN | apply up_alloc)) hba2))
       ((first
        | (refine step_append_nod _ (by rfl) (.tmp 39) (.tmp 42) (by rfl) w2 (by repeat (first | exact HB5.out | exact HB4.out | exact HB3.out | exact Below.refl _ _ | apply up_drew | apply up_drewN | apply up_alloc)) _ _ _ [] (by rfl) (by first | exact emptyN' (by simp) (by simp) | exact (emptyN' (by simp) (by simp)).alloc _) _ _ _ ((C.map (fun p => p.1)).take j) (by rfl) (HOJ.out.below (by repeat (first | exact HB5.out | exact HB4.out | exact HB3.out | exact Below.refl _ _ | apply up_drew | apply up_drewN | apply up_alloc))) (fun h => by cases h) j (by omega) _ rfl (by omega) ?_; intro ao3 k3 w3 hown3 hg3 hb3; have HO3 := hide hown3; have HG3 := hide hg3; have HB3 := hide hb3; clear hown3 hg3 hb3)
        | (refine step_append_nod _ (by rfl) (.tmp 43) (.tmp 48) (by rfl) w2 (by repeat (first | exact HB5.out | exact HB4.out | exact HB3.out | exact Below.refl _ _ | apply up_drew | apply up_drewN | apply up_alloc)) _ _ _ ((C.map (fun p => p.1)).take j) (by rfl) (by first | exact HO3.out | exact HO3.out.alloc _) _ _ _ [x.1] (by rfl) (by first | exact sh_one' (by simp) | exact box_keep (by first | exact heap_new' (by simp) | exact heap_old' (heap_new' (by simp))) HG3.out (by simp [Value.ownBlock])) (fun h => by cases h) (j + 1) (by omega) _ rfl (by omega) ?_; intro ao4 k4 w4 hown4 hg4 hb4; have HO4 := hide hown4; have HB4 := hide hb4; clear hown4 hg4 hb4)
        | (refine step_append_nod _ (by rfl) (.tmp 49) (.tmp 50) (by rfl) w2 (by repeat (first | exact HB5.out | exact HB4.out | exact HB3.out | exact Below.refl _ _ | apply up_drew | apply up_drewN | apply up_alloc)) _ _ _ ((C.map (fun p => p.1)).take j ++ [x.1]) (by rfl) (by first | exact HO4.out) _ _ _ ((C.map (fun p => p.1)).drop j) (by rfl) (HTL.out.below (by repeat (first | exact HB5.out | exact HB4.out | exact HB3.out | exact Below.refl _ _ | apply up_drew | apply up_drewN | apply up_alloc))) HK2.out (i + 1) (by omega) _ HIN.out (by omega) ?_; intro ao5 k5 w5 hown5 hg5 hb5; have HO5 := hide hown5; have HB5 := hide hb5; clear hown5 hg5 hb5)))
      all_goals (
       have HF := hide (HSO.out.ins HLN.out hi HX.out hj0 HI.out HEX.out (E2.out.trans (HB5.out.mono E2.out.size)) (owns_low HO5.out E2.out.size))
       go_wp2
       exact ⟨⟨i + 1, ao5, k5, insJ C x j, rfl, by go_num, by omega, HF.out⟩, by simp [intOf]; omega⟩)
  ·have hd : decide ((i : Int) < n) = false := by simpa using hi
   obtain rfl : i = n := by omega
   clear hso
   go_wp2
   go_ret
   exact ⟨ao, c', C, rfl, HSO.out⟩
end Go.Proofs.YtoohanojfoichaaGreatDoor

/- Layer 7: the reference's Numbered. -/
import Derived.Test.YtppmekmaclolbaaTreInos
import Derived.Test.YtppmekmaclolbaaTreRefSort0
namespace Go.Proofs.Ytppmekmaclolbaa
set_option linter.unusedVariables false
open Go.RowKit Go.Maps
open Nam Tre

/-- The first i nodes, numbered. -/
def nbl (L : List (Nv × Nod)) (i : Nat) : List (Nv × Nod) := (rl (ikeys (nds L)) L i).take i
theorem nbl_length (L : List (Nv × Nod)) (i : Nat) (h : i ≤ L.length) : (nbl L i).length = i := by rw [nbl, List.length_take, rl_length]; omega
theorem nbl_get (L : List (Nv × Nod)) (i k : Nat) (h : i ≤ L.length) (hk : k < i) : gl (nbl L i) k = rn (gl L k) (nno (ikeys (nds L)) k) := by
  rw [gl_lt _ _ (by rw [nbl_length L i h]; exact hk)]
  have := rl_get (ikeys (nds L)) L i h k
  rw [if_pos hk, gl_lt _ _ (by rw [rl_length]; omega)] at this
  simp only [nbl, List.getElem_take]
  exact this
theorem nbl_succ (L : List (Nv × Nod)) (i : Nat) (h : i < L.length) : nbl L (i + 1) = nbl L i ++ [rn (gl L i) (nno (ikeys (nds L)) i)] := by
  apply List.ext_getElem
  · rw [nbl_length L (i + 1) h, List.length_append, nbl_length L i (by omega)]; rfl
  · intro k h1 h2
    rw [nbl_length L (i + 1) h] at h1
    have e1 := nbl_get L (i + 1) k h h1
    rw [gl_lt _ _ (by rw [nbl_length L (i + 1) h]; exact h1)] at e1
    rw [e1]
    by_cases hk : k < i
    · rw [List.getElem_append_left (by rw [nbl_length L i (by omega)]; exact hk)]
      have e2 := nbl_get L i k (by omega) hk
      rw [gl_lt _ _ (by rw [nbl_length L i (by omega)]; exact hk)] at e2
      exact e2.symm
    · obtain rfl : k = i := by omega
      rw [List.getElem_append_right (by rw [nbl_length L k (by omega)]; omega)]
      simp [nbl_length L k (by omega)]
theorem nbl_end (L : List (Nv × Nod)) : nds (nbl L L.length) = numb (nds L) := by
  rw [← rl_end]
  congr 1
  exact List.take_of_length_le (by rw [rl_length]; omega)
/-- Keys, as Inos. -/
theorem key_eq (L : List (Nv × Nod)) (i k : Nat) (hi : i < L.length) (hk : k < L.length) : ((ikeys (nds L))[k]'(by rw [ikeys_length, nds_length]; exact hk) = (ikeys (nds L))[i]'(by rw [ikeys_length, nds_length]; exact hi)) ↔ (gl L k).2.ino = (gl L i).2.ino := by
  have e : ∀ j (hj : j < L.length), (ikeys (nds L))[j]'(by rw [ikeys_length, nds_length]; exact hj) = .int .i64 (gl L j).2.ino := fun j hj => by
    have := ikeys_at L j hj
    rw [← this]; simp [ikeys_length, nds_length, hj]
  rw [e k hk, e i hi]
  simp
/-- Whether one of the first k has the Ino of the i-th. -/
def seen (L : List (Nv × Nod)) (i : Nat) : Nat → Bool
  | 0 => false
  | k + 1 => seen L i k || decide ((gl L k).2.ino = (gl L i).2.ino)
theorem seen_iff (L : List (Nv × Nod)) (i : Nat) : ∀ k, seen L i k = true ↔ ∃ j, j < k ∧ (gl L j).2.ino = (gl L i).2.ino
  | 0 => by simp [seen]
  | k + 1 => by
    rw [seen, Bool.or_eq_true, seen_iff L i k, decide_eq_true_eq]
    constructor
    · rintro (⟨j, h1, h2⟩ | h)
      · exact ⟨j, by omega, h2⟩
      · exact ⟨k, by omega, h⟩
    · rintro ⟨j, h1, h2⟩
      by_cases e : j = k
      · exact .inr (by rw [← e]; exact h2)
      · exact .inl ⟨j, by omega, h2⟩
theorem seen_mem (L : List (Nv × Nod)) (i : Nat) (hi : i < L.length) : seen L i i = true ↔ (ikeys (nds L))[i]'(by rw [ikeys_length, nds_length]; exact hi) ∈ (ikeys (nds L)).take i := by
  rw [seen_iff, List.mem_take_iff_getElem]
  constructor
  · rintro ⟨j, h1, h2⟩
    exact ⟨j, by rw [ikeys_length, nds_length]; omega, (key_eq L i j hi (by omega)).2 h2⟩
  · rintro ⟨j, h1, h2⟩
    exact ⟨j, by omega, (key_eq L i j hi (by rw [ikeys_length, nds_length] at h1; omega)).1 h2⟩
/-- The Ino that stands in the box. -/
def zn (L : List (Nv × Nod)) (i k : Nat) : Nat := if seen L i k = true then nno (ikeys (nds L)) i else 0
theorem zn_hit (L : List (Nv × Nod)) (i k : Nat) (hi : i < L.length) (hk : k < i) (h : (gl L k).2.ino = (gl L i).2.ino) : zn L i (k + 1) = nno (ikeys (nds L)) k := by
  have hs : seen L i (k + 1) = true := by rw [seen, h]; simp
  rw [zn, if_pos hs]
  exact nno_old (ikeys_lit _) (by rw [ikeys_length, nds_length]; exact hi) hk ((key_eq L i k hi (by omega)).2 h)
theorem zn_miss (L : List (Nv × Nod)) (i k : Nat) (h : ¬ (gl L k).2.ino = (gl L i).2.ino) : zn L i (k + 1) = zn L i k := by
  unfold zn
  rw [seen, decide_eq_false h, Bool.or_false]
theorem zn_old (L : List (Nv × Nod)) (i : Nat) (hi : i < L.length) (h : seen L i i = true) : zn L i i = nno (ikeys (nds L)) i ∧ 0 < nno (ikeys (nds L)) i ∧ (nst (ikeys (nds L)) (i + 1)).1 = (nst (ikeys (nds L)) i).1 := by
  have hl : i < (ikeys (nds L)).length := by rw [ikeys_length, nds_length]; exact hi
  refine ⟨by rw [zn, if_pos h], (nno_range (ikeys_lit _) hl).1, nst_same (ikeys_lit _) hl ((seen_mem L i hi).1 h)⟩
theorem zn_new (L : List (Nv × Nod)) (i : Nat) (hi : i < L.length) (h : ¬ seen L i i = true) : zn L i i = 0 ∧ nno (ikeys (nds L)) i = (nst (ikeys (nds L)) i).1 + 1 ∧ (nst (ikeys (nds L)) (i + 1)).1 = (nst (ikeys (nds L)) i).1 + 1 := by
  have hl : i < (ikeys (nds L)).length := by rw [ikeys_length, nds_length]; exact hi
  have := nno_new (ikeys_lit (nds L)) hl (fun q => h ((seen_mem L i hi).2 q))
  exact ⟨by rw [zn, if_neg h], this.1, this.2⟩
theorem Bk.set1 {w : World} {p : Nat} {v : Nv} (h : Bk w p v) (z : Int) : Bk (w.setCell ⟨p, 1, none⟩ (.int .i64 z)) p { v with ino := z } := setCell_heap w p 1 _ _ _ _ h
theorem Bk.below {w w' : World} {p : Nat} {v : Nv} (h : Bk w p v) (hb : Below w.heap.size w w') : Bk w' p v := h.block (hb.block p (heap_lt h))
/-- The row so far, and the next number. -/
structure NR (w wr : World) (L : List (Nv × Nod)) (ao : Option Addr) (c' i : Nat) : Prop where
  row : wr.ownsRow w.heap.size 42 10 (.slice ao i c') i (nvs ((nbl L i).map (fun p => p.1)))
  bel : Below w.heap.size w wr
  som : w.heap.size < wr.heap.size
set_option maxRecDepth 100000 in
set_option maxHeartbeats 1000000 in
theorem refNumbered_any (a : Option Addr) (n c : Nat) (L : List (Nv × Nod)) (w : World) (hl : Ns w a n L) (hc : n ≤ c) (hcm : c ≤ 9223372036854775807) (hn : n ≤ 100000) :
    Calls Try.prog 41 #[.slice a n c] w fun e w' => ∃ ao c', e = .returned (.slice ao n c') ∧ NR w w' L ao c' n := by
  have HL := hide hl
  have HLN := hide hl.1
  clear hl
  go_enter Try.func41, Try.ntmps41
  go_wp2
  go_loopw [3, 4, 5, 6, 7] (fun r3 r4 r5 _ _ wr => ∃ (i : Nat) (ao : Option Addr) (c' : Nat), r3 = .slice ao i c' ∧ r4 = .int .i64 (((nst (ikeys (nds L)) i).1 + 1 : Nat)) ∧ r5 = .int .i64 i ∧ i ≤ n ∧ NR w wr L ao c' i) (fun _ _ r5 _ _ _ => n - (intOf r5).toNat)
  case atStart => exact ⟨0, _, _, rfl, rfl, rfl, Nat.zero_le _, by simpa [nbl] using emptyN (Nat.le_refl _), (Below.refl _ _).alloc (Nat.le_refl _) _, by simp⟩
  case round =>
    obtain ⟨W, rfl⟩ : ∃ W, W = wr := ⟨wr, rfl⟩
    obtain ⟨i, ao, c', rfl, rfl, rfl, hi0, hnr⟩ := hrel
    have HNR := hide hnr
    by_cases hi : i < n
    · have hd : decide ((i : Int) < n) = true := by simpa using hi
      have hla : i < L.length := by rw [HLN.out]; exact hi
      obtain ⟨ba, oa, rfl, hba, hca⟩ := (HL.out.below hnr.bel).at (by omega)
      have hra := (HL.out.below hnr.bel).rep i hi
      have HCA := hide hca
      have HNI := hide (fun k hk => ((HL.out.below hnr.bel).rep k hk).ino)
      obtain ⟨c0, c1, c2, c3, c4, c5, c6, c7, c8, c9⟩ := hca i hi
      have hcl := nst_le (ikeys (nds L)) i
      obtain ⟨nx, hnx⟩ : ∃ nx, (nst (ikeys (nds L)) i).1 + 1 = nx := ⟨_, rfl⟩
      have HNX := hide hnx
      have hnl : nx ≤ 100001 := by omega
      rw [hnx]
      have hi1 : (i : Int) < n := by omega
      obtain ⟨x, hx⟩ : ∃ x, x = (gl L i).1 := ⟨_, rfl⟩
      rw [← hx] at c0 c1 c2 c3 c4 c5 c6 c7 c8 c9
      have HX := hide hx
      have HB0 : Hid (Bk (W.alloc (.cells (Nv.cells { x with ino := ((zn L i 0 : Nat) : Int) }) 42)) W.heap.size { x with ino := ((zn L i 0 : Nat) : Int) }) := bk_new _ _
      have hz0 : zn L i 0 = 0 := by simp [zn, seen]
      rw [hz0] at HB0
      have HZ0 := hide hz0
      have HINO : Hid ((gl L i).2.ino = x.ino) := by rw [hx]; exact HNI.out i hi
      clear hnr hca hnx hra hcl hx hz0
      go_wp2
      go_loopw [7] (fun r7 ws => ∃ k : Nat, r7 = .int .i64 k ∧ k ≤ i ∧ Bk ws W.heap.size { x with ino := ((zn L i k : Nat) : Int) } ∧ Below W.heap.size W ws) (fun r7 _ => i - (intOf r7).toNat)
      case atStart => exact ⟨0, rfl, Nat.zero_le _, by rw [HZ0.out]; exact HB0.out, (Below.refl _ _).alloc (Nat.le_refl _) _⟩
      case round =>
        obtain ⟨k, rfl, hk0, hbk, hbw⟩ := hrel
        have HBK := hide hbk
        have HBW := hide hbw
        have e2 := ((HCA.out i hi).below hbw hba).c1
        rw [← HX.out] at e2
        clear c0 c1 c2 c3 c4 c5 c6 c7 c8 c9
        by_cases hk : k < i
        · have hdk : decide ((k : Int) < i) = true := by simpa using hk
          have hk1 : (k : Int) < i := by omega
          have hkn : (k : Int) < n := by omega
          have e1 := ((HCA.out k (by omega)).below hbw hba).c1
          have hbx := hbk.box.c1
          have hfz := hbk.frozen 1
          by_cases he : (gl L k).1.ino = x.ino
          · have heq : ((gl L k).1.ino == x.ino) = true := by simp [he]
            have HZ := hide (zn_hit L i k hla hk (by rw [HNI.out k (by omega), HINO.out]; exact he))
            obtain ⟨g, off', rfl, hg', hat⟩ := (sh_of_owns (owns_below HNR.out.row hbw)).at (by omega)
            have o1 := (hat k hk).c1
            rw [gv_map (nbl L i) k (by rw [nbl_length L i (by omega)]; exact hk), nbl_get L i k (by omega) hk] at o1
            simp only [rn] at o1
            have HST : Hid (∀ q, Bk ((wr.drewN q).setCell ⟨W.heap.size, 1, none⟩ (.int .i64 ((nno (ikeys (nds L)) k : Nat) : Int))) W.heap.size { x with ino := ((nno (ikeys (nds L)) k : Nat) : Int) }) := fun q => (show Bk (wr.drewN q) _ _ from hbk).set1 _
            have HBS : Hid (∀ q, Below W.heap.size W ((wr.drewN q).setCell ⟨W.heap.size, 1, none⟩ (.int .i64 ((nno (ikeys (nds L)) k : Nat) : Int)))) := fun q => (up_drewN hbw q).setCell (p := ⟨W.heap.size, 1, none⟩) (Nat.le_refl _) _
            clear hat hbk hbw
            generalize nno (ikeys (nds L)) k = zk at *
            generalize (gl L k).1.ino = ik at *
            go_wp2
            go_quiet (fail)
            go_wp2
            exact ⟨⟨k + 1, by go_num, by omega, by rw [HZ.out]; exact HST.out _, HBS.out _⟩, by simp [intOf]; omega⟩
          · have heq : ((gl L k).1.ino == x.ino) = false := by simpa using he
            have HZ := hide (zn_miss L i k (by rw [HNI.out k (by omega), HINO.out]; exact he))
            have HST : Hid (∀ q, Bk (wr.drewN q) W.heap.size { x with ino := ((zn L i k : Nat) : Int) }) := fun q => hbk
            clear hbk hbw
            generalize (gl L k).1.ino = ik at *
            go_wp2
            go_quiet (fail)
            go_wp2
            exact ⟨⟨k + 1, by go_num, by omega, by rw [HZ.out]; exact HST.out _, up_drewN HBW.out _⟩, by simp [intOf]; omega⟩
        · have hdk : decide ((k : Int) < i) = false := by simpa using hk
          obtain rfl : k = i := by omega
          have HRW : Hid (∀ w', Below W.heap.size W w' → w'.ownsRow w.heap.size 42 10 (.slice ao k c') k (nvs ((nbl L k).map (fun p => p.1)))) := fun w' h => owns_below HNR.out.row h
          have hrw := HRW.out wr hbw
          by_cases hs : seen L k k = true
          · obtain ⟨z1, z2, z3⟩ := zn_old L k hla hs
            rw [z1] at hbk
            have HV : Hid (∀ v, v = ({ x with ino := ((nno (ikeys (nds L)) k : Nat) : Int) } : Nv) → (nbl L (k + 1)).map (fun p => p.1) = (nbl L k).map (fun p => p.1) ++ [v]) := fun v hv => by
              rw [hv, nbl_succ L k hla, HX.out]; simp [rn]
            have HN3 : Hid ((nst (ikeys (nds L)) (k + 1)).1 + 1 = nx) := by rw [z3]; exact HNX.out
            obtain ⟨v, hv⟩ : ∃ v, v = ({ x with ino := ((nno (ikeys (nds L)) k : Nat) : Int) } : Nv) := ⟨_, rfl⟩
            have hvi : (v.ino == 0) = false := by rw [hv]; simp; omega
            have HVV := hide (HV.out v hv)
            rw [← hv] at hbk
            obtain ⟨_, b0, b1, b2, b3, b4, b5, b6, b7, b8, b9⟩ := hbk.box
            have hsz := HNR.out.som
            have hsw := hbw.size
            clear hbk hbw hv HV z1 z2 z3 hrw
            go_wp2_with (at_builtin; refine wpList_append_nod _ rfl _ _ rfl w.heap.size _ _ _ ((nbl L k).map (fun p => p.1)) rfl ((HRW.out _ HBW.out).alloc _) _ _ _ [v] rfl (sh_one' (by simp)) (fun h => by cases h) (by omega) (by simp; omega) ?_)
            intro ao2 k2 w2 hown2 hg2
            have hs2 := hg2.size
            simp only [World.size_alloc] at hs2
            rw [← HVV.out] at hown2
            have HF : Hid (NR w w2 L ao2 k2 (k + 1)) := ⟨hown2, ((HNR.out.bel.trans (HBW.out.mono HNR.out.bel.size)).alloc (by omega) _).grown hg2 (by simp; omega) (fun j e => ((HRW.out _ HBW.out).lt j e).1), by omega⟩
            clear hown2 hg2 HVV b0 b1 b2 b3 b4 b5 b6 b7 b8 b9
            go_wp2
            exact ⟨⟨k + 1, ao2, k2, rfl, by rw [HN3.out], by go_num, by omega, HF.out⟩, by simp [intOf]; omega⟩
          · obtain ⟨z1, z2, z3⟩ := zn_new L k hla hs
            have hfz := hbk.frozen 1
            have hb1 : wr.cell? ⟨W.heap.size, 1, none⟩ = some (.int .i64 0) := by have := hbk.box.c1; rw [z1] at this; exact this
            obtain ⟨W2, hW2⟩ : ∃ W2, W2 = wr.setCell ⟨W.heap.size, 1, none⟩ (.int .i64 (nx : Int)) := ⟨_, rfl⟩
            have hbk2 := hbk.set1 (nx : Int)
            have hbw2 : Below W.heap.size W W2 := by rw [hW2]; exact hbw.setCell (p := ⟨W.heap.size, 1, none⟩) (Nat.le_refl _) _
            rw [← hW2] at hbk2
            have HV : Hid (∀ v, v = ({ x with ino := (nx : Int) } : Nv) → (nbl L (k + 1)).map (fun p => p.1) = (nbl L k).map (fun p => p.1) ++ [v]) := fun v hv => by
              rw [hv, nbl_succ L k hla, HX.out, ← HNX.out, ← z2]; simp [rn]
            have HN3 : Hid ((nst (ikeys (nds L)) (k + 1)).1 + 1 = nx + 1) := by rw [z3, HNX.out]; rfl
            obtain ⟨v, hv⟩ : ∃ v, v = ({ x with ino := (nx : Int) } : Nv) := ⟨_, rfl⟩
            have HVV := hide (HV.out v hv)
            have hbk3 : Bk W2 W.heap.size v := by rw [hv]; exact hbk2
            obtain ⟨_, b0, b1, b2, b3, b4, b5, b6, b7, b8, b9⟩ := hbk3.box
            have hsz := HNR.out.som
            have hsw := hbw2.size
            have HBW2 := hide hbw2
            have hW2' := hW2.symm
            clear hbk hbw hv HV z1 z2 z3 hrw hbk2 hbw2 hbk3 hW2
            go_wp2_with (at_builtin; refine wpList_append_nod _ rfl _ _ rfl w.heap.size _ _ _ ((nbl L k).map (fun p => p.1)) rfl ((HRW.out _ HBW2.out).alloc _) _ _ _ [v] rfl (sh_one' (by simp)) (fun h => by cases h) (by omega) (by simp; omega) ?_)
            intro ao2 k2 w2 hown2 hg2
            have hs2 := hg2.size
            simp only [World.size_alloc] at hs2
            rw [← HVV.out] at hown2
            have HF : Hid (NR w w2 L ao2 k2 (k + 1)) := ⟨hown2, ((HNR.out.bel.trans (HBW2.out.mono HNR.out.bel.size)).alloc (by omega) _).grown hg2 (by simp; omega) (fun j e => ((HRW.out _ HBW2.out).lt j e).1), by omega⟩
            clear hown2 hg2 HVV b0 b1 b2 b3 b4 b5 b6 b7 b8 b9 hW2'
            go_wp2
            exact ⟨⟨k + 1, ao2, k2, rfl, by rw [HN3.out]; go_num, by go_num, by omega, HF.out⟩, by simp [intOf]; omega⟩
    · have hd : decide ((i : Int) < n) = false := by simpa using hi
      obtain rfl : i = n := by omega
      clear hnr
      go_wp2
      go_ret
      exact ⟨ao, c', rfl, HNR.out⟩
end Go.Proofs.Ytppmekmaclolbaa

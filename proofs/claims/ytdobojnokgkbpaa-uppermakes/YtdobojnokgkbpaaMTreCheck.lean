import Derived.Test.YtdobojnokgkbpaaMTrePath
import Derived.Test.YtdobojnokgkbpaaMJTreLinks
import Derived.Test.YtdobojnokgkbpaaMJTreMay
set_option linter.unusedVariables false
namespace Go.Proofs.Ytdobojnokgkbpaa
open Go.RowKit Go.Maps
open Nam Tre
namespace Tre
def Fine (m : List ByteArray) : Prop := ∀ s ∈ m, valid s.toList = 0
theorem pkey_inj {a b : List ByteArray} (ha : Fine a) (hb : Fine b) (h : pkey a = pkey b) : a = b := by
 have e : join (nm a) = join (nm b) := by simpa [pkey] using h
 refine nm_inj (join_inj ?_ ?_ e)
 ·intro n hn
  simp only [nm, List.mem_map] at hn
  obtain ⟨s, hs, rfl⟩ := hn
  exact ha s hs
 ·intro n hn
  simp only [nm, List.mem_map] at hn
  obtain ⟨s, hs, rfl⟩ := hn
  exact hb s hs
theorem fine_of {l : List Nod} (h : wrong l = 0) : ∀ n ∈ l, Fine n.names := fun n hn => fv_zero _ (wrong_zero l h n hn)
theorem short_of {l : List Nod} (h : wrong l = 0) (d : l.any deep = false) : ∀ n ∈ l, Short n.names := fun n hn => by
 refine ⟨?_, fun s hs => ?_⟩
 ·rw [List.any_eq_false] at d
  have := d n hn
  simp [deep] at this
  exact this
 ·have := (valid_zero (fine_of h n hn s hs)).1
  rw [toList_length] at this
  exact this
theorem nodup_pkeys : ∀ {l : List Nod}, (∀ n ∈ l, Fine n.names) → ((pkeys l).Nodup ↔ (l.map Nod.names).Nodup)
 | [], _ => by simp [pkeys]
 | n :: r, h => by
  have ih := nodup_pkeys (l := r) (fun x hx => h x (by simp [hx]))
  simp only [pkeys, List.map_cons, List.nodup_cons, List.mem_map] at ih ⊢
  rw [ih]
  refine and_congr_left fun _ => not_congr ?_
  constructor
  ·rintro ⟨x, hx, e⟩
   exact ⟨x, hx, pkey_inj (h x (by simp [hx])) (h n (by simp)) e⟩
  ·rintro ⟨x, hx, e⟩
   exact ⟨x, hx, by rw [e]⟩
theorem find_names : ∀ {l : List Nod} {m : List ByteArray} {j : Nat} (h : j < l.length), (l.map Nod.names).Nodup → l[j].names = m → l.find? (fun n => decide (n.names = m)) = some l[j]
 | n :: r, m, 0, h, hn, e => by rw [List.find?_cons]; simp at e; simp [e]
 | n :: r, m, j + 1, h, hn, e => by
  simp only [List.map_cons, List.nodup_cons, List.mem_map] at hn
  simp only [List.getElem_cons_succ] at e
  have hne : ¬ n.names = m := fun k => hn.1 ⟨r[j]'(by simpa using h), List.getElem_mem _, by rw [e, k]⟩
  rw [List.find?_cons]
  simp only [hne, decide_false]
  exact find_names (by simpa using h) hn.2 e
end Tre
theorem nds_get (L : List (Nv × Nod)) (j : Nat) (h : j < L.length) : (nds L)[j]'(by rw [nds_length]; exact h) = (gl L j).2 := by rw [gl_lt L j h]; simp [nds]
theorem dirM_isDir (L : List (Nv × Nod)) (n : Nat) (hn : L.length = n) (hf : ∀ x ∈ nds L, Fine x.names) (hnd : ((nds L).map Nod.names).Nodup) (m : List ByteArray) (hm : Fine m) : dirM L (mlast (pkeys (nds L)) n) m = isDir (nds L) m := by
 have hlen : (pkeys (nds L)).length = n := by rw [pkeys_length, nds_length, hn]
 unfold dirM isDir
 cases h : mlast (pkeys (nds L)) n (pkey m) with
 | some j =>
  obtain ⟨hj, hjk⟩ := mlast_some (pkeys_lit _) n (by omega) _ _ h
  have hjl : j < (nds L).length := by rw [nds_length, hn]; exact hj
  have hk : pkey ((nds L)[j]).names = pkey m := by
   rw [pkeys, List.getElem?_map, List.getElem?_eq_getElem hjl] at hjk
   simpa using hjk
  have e := pkey_inj (hf _ (List.getElem_mem hjl)) hm hk
  rw [find_names hjl hnd e, nds_get L j (by omega)]
 | none =>
  have hnone : (nds L).find? (fun n => decide (n.names = m)) = none := by
   rw [List.find?_eq_none]
   intro x hx
   simp only [decide_eq_true_eq]
   intro e
   have hmem : pkey m ∈ (pkeys (nds L)).take n := by
    rw [List.take_of_length_le (by omega)]
    exact List.mem_map.2 ⟨x, hx, by rw [e]⟩
   have := (mlast_mem (pkeys_lit _) n (by omega) (pkey m)).2 hmem
   rw [h] at this
   cases this
  rw [hnone]
theorem parM_inDir (L : List (Nv × Nod)) (n : Nat) (hn : L.length = n) (hf : ∀ x ∈ nds L, Fine x.names) (hnd : ((nds L).map Nod.names).Nodup) : (nds L).all (parM L (mlast (pkeys (nds L)) n)) = (nds L).all (inDir (nds L)) := by
 rw [Bool.eq_iff_iff, List.all_eq_true, List.all_eq_true]
 refine forall_congr' fun x => forall_congr' fun hx => ?_
 rw [parM, inDir, dirM_isDir L n hn hf hnd _ (fun s hs => hf x hx s (List.dropLast_subset _ hs))]
theorem nds_mem {L : List (Nv × Nod)} {p : Nv × Nod} (h : p ∈ L) : p.2 ∈ nds L := List.mem_map.2 ⟨p, h, rfl⟩
theorem isDeep_asks (L : List (Nv × Nod)) (w : World) (h : ∀ p ∈ L, Rep w p.1 p.2) : Asks 47 #[] deep L w := fun q hq w1 hb => isDeep_any q.1 q.2 w1 ((h q hq).below hb)
theorem mayBe_asks (L : List (Nv × Nod)) (w : World) (h : ∀ p ∈ L, Rep w p.1 p.2) : Asks 52 #[] may L w := fun q hq w1 hb => mayBe_any q.1 q.2 w1 ((h q hq).below hb)
set_option maxRecDepth 100000 in
theorem Check_any (a : Option Addr) (n c : Nat) (L : List (Nv × Nod)) (w : World) (hl : Ns w a n L) (hc : n ≤ c) (hcm : c ≤ 9223372036854775807) :
  Calls Try.prog 43 #[.slice a n c] w fun e w' => e = .returned (.int .i64 (check (nds L))) ∧ Below w.heap.size w w' := by
 have hln : (nds L).length = n := by rw [nds_length]; exact hl.1
 by_cases h1 : 1024 < n
 ·have h1' : (1024 : Int) < n := by omega
  have HE := hide (check_big (l := nds L) (by omega))
  clear hl
  go_enter Try.func43, Try.ntmps43
  go_wp2
  go_ret
  exact ⟨ret_int HE.out.symm, Below.refl _ _⟩
 have h1' : ¬ (1024 : Int) < n := by omega
 have g1 : ¬ 1024 < (nds L).length := by omega
 have HL := hide hl
 obtain ⟨z, hz⟩ : ∃ z, wrong (nds L) = z := ⟨_, rfl⟩
 have H1 := hide (wrongName_any a n c L w hl hc hcm)
 rw [hz] at H1
 by_cases h2 : z = 0
 ·have hw0 : wrong (nds L) = 0 := hz.trans h2
  have H2 := hide (fun w1 (hb : Below w.heap.size w w1) => ContainsFunc_any a n c L 47 #[] deep w1 (hl.below hb) hc hcm (enters _ Try.func47 (by kernel_rfl) rfl) (isDeep_asks L w1 (hl.below hb).2.1))
  cases h3 : (nds L).any deep with
  | true =>
   have HE := hide (check_deep g1 hw0 h3)
   rw [h3] at H2
   have h2' : (z != 0) = false := by simp [h2]
   clear hl hz h2 h3 hw0
   go_enter Try.func43, Try.ntmps43
   go_wp2_with (go_at_call 45; refine H1.out.mono ?_; rintro e w1 ⟨rfl, hb1⟩)
   go_wp2_with (go_at_call 46; refine (H2.out _ hb1).mono ?_; rintro e w2 ⟨rfl, hb2⟩)
   go_ret
   exact ⟨ret_int HE.out.symm, hb1.trans (hb2.mono hb1.size)⟩
  | false =>
   have hfine := fine_of hw0
   have hshort := short_of hw0 h3
   have hsh : ∀ p ∈ L, Short p.2.names := fun p hp => hshort _ (nds_mem hp)
   rw [h3] at H2
   have H3 := hide (fun w1 (hb : Below w.heap.size w w1) => byPath_any a n c L w1 (hl.below hb) hc hcm (by omega) hsh)
   have h2' : (z != 0) = false := by simp [h2]
   have hlen : (pkeys (nds L)).length = n := by rw [pkeys_length, nds_length]; exact hl.1
   have hcnt := mcnt_nodup (pkeys_lit (nds L)) n (by omega)
   rw [List.take_of_length_le (by omega), nodup_pkeys hfine] at hcnt
   have hcle := mcnt_le (ks := pkeys (nds L)) n
   by_cases h4 : ((nds L).map Nod.names).Nodup
   ·have hce : mcnt (pkeys (nds L)) n = n := hcnt.2 h4
    have hfn : ∀ k j, mlast (pkeys (nds L)) n k = some j → j < n := fun k j h => (mlast_some (pkeys_lit _) n (by omega) k j h).1
    have HD := hide (dirM_isDir L n hl.1 hfine h4 [] (fun s hs => by simp at hs))
    have HP := hide (parM_inDir L n hl.1 hfine h4)
    have H4 := hide (fun w1 b (hb : Below w.heap.size w w1) (hm : MpK 9 w1 b n (mlast (pkeys (nds L)) n)) => isDir_any a n c L b n _ none 0 0 [] w1 (hl.below hb) hc hcm hm hfn (Rs.nil _ _) ⟨by simp, fun s hs => by simp at hs⟩)
    have H5 := hide (fun w1 b (hb : Below w.heap.size w w1) (hm : MpK 9 w1 b n (mlast (pkeys (nds L)) n)) => haveParents_any a n c L b n _ w1 (hl.below hb) hc hcm hm hfn hsh)
    have H6 := hide (fun w1 (hb : Below w.heap.size w w1) => all_any a n c L 52 #[] may w1 (hl.below hb) hc hcm (enters _ Try.func52 (by kernel_rfl) rfl) (mayBe_asks L w1 (hl.below hb).2.1))
    have H7 := hide (fun w1 (hb : Below w.heap.size w w1) => linksAgree_any a n c L w1 (hl.below hb) hc hcm (by omega))
    rw [HD.out] at H4
    rw [HP.out] at H5
    rw [hce] at H3
    obtain ⟨r5, h5⟩ : ∃ r, isDir (nds L) [] = r := ⟨_, rfl⟩
    obtain ⟨r6, h6⟩ : ∃ r, (nds L).all (inDir (nds L)) = r := ⟨_, rfl⟩
    obtain ⟨r7, h7⟩ : ∃ r, (nds L).all may = r := ⟨_, rfl⟩
    obtain ⟨r8, h8⟩ : ∃ r, decide ((nds L).Pairwise Tre.one) = r := ⟨_, rfl⟩
    rw [h5] at H4
    rw [h6] at H5
    rw [h7] at H6
    rw [h8] at H7
    have HE : Hid (check (nds L) = if r5 = false then 4 else if r6 = false then 5 else if r7 = false then 7 else if r8 = false then 8 else 0) := by
     show _ = _
     cases r5 with
     | false => rw [check_root g1 hw0 h3 h4 h5]; rfl
     | true =>
      cases r6 with
      | false => rw [check_parent g1 hw0 h3 h4 h5 h6]; rfl
      | true =>
       cases r7 with
       | false => rw [check_kind g1 hw0 h3 h4 h5 h6 h7]; rfl
       | true =>
        cases r8 with
        | false => rw [check_links g1 hw0 h3 h4 h5 h6 h7 (of_decide_eq_false h8)]; rfl
        | true => rw [check_ok g1 hw0 h3 h4 h5 h6 h7 (of_decide_eq_true h8)]; rfl
    have hnn : ¬ (n : Int) < n := by omega
    clear hl hz h2 h3 hw0 hfine hshort hsh hlen hcnt h4 hcle hce HD HP h5 h6 h7 h8 hfn
    generalize mlast (pkeys (nds L)) n = f at *
    go_enter Try.func43, Try.ntmps43
    go_wp2_with (go_at_call 45; refine H1.out.mono ?_; rintro e w1 ⟨rfl, hb1⟩)
    have HB1 := hide hb1
    clear hb1
    go_wp2_with (go_at_call 46; refine (H2.out _ HB1.out).mono ?_; rintro e w2 ⟨rfl, hb2⟩)
    have HB2 := hide (HB1.out.trans (hb2.mono HB1.out.size))
    clear hb2
    go_wp2_with (go_at_call 48; refine (H3.out _ HB2.out).mono ?_)
    rintro e w3 ⟨b, rfl, hb, hm, hb3⟩
    have HB3 := hide (HB2.out.trans (hb3.mono HB2.out.size))
    have ml := hm.len mapUnder 3
    have HM := hide hm
    clear hb3 hm
    go_wp2_with (go_at_call 49; refine (H4.out _ b HB3.out HM.out).mono ?_)
    rintro e w4 ⟨rfl, hb4⟩
    have HM4 := hide (HM.out.below hb4)
    have HB4 := hide (HB3.out.trans (hb4.mono HB3.out.size))
    clear hb4 ml HM H1 H2 H3 H4
    cases r5 with
    | false =>
     go_wp2
     go_ret
     exact ⟨ret_int (by rw [HE.out]; rfl), HB4.out⟩
    | true =>
    go_wp2_with (go_at_call 50; refine (H5.out _ b HB4.out HM4.out).mono ?_)
    rintro e w5 ⟨rfl, hb5⟩
    have HB5 := hide (HB4.out.trans (hb5.mono HB4.out.size))
    clear hb5 HM4 H5
    cases r6 with
    | false =>
     go_wp2
     go_ret
     exact ⟨ret_int (by rw [HE.out]; rfl), HB5.out⟩
    | true =>
    go_wp2_with (go_at_call 51; refine (H6.out _ HB5.out).mono ?_)
    rintro e w6 ⟨rfl, hb6⟩
    have HB6 := hide (HB5.out.trans (hb6.mono HB5.out.size))
    clear hb6 H6
    cases r7 with
    | false =>
     go_wp2
     go_ret
     exact ⟨ret_int (by rw [HE.out]; rfl), HB6.out⟩
    | true =>
    go_wp2_with (go_at_call 53; refine (H7.out _ HB6.out).mono ?_)
    rintro e w7 ⟨rfl, hb7⟩
    have HB7 := hide (HB6.out.trans (hb7.mono HB6.out.size))
    clear hb7 H7
    cases r8 with
    | false =>
     go_wp2
     go_ret
     exact ⟨ret_int (by rw [HE.out]; rfl), HB7.out⟩
    | true =>
     go_wp2
     go_ret
     exact ⟨ret_int (by rw [HE.out]; rfl), HB7.out⟩
   ·have HE := hide (check_twice g1 hw0 h3 h4)
    have hlt : mcnt (pkeys (nds L)) n < n := by
     have : ¬ mcnt (pkeys (nds L)) n = n := fun e => h4 (hcnt.1 e)
     omega
    generalize mcnt (pkeys (nds L)) n = cn at *
    clear hl hz h2 h3 hw0 hfine hshort hsh hlen hcnt h4
    go_enter Try.func43, Try.ntmps43
    go_wp2_with (go_at_call 45; refine H1.out.mono ?_; rintro e w1 ⟨rfl, hb1⟩)
    have HB1 := hide hb1
    clear hb1
    go_wp2_with (go_at_call 46; refine (H2.out _ HB1.out).mono ?_; rintro e w2 ⟨rfl, hb2⟩)
    have HB2 := hide (HB1.out.trans (hb2.mono HB1.out.size))
    clear hb2
    go_wp2_with (go_at_call 48; refine (H3.out _ HB2.out).mono ?_)
    rintro e w3 ⟨b, rfl, hb, hm, hb3⟩
    have HB3 := hide (HB2.out.trans (hb3.mono HB2.out.size))
    have ml := hm.len mapUnder 3
    clear hb3 hm
    go_wp2
    go_ret
    exact ⟨ret_int HE.out.symm, HB3.out⟩
 ·have HE := hide (check_name g1 (by rw [hz]; exact h2))
  rw [hz] at HE
  have h2' : (z != 0) = true := by simpa using h2
  clear hl hz h2
  go_enter Try.func43, Try.ntmps43
  go_wp2_with (go_at_call 45; refine H1.out.mono ?_; rintro e w1 ⟨rfl, hb1⟩)
  go_ret
  exact ⟨ret_int HE.out.symm, hb1⟩
end Go.Proofs.Ytdobojnokgkbpaa

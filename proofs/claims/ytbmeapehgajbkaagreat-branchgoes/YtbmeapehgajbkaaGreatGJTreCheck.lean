import Derived.Test.YtbmeapehgajbkaaGreatGTrePath
import Derived.Test.YtbmeapehgajbkaaGreatGJTreLinks
import Derived.Test.YtbmeapehgajbkaaGreatGJTreMay
import Derived.Deep.MidRow
set_option linter.unusedVariables false
namespace Go.Proofs.YtbmeapehgajbkaaGreat
open Go.RowKit Go.Maps
open Nam Tre
namespace Tre
def Fine (m : List ByteArray) : Prop := ∀ s ∈ m, valid s.toList = 0
theorem pkey_inj {a b : List ByteArray} (ha : Fine a) (hb : Fine b) (h : pkey a = pkey b) : a = b := by
 have e : join (nm a) = join (nm b) := by simpa [pkey] using h
 refine nm_inj (join_inj ?_ ?_ e)
 ·intro n hn
  simp only [nm, List.mem_map] at hn
  obtain ⟨s, hs, rfl⟩ := hn
  exact ha s hs
 ·intro n hn
  simp only [nm, List.mem_map] at hn
  obtain ⟨s, hs, rfl⟩ := hn
  exact hb s hs
theorem fine_of {l : List Nod} (h : wrong l = 0) : ∀ n ∈ l, Fine n.names := fun n hn => fv_zero _ (wrong_zero l h n hn)
theorem short_of {l : List Nod} (h : wrong l = 0) (d : l.any deep = false) : ∀ n ∈ l, Short n.names := fun n hn => by
 refine ⟨?_, fun s hs => ?_⟩
 ·rw [List.any_eq_false] at d
  have := d n hn
  simp [deep] at this
  exact this
 ·have := (valid_zero (fine_of h n hn s hs)).1
  rw [toList_length] at this
  exact this
theorem nodup_pkeys : ∀ {l : List Nod}, (∀ n ∈ l, Fine n.names) → ((pkeys l).Nodup ↔ (l.map Nod.names).Nodup)
 | [], _ => by simp [pkeys]
 | n :: r, h => by
  have ih := nodup_pkeys (l := r) (fun x hx => h x (by simp [hx]))
  simp only [pkeys, List.map_cons, List.nodup_cons, List.mem_map] at ih ⊢
  rw [ih]
  refine and_congr_left fun _ => not_congr ?_
  constructor
  ·rintro ⟨x, hx, e⟩
   exact ⟨x, hx, pkey_inj (h x (by simp [hx])) (h n (by simp)) e⟩
  ·rintro ⟨x, hx, e⟩
   exact ⟨x, hx, by rw [e]⟩
theorem find_names : ∀ {l : List Nod} {m : List ByteArray} {j : Nat} (h : j < l.length), (l.map Nod.names).Nodup → l[j].names = m → l.find? (fun n => decide (n.names = m)) = some l[j]
 | n :: r, m, 0, h, hn, e => by rw [List.find?_cons]; simp at e; simp [e]
 | n :: r, m, j + 1, h, hn, e => by
  simp only [List.map_cons, List.nodup_cons, List.mem_map] at hn
  simp only [List.getElem_cons_succ] at e
  have hne : ¬ n.names = m := fun k => hn.1 ⟨r[j]'(by simpa using h), List.getElem_mem _, by rw [e, k]⟩
  rw [List.find?_cons]
  simp only [hne, decide_false]
  exact find_names (by simpa using h) hn.2 e
end Tre
theorem nds_get (L : List (Nv × Nod)) (j : Nat) (h : j < L.length) : (nds L)[j]'(by rw [nds_length]; exact h) = (gl L j).2 := by rw [gl_lt L j h]; simp [nds]
theorem dirM_isDir (L : List (Nv × Nod)) (n : Nat) (hn : L.length = n) (hf : ∀ x ∈ nds L, Fine x.names) (hnd : ((nds L).map Nod.names).Nodup) (m : List ByteArray) (hm : Fine m) : dirM L (mlast (pkeys (nds L)) n) m = isDir (nds L) m := by
 have hlen : (pkeys (nds L)).length = n := by rw [pkeys_length, nds_length, hn]
 unfold dirM isDir
 cases h : mlast (pkeys (nds L)) n (pkey m) with
 | some j =>
  obtain ⟨hj, hjk⟩ := mlast_some (pkeys_lit _) n (by omega) _ _ h
  have hjl : j < (nds L).length := by rw [nds_length, hn]; exact hj
  have hk : pkey ((nds L)[j]).names = pkey m := by
   rw [pkeys, List.getElem?_map, List.getElem?_eq_getElem hjl] at hjk
   simpa using hjk
  have e := pkey_inj (hf _ (List.getElem_mem hjl)) hm hk
  rw [find_names hjl hnd e, nds_get L j (by omega)]
 | none =>
  have hnone : (nds L).find? (fun n => decide (n.names = m)) = none := by
   rw [List.find?_eq_none]
   intro x hx
   simp only [decide_eq_true_eq]
   intro e
   have hmem : pkey m ∈ (pkeys (nds L)).take n := by
    rw [List.take_of_length_le (by omega)]
    exact List.mem_map.2 ⟨x, hx, by rw [e]⟩
   have := (mlast_mem (pkeys_lit _) n (by omega) (pkey m)).2 hmem
   rw [h] at this
   cases this
  rw [hnone]
theorem parM_inDir (L : List (Nv × Nod)) (n : Nat) (hn : L.length = n) (hf : ∀ x ∈ nds L, Fine x.names) (hnd : ((nds L).map Nod.names).Nodup) : (nds L).all (parM L (mlast (pkeys (nds L)) n)) = (nds L).all (inDir (nds L)) := by
 rw [Bool.eq_iff_iff, List.all_eq_true, List.all_eq_true]
 refine forall_congr' fun x => forall_congr' fun hx => ?_
 rw [parM, inDir, dirM_isDir L n hn hf hnd _ (fun s hs => hf x hx s (List.dropLast_subset _ hs))]
theorem nds_mem {L : List (Nv × Nod)} {p : Nv × Nod} (h : p ∈ L) : p.2 ∈ nds L := List.mem_map.2 ⟨p, h, rfl⟩
theorem isDeep_asks (L : List (Nv × Nod)) (w : World) (h : ∀ p ∈ L, Rep w p.1 p.2) : Asks 53 #[] deep L w := fun q hq w1 hb => isDeep_any q.1 q.2 w1 ((h q hq).below hb)
theorem mayBe_asks (L : List (Nv × Nod)) (w : World) (h : ∀ p ∈ L, Rep w p.1 p.2) : Asks 58 #[] may L w := fun q hq w1 hb => mayBe_any q.1 q.2 w1 ((h q hq).below hb)
set_option maxRecDepth 100000 in
theorem Check_any (a : Option Addr) (n c : Nat) (L : List (Nv × Nod)) (w : World) (hl : Ns w a n L) (hc : n ≤ c) (hcm : c ≤ 9223372036854775807) :
  Calls Tryz.prog 36 #[.slice a n c] w fun e w' => e = .returned (.int .i64 (check (nds L))) ∧ Below w.heap.size w w' := by
 have hln : (nds L).length = n := by rw [nds_length]; exact hl.1
 by_cases h1 : 1024 < n
 ·have h1' : (1024 : Int) < n := by omega
  have HE := hide (check_big (l := nds L) (by omega))
  clear hl
  go_enter Tryz.func36, Tryz.ntmps36
  go_wp2
  go_ret
  exact ⟨ret_int HE.out.symm, Below.refl _ _⟩
 have h1' : ¬ (1024 : Int) < n := by omega
 have g1 : ¬ 1024 < (nds L).length := by omega
 have HL := hide hl
 obtain ⟨z, hz⟩ : ∃ z, wrong (nds L) = z := ⟨_, rfl⟩
 have H1 := hide (wrongName_any a n c L w hl hc hcm)
 rw [hz] at H1
 by_cases h2 : z = 0
 ·have hw0 : wrong (nds L) = 0 := hz.trans h2
  have H2 := hide (fun w1 (hb : Below w.heap.size w w1) => ContainsFunc_any a n c L 53 #[] deep w1 (hl.below hb) hc hcm (enters _ Tryz.func53 (by kernel_rfl) rfl) (isDeep_asks L w1 (hl.below hb).2.1))
  cases h3 : (nds L).any deep with
  | true =>
   have HE := hide (check_deep g1 hw0 h3)
   rw [h3] at H2
   have h2' : (z != 0) = false := by simp [h2]
   clear hl hz h2 h3 hw0
   go_enter Tryz.func36, Tryz.ntmps36
   go_wp2_with (go_at_call 51; refine H1.out.mono ?_; rintro e w1 ⟨rfl, hb1⟩)
   go_wp2_with (go_at_call 52; refine (H2.out _ hb1).mono ?_; rintro e w2 ⟨rfl, hb2⟩)
   go_ret
   exact ⟨ret_int HE.out.symm, hb1.trans (hb2.mono hb1.size)⟩
  | false =>
   have hfine := fine_of hw0
   have hshort := short_of hw0 h3
   have hsh : ∀ p ∈ L, Short p.2.names := fun p hp => hshort _ (nds_mem hp)
   rw [h3] at H2
   have H3 := hide (fun w1 (hb : Below w.heap.size w w1) => byPath_any a n c L w1 (hl.below hb) hc hcm (by omega) hsh)
   have h2' : (z != 0) = false := by simp [h2]
   have hlen : (pkeys (nds L)).length = n := by rw [pkeys_length, nds_length]; exact hl.1
   have hcnt := mcnt_nodup (pkeys_lit (nds L)) n (by omega)
   rw [List.take_of_length_le (by omega), nodup_pkeys hfine] at hcnt
   have hcle := mcnt_le (ks := pkeys (nds L)) n
   by_cases h4 : ((nds L).map Nod.names).Nodup
   ·have hce : mcnt (pkeys (nds L)) n = n := hcnt.2 h4
    have hfn : ∀ k j, mlast (pkeys (nds L)) n k = some j → j < n := fun k j h => (mlast_some (pkeys_lit _) n (by omega) k j h).1
    have HD := hide (dirM_isDir L n hl.1 hfine h4 [] (fun s hs => by simp at hs))
    have HP := hide (parM_inDir L n hl.1 hfine h4)
    have H4 := hide (fun w1 b (hb : Below w.heap.size w w1) (hm : MpK 9 w1 b n (mlast (pkeys (nds L)) n)) => isDir_any a n c L b n _ none 0 0 [] w1 (hl.below hb) hc hcm hm hfn (Rs.nil _ _) ⟨by simp, fun s hs => by simp at hs⟩)
    have H5 := hide (fun w1 b (hb : Below w.heap.size w w1) (hm : MpK 9 w1 b n (mlast (pkeys (nds L)) n)) => haveParents_any a n c L b n _ w1 (hl.below hb) hc hcm hm hfn hsh)
    have H6 := hide (fun w1 (hb : Below w.heap.size w w1) => all_any a n c L 58 #[] may w1 (hl.below hb) hc hcm (enters _ Tryz.func58 (by kernel_rfl) rfl) (mayBe_asks L w1 (hl.below hb).2.1))
    have H7 := hide (fun w1 (hb : Below w.heap.size w w1) => linksAgree_any a n c L w1 (hl.below hb) hc hcm (by omega))
    rw [HD.out] at H4
    rw [HP.out] at H5
    rw [hce] at H3
    obtain ⟨r5, h5⟩ : ∃ r, isDir (nds L) [] = r := ⟨_, rfl⟩
    obtain ⟨r6, h6⟩ : ∃ r, (nds L).all (inDir (nds L)) = r := ⟨_, rfl⟩
    obtain ⟨r7, h7⟩ : ∃ r, (nds L).all may = r := ⟨_, rfl⟩
    obtain ⟨r8, h8⟩ : ∃ r, decide ((nds L).Pairwise Tre.one) = r := ⟨_, rfl⟩
    rw [h5] at H4
    rw [h6] at H5
    rw [h7] at H6
    rw [h8] at H7
    have HE : Hid (check (nds L) = if r5 = false then 4 else if r6 = false then 5 else if r7 = false then 7 else if r8 = false then 8 else 0) := by
     show _ = _
     cases r5 with
     | false => rw [check_root g1 hw0 h3 h4 h5]; rfl
     | true =>
      cases r6 with
      | false => rw [check_parent g1 hw0 h3 h4 h5 h6]; rfl
      | true =>
       cases r7 with
       | false => rw [check_kind g1 hw0 h3 h4 h5 h6 h7]; rfl
       | true =>
        cases r8 with
        | false => rw [check_links g1 hw0 h3 h4 h5 h6 h7 (of_decide_eq_false h8)]; rfl
        | true => rw [check_ok g1 hw0 h3 h4 h5 h6 h7 (of_decide_eq_true h8)]; rfl
    have hnn : ¬ (n : Int) < n := by omega
    clear hl hz h2 h3 hw0 hfine hshort hsh hlen hcnt h4 hcle hce HD HP h5 h6 h7 h8 hfn
    generalize mlast (pkeys (nds L)) n = f at *
    go_enter Tryz.func36, Tryz.ntmps36
    go_wp2_with (go_at_call 51; refine H1.out.mono ?_; rintro e w1 ⟨rfl, hb1⟩)
    have HB1 := hide hb1
    clear hb1
    go_wp2_with (go_at_call 52; refine (H2.out _ HB1.out).mono ?_; rintro e w2 ⟨rfl, hb2⟩)
    have HB2 := hide (HB1.out.trans (hb2.mono HB1.out.size))
    clear hb2
    go_wp2_with (go_at_call 54; refine (H3.out _ HB2.out).mono ?_)
    rintro e w3 ⟨b, rfl, hb, hm, hb3⟩
    have HB3 := hide (HB2.out.trans (hb3.mono HB2.out.size))
    have ml := hm.len mapUnder 3
    have HM := hide hm
    clear hb3 hm
    go_wp2_with (go_at_call 55; refine (H4.out _ b HB3.out HM.out).mono ?_)
    rintro e w4 ⟨rfl, hb4⟩
    have HM4 := hide (HM.out.below hb4)
    have HB4 := hide (HB3.out.trans (hb4.mono HB3.out.size))
    clear hb4 ml HM H1 H2 H3 H4
    cases r5 with
    | false =>
     go_wp2
     go_ret
     exact ⟨ret_int (by rw [HE.out]; rfl), HB4.out⟩
    | true =>
    go_wp2_with (go_at_call 56; refine (H5.out _ b HB4.out HM4.out).mono ?_)
    rintro e w5 ⟨rfl, hb5⟩
    have HB5 := hide (HB4.out.trans (hb5.mono HB4.out.size))
    clear hb5 HM4 H5
    cases r6 with
    | false =>
     go_wp2
     go_ret
     exact ⟨ret_int (by rw [HE.out]; rfl), HB5.out⟩
    | true =>
    go_wp2_with (go_at_call 57; refine (H6.out _ HB5.out).mono ?_)
    rintro e w6 ⟨rfl, hb6⟩
    have HB6 := hide (HB5.out.trans (hb6.mono HB5.out.size))
    clear hb6 H6
    cases r7 with
    | false =>
     go_wp2
     go_ret
     exact ⟨ret_int (by rw [HE.out]; rfl), HB6.out⟩
    | true =>
    go_wp2_with (go_at_call 59; refine (H7.out _ HB6.out).mono ?_)
    rintro e w7 ⟨rfl, hb7⟩
    have HB7 := hide (HB6.out.trans (hb7.mono HB6.out.size))
    clear hb7 H7
    cases r8 with
    | false =>
     go_wp2
     go_ret
     exact ⟨ret_int (by rw [HE.out]; rfl), HB7.out⟩
    | true =>
     go_wp2
     go_ret
     exact ⟨ret_int (by rw [HE.out]; rfl), HB7.out⟩
   ·have HE := hide (check_twice g1 hw0 h3 h4)
    have hlt : mcnt (pkeys (nds L)) n < n := by
     have : ¬ mcnt (pkeys (nds L)) n = n := fun e => h4 (hcnt.1 e)
     omega
    generalize mcnt (pkeys (nds L)) n = cn at *
    clear hl hz h2 h3 hw0 hfine hshort hsh hlen hcnt h4
    go_enter Tryz.func36, Tryz.ntmps36
    go_wp2_with (go_at_call 51; refine H1.out.mono ?_; rintro e w1 ⟨rfl, hb1⟩)
    have HB1 := hide hb1
    clear hb1
    go_wp2_with (go_at_call 52; refine (H2.out _ HB1.out).mono ?_; rintro e w2 ⟨rfl, hb2⟩)
    have HB2 := hide (HB1.out.trans (hb2.mono HB1.out.size))
    clear hb2
    go_wp2_with (go_at_call 54; refine (H3.out _ HB2.out).mono ?_)
    rintro e w3 ⟨b, rfl, hb, hm, hb3⟩
    have HB3 := hide (HB2.out.trans (hb3.mono HB2.out.size))
    have ml := hm.len mapUnder 3
    clear hb3 hm
    go_wp2
    go_ret
    exact ⟨ret_int HE.out.symm, HB3.out⟩
 ·have HE := hide (check_name g1 (by rw [hz]; exact h2))
  rw [hz] at HE
  have h2' : (z != 0) = true := by simpa using h2
  clear hl hz h2
  go_enter Tryz.func36, Tryz.ntmps36
  go_wp2_with (go_at_call 51; refine H1.out.mono ?_; rintro e w1 ⟨rfl, hb1⟩)
  go_ret
  exact ⟨ret_int HE.out.symm, hb1⟩
end Go.Proofs.YtbmeapehgajbkaaGreat
namespace Go.Proofs.YtbmeapehgajbkaaGreat
open Go.RowKit Go.Maps
open Nam Tre Mrg Brn
def whV : Nv := ⟨none, 0, 0, 0, 4, 0, 0, 0, none, 0, 0, ⟨#[]⟩, none, 0, 0, false⟩
def whN : Nod := ⟨[], 0, 4, 0, 0, 0, [], ⟨#[]⟩, [], false⟩
theorem bs_zero (w : World) (ao : Option Addr) : Bs w ao 0 [] := ⟨rfl, fun i => by simp [Lz.g], .inl rfl⟩
theorem whRep (w : World) : Rep w whV whN where
 names := Rs.nil _ _
 nc := Nat.le_refl _
 ncm := (by decide : (0 : Nat) ≤ 9223372036854775807)
 nnil := fun _ => rfl
 ino := rfl
 in64 := (by decide : (Lit.int .i64 0).wf = true)
 kind := rfl
 mode := rfl
 uid := rfl
 gid := rfl
 data := bs_zero _ _
 dc := Nat.le_refl _
 dcm := (by decide : (0 : Nat) ≤ 9223372036854775807)
 dnil := fun _ => rfl
 tg := rfl
 tgm := (by decide : (0 : Nat) ≤ 9223372036854775807)
 xs := XsR.nil _ _
 xc := Nat.le_refl _
 xcm := (by decide : (0 : Nat) ≤ 9223372036854775807)
 xnil := fun _ => rfl
 op := rfl
def standV (v : Nv) (n : Nod) : Nv := if isW n = true then { v with kind := 2 } else if v.kind = 1 then { v with op := false } else v
theorem rep_stand {w : World} {v : Nv} {n : Nod} (h : Rep w v n) : Rep w (standV v n) (stand n) := by
 unfold standV stand
 by_cases hw : isW n = true
 ·rw [if_pos hw, if_pos hw]
  exact { h with kind := rfl }
 ·rw [if_neg hw, if_neg hw]
  by_cases h1 : v.kind = 1
  ·rw [if_pos h1, if_pos (h.kind.trans h1)]
   exact { h with op := rfl }
  ·rw [if_neg h1, if_neg (fun e => h1 (h.kind.symm.trans e))]; exact h
theorem nbox {W : World} {b : Nat} {v : Nv} {t : TypeId} (h : W.heap[b]? = some (.cells v.cells t (0, 0))) : W.cell? ⟨b, 0, none⟩ = some (.slice v.na v.nn v.nc) ∧ W.cell? ⟨b, 1, none⟩ = some (.int .i64 v.ino) ∧ W.cell? ⟨b, 2, none⟩ = some (.int .i64 v.kind) ∧ W.cell? ⟨b, 3, none⟩ = some (.int .i64 v.mode) ∧ W.cell? ⟨b, 4, none⟩ = some (.int .i64 v.uid) ∧ W.cell? ⟨b, 5, none⟩ = some (.int .i64 v.gid) ∧ W.cell? ⟨b, 6, none⟩ = some (.slice v.da v.dn v.dc) ∧ W.cell? ⟨b, 7, none⟩ = some (.string v.tg) ∧ W.cell? ⟨b, 8, none⟩ = some (.slice v.xa v.xn v.xc) ∧ W.cell? ⟨b, 9, none⟩ = some (.bool v.op) ∧ (∀ j, W.frozen? ⟨b, j, none⟩ = false) := by
 simp [World.cell?, World.frozen?, h, Nv.cells]
theorem cbox {W : World} {b : Nat} {x0 x1 x2 x3 x4 x5 x6 x7 x8 x9 : Value} {t : TypeId} (h : W.heap[b]? = some (.cells #[x0, x1, x2, x3, x4, x5, x6, x7, x8, x9] t (0, 0))) : W.cell? ⟨b, 0, none⟩ = some x0 ∧ W.cell? ⟨b, 1, none⟩ = some x1 ∧ W.cell? ⟨b, 2, none⟩ = some x2 ∧ W.cell? ⟨b, 3, none⟩ = some x3 ∧ W.cell? ⟨b, 4, none⟩ = some x4 ∧ W.cell? ⟨b, 5, none⟩ = some x5 ∧ W.cell? ⟨b, 6, none⟩ = some x6 ∧ W.cell? ⟨b, 7, none⟩ = some x7 ∧ W.cell? ⟨b, 8, none⟩ = some x8 ∧ W.cell? ⟨b, 9, none⟩ = some x9 ∧ (∀ j, W.frozen? ⟨b, j, none⟩ = false) := by
 simp [World.cell?, World.frozen?, h]
theorem results_box {fn : Func} {p : Tmp} {ty : TypeId} (h : fn.results = #[.cell p ty]) (tmps : Array Value) (w : World) (g : Nat) (cs : Array Value)
  (hp : tmps.getD p undef = .pointer (some ⟨g, 0, none⟩)) (hr : (loadVar ty ⟨g, 0, none⟩).run Tryz.prog w = .ok (.agg cs) w) :
  (results fn tmps).run Tryz.prog w = .ok (.agg cs) w := by
 have hp' : tmps[p]?.getD undef = .pointer (some ⟨g, 0, none⟩) := by simpa using hp
 simp [results, h, hp', asAddr, hr]
theorem infoNod : (Tryz.prog.info? 44).map (fun i => i.size) = some 10 := by kernel_rfl
theorem load_nod {w : World} {b : Nat} {t : TypeId} {cs : Array Value} {fr : Nat × Nat} (h : w.heap[b]? = some (.cells cs t fr)) (hs : cs.size = 10) : (loadVar 44 ⟨b, 0, none⟩).run Tryz.prog w = .ok (.agg cs) w :=
 run_loadVar_row w b t 44 cs fr _ h Tryz.underlying44 rfl (by rw [hs]; exact infoNod)
theorem setb {w : World} {b i : Nat} {cs cs2 : Array Value} {t : TypeId} (h : w.heap[b]? = some (.cells cs t (0, 0))) (v : Value) (e : cs.setIfInBounds i v = cs2) : (w.setCell ⟨b, i, none⟩ v).heap[b]? = some (.cells cs2 t (0, 0)) := by
 rw [heap_setCell_self h, e]
theorem set10 {w : World} {b : Nat} {x0 x1 x2 x3 x4 x5 x6 x7 x8 x9 : Value} {t : TypeId} (h : w.heap[b]? = some (.cells #[x0, x1, x2, x3, x4, x5, x6, x7, x8, x9] t (0, 0))) (y0 y1 y2 y3 y4 y5 y6 y7 y8 y9 : Value) :
  ((((((((((w.setCell ⟨b, 0, none⟩ y0).setCell ⟨b, 1, none⟩ y1).setCell ⟨b, 2, none⟩ y2).setCell ⟨b, 3, none⟩ y3).setCell ⟨b, 4, none⟩ y4).setCell ⟨b, 5, none⟩ y5).setCell ⟨b, 6, none⟩ y6).setCell ⟨b, 7, none⟩ y7).setCell ⟨b, 8, none⟩ y8).setCell ⟨b, 9, none⟩ y9).heap[b]? = some (.cells #[y0, y1, y2, y3, y4, y5, y6, y7, y8, y9] t (0, 0)) := by
 have h0 := setb (i := 0) h y0 (cs2 := #[y0, x1, x2, x3, x4, x5, x6, x7, x8, x9]) rfl
 have h1 := setb (i := 1) h0 y1 (cs2 := #[y0, y1, x2, x3, x4, x5, x6, x7, x8, x9]) rfl
 have h2 := setb (i := 2) h1 y2 (cs2 := #[y0, y1, y2, x3, x4, x5, x6, x7, x8, x9]) rfl
 have h3 := setb (i := 3) h2 y3 (cs2 := #[y0, y1, y2, y3, x4, x5, x6, x7, x8, x9]) rfl
 have h4 := setb (i := 4) h3 y4 (cs2 := #[y0, y1, y2, y3, y4, x5, x6, x7, x8, x9]) rfl
 have h5 := setb (i := 5) h4 y5 (cs2 := #[y0, y1, y2, y3, y4, y5, x6, x7, x8, x9]) rfl
 have h6 := setb (i := 6) h5 y6 (cs2 := #[y0, y1, y2, y3, y4, y5, y6, x7, x8, x9]) rfl
 have h7 := setb (i := 7) h6 y7 (cs2 := #[y0, y1, y2, y3, y4, y5, y6, y7, x8, x9]) rfl
 have h8 := setb (i := 8) h7 y8 (cs2 := #[y0, y1, y2, y3, y4, y5, y6, y7, y8, x9]) rfl
 have h9 := setb (i := 9) h8 y9 (cs2 := #[y0, y1, y2, y3, y4, y5, y6, y7, y8, y9]) rfl
 exact h9
theorem bel10 {W w : World} {b : Nat} (h : Below W.heap.size W w) (hb : W.heap.size ≤ b) (y0 y1 y2 y3 y4 y5 y6 y7 y8 y9 : Value) :
  Below W.heap.size W ((((((((((w.setCell ⟨b, 0, none⟩ y0).setCell ⟨b, 1, none⟩ y1).setCell ⟨b, 2, none⟩ y2).setCell ⟨b, 3, none⟩ y3).setCell ⟨b, 4, none⟩ y4).setCell ⟨b, 5, none⟩ y5).setCell ⟨b, 6, none⟩ y6).setCell ⟨b, 7, none⟩ y7).setCell ⟨b, 8, none⟩ y8).setCell ⟨b, 9, none⟩ y9) :=
 (((((((((h.setCell hb _).setCell hb _).setCell hb _).setCell hb _).setCell hb _).setCell hb _).setCell hb _).setCell hb _).setCell hb _).setCell hb _
set_option maxRecDepth 100000 in
theorem standIn_any (v : Nv) (n : Nod) (w : World) (h : Rep w v n) :
  Calls Tryz.prog 35 #[.agg v.cells] w fun e w' => e = .returned (.agg (standV v n).cells) ∧ Below w.heap.size w w' := by
 have HR := hide h
 have HA := fun W (hb : Below w.heap.size w W) => Alike_any v whV n whN W (h.below hb) (whRep W)
 rw [show alike n whN = isW n from rfl] at HA
 have HA := hide HA
 obtain ⟨z, hz⟩ : ∃ z, isW n = z := ⟨_, rfl⟩
 rw [hz] at HA
 clear h
 obtain ⟨W0, hW0⟩ : ∃ W0, W0 = (w.alloc (.cells v.cells 44)).alloc (.cells #[.slice none 0 0, .int .i64 0, .int .i64 0, .int .i64 0, .int .i64 0, .int .i64 0, .slice none 0 0, .string ⟨#[]⟩, .slice none 0 0, .bool false] 44) := ⟨_, rfl⟩
 have HX : Hid (∀ W, Below W0.heap.size W0 W → W.heap[w.heap.size]? = some (.cells v.cells 44 (0, 0)) ∧ W.heap[w.heap.size + 1]? = some (.cells #[.slice none 0 0, .int .i64 0, .int .i64 0, .int .i64 0, .int .i64 0, .int .i64 0, .slice none 0 0, .string ⟨#[]⟩, .slice none 0 0, .bool false] 44 (0, 0)) ∧ Below w.heap.size w W) := fun W hb => by
  have h1 : W0.heap.size = w.heap.size + 2 := by rw [hW0]; simp
  have h2 : W0.heap[w.heap.size]? = some (.cells v.cells 44 (0, 0)) := by rw [hW0]; exact (Below.heap_alloc _ _ _ (by simp)).trans (heap_new rfl)
  have h3 : W0.heap[w.heap.size + 1]? = some (.cells #[.slice none 0 0, .int .i64 0, .int .i64 0, .int .i64 0, .int .i64 0, .int .i64 0, .slice none 0 0, .string ⟨#[]⟩, .slice none 0 0, .bool false] 44 (0, 0)) := by rw [hW0]; exact heap_new (by simp)
  have h4 : Below w.heap.size w W0 := by rw [hW0]; exact below_alloc2 w _ _
  exact ⟨(hb.block _ (by omega)).trans h2, (hb.block _ (by omega)).trans h3, h4.trans (hb.mono h4.size)⟩
 unfold standV
 rw [hz]
 clear hz
 simp only [whV] at HA
 unfold Nv.cells at *
 cases z with
 | true =>
  go_enter Tryz.func35, Tryz.ntmps35
  go_wp2_with (go_at_call 50; rw [← hW0]; refine (HA.out _ (HX.out _ (Below.refl _ _)).2.2).mono ?_; rintro e w1 ⟨rfl, hb1⟩; have HX1 := hide (HX.out w1 hb1); obtain ⟨c0, c1, c2, c3, c4, c5, c6, c7, c8, c9, fz⟩ := cbox HX1.out.1; obtain ⟨d0, d1, d2, d3, d4, d5, d6, d7, d8, d9, fy⟩ := cbox HX1.out.2.1; clear hb1)
  refine bodyPost_ret (results_box (p := 2) rfl _ _ (w.heap.size + 1) _ rfl (load_nod (set10 ((Below.heap_setCell _ _ _ _ (by simp)).trans HX1.out.2.1) _ _ _ _ _ _ _ _ _ _) rfl)) rfl ⟨rfl, bel10 (HX1.out.2.2.setCell (Nat.le_refl _) _) (by omega) _ _ _ _ _ _ _ _ _ _⟩
 | false =>
  by_cases hk : v.kind = 1
  ·have hk1 : (v.kind == 1) = true := by simpa using hk
   rw [if_neg (by simp), if_pos hk]
   clear hk
   go_enter Tryz.func35, Tryz.ntmps35
   go_wp2_with (go_at_call 50; rw [← hW0]; refine (HA.out _ (HX.out _ (Below.refl _ _)).2.2).mono ?_; rintro e w1 ⟨rfl, hb1⟩; have HX1 := hide (HX.out w1 hb1); obtain ⟨c0, c1, c2, c3, c4, c5, c6, c7, c8, c9, fz⟩ := cbox HX1.out.1; obtain ⟨d0, d1, d2, d3, d4, d5, d6, d7, d8, d9, fy⟩ := cbox HX1.out.2.1; clear hb1)
   refine bodyPost_ret (results_box (p := 2) rfl _ _ (w.heap.size + 1) _ rfl (load_nod (set10 ((Below.heap_setCell _ _ _ _ (by simp)).trans HX1.out.2.1) _ _ _ _ _ _ _ _ _ _) rfl)) rfl ⟨rfl, bel10 (HX1.out.2.2.setCell (Nat.le_refl _) _) (by omega) _ _ _ _ _ _ _ _ _ _⟩
  ·have hk1 : (v.kind == 1) = false := by simpa using hk
   rw [if_neg (by simp), if_neg hk]
   clear hk
   go_enter Tryz.func35, Tryz.ntmps35
   go_wp2_with (go_at_call 50; rw [← hW0]; refine (HA.out _ (HX.out _ (Below.refl _ _)).2.2).mono ?_; rintro e w1 ⟨rfl, hb1⟩; have HX1 := hide (HX.out w1 hb1); obtain ⟨c0, c1, c2, c3, c4, c5, c6, c7, c8, c9, fz⟩ := cbox HX1.out.1; obtain ⟨d0, d1, d2, d3, d4, d5, d6, d7, d8, d9, fy⟩ := cbox HX1.out.2.1; clear hb1)
   refine bodyPost_ret (results_box (p := 2) rfl _ _ (w.heap.size + 1) _ rfl (load_nod (set10 HX1.out.2.1 _ _ _ _ _ _ _ _ _ _) rfl)) rfl ⟨rfl, bel10 HX1.out.2.2 (by omega) _ _ _ _ _ _ _ _ _ _⟩
end Go.Proofs.YtbmeapehgajbkaaGreat
namespace Go.Proofs.YtbmeapehgajbkaaGreat
open Go.RowKit Go.Maps
open Nam Tre Mrg Brn
def stL (L : List (Nv × Nod)) : List (Nv × Nod) := L.map (fun p => (standV p.1 p.2, stand p.2))
theorem stL_nds (L : List (Nv × Nod)) : nds (stL L) = (nds L).map stand := by simp [stL, nds, List.map_map, Function.comp_def]
theorem stL_rep {w : World} {L : List (Nv × Nod)} (h : ∀ p ∈ L, Rep w p.1 p.2) : ∀ p ∈ stL L, Rep w p.1 p.2 := by
 intro p hp
 obtain ⟨q, hq, rfl⟩ := List.mem_map.1 hp
 exact rep_stand (h q hq)
def setL (xs : List Value) : Nat → List Value → List Value
 | _, [] => xs
 | o, v :: r => setL (xs.set o v) (o + 1) r
theorem setL_take : ∀ (vs : List Value) (xs : List Value) (o : Nat), o + vs.length ≤ xs.length → (setL xs o vs).take (o + vs.length) = xs.take o ++ vs
 | [], xs, o, _ => by simp [setL]
 | v :: r, xs, o, h => by
  simp only [List.length_cons] at h
  have e : o + (v :: r).length = o + 1 + r.length := by simp only [List.length_cons]; omega
  rw [setL, e, setL_take r _ (o + 1) (by simp; omega), List.take_succ_eq_append_getElem (by simp; omega)]
  rw [List.take_set, List.set_eq_of_length_le (by simp; omega)]
  simp
theorem owns_setCells {B b n cap : Nat} {e : TypeId} {size : Nat} : ∀ (vs : List Value) (w : World) (xs : List Value) (o : Nat), w.ownsRow B e size (.slice (some ⟨b, 0, none⟩) n cap) n xs →
  (w.setCells b o vs).ownsRow B e size (.slice (some ⟨b, 0, none⟩) n cap) n (setL xs o vs)
 | [], _, _, _, h => h
 | v :: r, w, xs, o, h => owns_setCells r _ _ (o + 1) (h.stored o v).1
theorem bel_setCells {B b : Nat} {W : World} (hb : B ≤ b) : ∀ (vs : List Value) (o : Nat) (w : World), Below B W w → Below B W (w.setCells b o vs)
 | [], _, _, h => h
 | v :: r, o, w, h => bel_setCells hb r (o + 1) _ (h.setCell hb v)
theorem cells_one (v : Nv) : v.cells.all (·.oneCell') = true := all_oneCell_toArray (cs := v.cells.toList) (by
 intro x hx
 simp only [Nv.cells, List.mem_cons, List.not_mem_nil, or_false] at hx
 rcases hx with rfl | rfl | rfl | rfl | rfl | rfl | rfl | rfl | rfl | rfl <;> rfl)
theorem info_nod : ∃ i, Tryz.prog.info? 44 = some i ∧ (∃ z, i.zero = some z) ∧ i.size = 10 ∧ i.bytes ≤ 1000 := by
 have h : (Tryz.prog.info? 44).map (fun i => (i.zero.isSome, i.size, decide (i.bytes ≤ 1000))) = some (true, 10, true) := by kernel_rfl
 cases hq : Tryz.prog.info? 44 with
 | none => rw [hq] at h; cases h
 | some i =>
  rw [hq] at h
  simp only [Option.map_some, Option.some.injEq, Prod.mk.injEq, decide_eq_true_eq] at h
  exact ⟨i, rfl, Option.isSome_iff_exists.1 h.1, h.2.1, h.2.2⟩
theorem make_nodes (n : Nat) (hn : n ≤ 100000) : ∃ M : Array Value, M.size = n * 10 ∧ ∀ W : World, (Instr.makeSlice 22 (.int .i64 (n : Int)) (.int .i64 (n : Int))).run Tryz.prog W = .ok (.slice (some ⟨W.heap.size, 0, none⟩) n n) (W.alloc (.cells M 44)) := by
 obtain ⟨i0, hi, ⟨z, hz⟩, hz1, hz2⟩ := info_nod
 refine ⟨madeCells z.cells (((n : Nat) : Int).toNat * i0.size), by rw [size_madeCells, hz1]; simp, fun W => ?_⟩
 have hb : i0.bytes * n ≤ 1000 * 100000 := Nat.mul_le_mul hz2 hn
 have h := run_make (P := Tryz.prog) W 22 44 i0 z Tryz.underlying22 hi hz .i64 .i64 (n : Int) (n : Int) (by omega) (by omega) (by rw [← Int.natCast_mul]; omega) (by omega)
 simpa using h
theorem row_nodes {W : World} {M : Array Value} {n B : Nat} (hM : M.size = n * 10) (hn : n ≤ 100000) (hB : B ≤ W.heap.size) : (W.alloc (.cells M 44)).ownsRow B 44 10 (.slice (some ⟨W.heap.size, 0, none⟩) n n) n M.toList :=
 ⟨by simp [hM], .inr ⟨W.heap.size, n, M, rfl, hB, heap_alloc_new W _, Nat.le_refl _, by unfold maxLen; omega, by simp [hM], by rw [List.take_of_length_le (by simp [hM])]⟩⟩
theorem nvs_take (V : List Nv) (i : Nat) (h : i < V.length) : nvs (V.take (i + 1)) = nvs (V.take i) ++ V[i].cells.toList := by
 rw [List.take_succ_eq_append_getElem h, nvs_append]; simp [nvs]
def Laid (B b n : Nat) (V : List Nv) (i : Nat) (W : World) : Prop := ∃ xs, W.ownsRow B 44 10 (.slice (some ⟨b, 0, none⟩) n n) n xs ∧ xs.take (i * 10) = nvs (V.take i)
theorem Laid.there {B b n i : Nat} {V : List Nv} {W : World} (h : Laid B b n V i W) (hi : i < n) : ∀ j, j < 10 → (∃ u, W.cell? ⟨b, i * 10 + j, none⟩ = some u) ∧ W.frozen? ⟨b, i * 10 + j, none⟩ = false := fun j hj => by
 obtain ⟨xs, ho, hx⟩ := h
 have hxl : xs.length = n * 10 := ho.1
 refine ⟨⟨xs[i * 10 + j]'(by omega), ?_⟩, ho.frozenAt _⟩
 rw [ho.cellAt _ (by omega), List.getElem?_eq_getElem]
theorem Laid.put {B b n i : Nat} {V : List Nv} {W : World} (h : Laid B b n V i W) (hi : i < n) (hV : V.length = n) {v : Nv} (hv : V[i]'(by omega) = v) : Laid B b n V (i + 1) (W.setCells b (i * 10) v.cells.toList) := by
 obtain ⟨xs, ho, hx⟩ := h
 have hxl : xs.length = n * 10 := ho.1
 refine ⟨_, owns_setCells v.cells.toList W xs (i * 10) ho, ?_⟩
 have := setL_take v.cells.toList xs (i * 10) (by rw [cells_length]; omega)
 rw [cells_length] at this
 rw [show (i + 1) * 10 = i * 10 + 10 from by omega, this, hx, nvs_take V i (by omega), hv]
theorem Laid.below {B b n i : Nat} {V : List Nv} {W W' : World} (h : Laid B b n V i W) (hb : Below W.heap.size W W') : Laid B b n V i W' := by
 obtain ⟨xs, ho, hx⟩ := h
 exact ⟨xs, ho.kept (row := none) ⟨hb.os, hb.tape, hb.output, hb.size, fun k hk _ => hb.block k hk⟩ (.inr (by simp [Value.ownBlock])), hx⟩
set_option maxRecDepth 100000 in
theorem bCheck_any (a : Option Addr) (n c : Nat) (L : List (Nv × Nod)) (w : World) (hl : Ns w a n L) (hc : n ≤ c) (hcm : c ≤ 9223372036854775807) (hn : n ≤ 100000) :
  Calls Tryz.prog 16 #[.slice a n c] w fun e w' => e = .returned (.int .i64 (checkB (nds L))) ∧ Below w.heap.size w w' := by
 have HL := hide hl
 have HLN := hide hl.1
 have hn' : (n : Int) ≤ 100000 := by omega
 obtain ⟨M, hM, mk⟩ := make_nodes n hn
 have HM := hide hM
 clear hl hM
 go_enter Tryz.func16, Tryz.ntmps16
 go_wp2
 go_loopw [4, 5, 12] (fun _ _ r wr => ∃ i : Nat, r = .int .i64 i ∧ i ≤ n ∧ Below w.heap.size w wr ∧ Laid w.heap.size w.heap.size n ((stL L).map (·.1)) i wr) (fun _ _ r _ => n - (intOf r).toNat)
 case atStart => exact ⟨0, rfl, Nat.zero_le _, (Below.refl _ _).alloc (Nat.le_refl _) _, _, row_nodes HM.out hn (Nat.le_refl _), by simp [nvs]⟩
 case round =>
  obtain ⟨i, rfl, hi0, hbel, hld⟩ := hrel
  have HB := hide hbel
  have HD := hide hld
  by_cases hi : i < n
  ·have hd : decide ((i : Int) < n) = true := by simpa using hi
   have hi' : (i : Int) < n := by omega
   obtain ⟨ba, oa, rfl, hba, hca⟩ := (HL.out.below hbel).at (by omega)
   obtain ⟨c0, c1, c2, c3, c4, c5, c6, c7, c8, c9⟩ := hca i hi
   have hr := HL.out.rep i hi
   have HGi : Hid (((stL L).map (·.1))[i]'(by simp [stL]; rw [HLN.out]; exact hi) = standV (gl L i).1 (gl L i).2) := by
    show _ = _
    rw [gl_lt L i (by rw [HLN.out]; exact hi)]; simp [stL]
   have HSt := hide (fun W (hb : Below w.heap.size w W) => standIn_any (gl L i).1 (gl L i).2 W (hr.below hb))
   have e1 : Hid (∀ o, Below w.heap.size w (wr.alloc o)) := hide (fun o => HB.out.alloc HB.out.size o)
   have hsz : w.heap.size < wr.heap.size := by
    obtain ⟨xs, ho, _⟩ := hld
    exact (ho.lt _ rfl).2
   generalize (gl L i).1 = v at *
   generalize (gl L i).2 = nn at *
   clear hca hbel hld hr
   have HTh : Hid (∀ W, Laid w.heap.size w.heap.size n ((stL L).map (·.1)) i W → W.there w.heap.size (i * 10) 10) := fun W hW j hj => by
    obtain ⟨⟨u, hu⟩, hf⟩ := hW.there hi j hj
    exact ⟨by rw [hu]; rfl, hf⟩
   have HPut : Hid (∀ W, Laid w.heap.size w.heap.size n ((stL L).map (·.1)) i W → Laid w.heap.size w.heap.size n ((stL L).map (·.1)) (i + 1) (W.setCells w.heap.size (i * 10) (standV v nn).cells.toList)) := fun W hW =>
    hW.put hi (by simp [stL]; exact HLN.out) HGi.out
   have HOn : Hid ((standV v nn).cells.all (·.oneCell') = true) := hide (cells_one _)
   have HBS : Hid (∀ W, Below w.heap.size w W → Below w.heap.size w (W.setCells w.heap.size (i * 10) (standV v nn).cells.toList)) := fun W hW => bel_setCells (Nat.le_refl _) _ _ _ hW
   have hsz10 : (standV v nn).cells.size = 10 := rfl
   generalize (standV v nn).cells = cs at *
   unfold Nv.cells at *
   go_wp2_with (first
    | (go_at_call 35; refine (HSt.out _ (e1.out _)).mono ?_; rintro e w2 ⟨rfl, hb2⟩; have E2 := hide ((e1.out _).trans (hb2.mono (e1.out _).size)); have HD2 := hide ((HD.out.below (below_one _ _)).below hb2); clear hb2)
    | (refine wpList_store_mid rfl _ _ _ rfl w.heap.size (i * 10) cs rfl rfl (by rw [hsz10]; exact HTh.out _ HD2.out) (by rw [hsz10]; exact infoNod) HOn.out ?_))
   exact ⟨⟨i + 1, by go_num, by omega, HBS.out _ E2.out, HPut.out _ HD2.out⟩, by simp [intOf]; omega⟩
  ·obtain rfl : i = n := by omega
   have hd : decide ((i : Int) < i) = false := by simp
   have HNs : Hid (Ns wr (some ⟨w.heap.size, 0, none⟩) i (stL L)) := by
    obtain ⟨xs, ho, hx⟩ := hld
    have hxl : xs.length = i * 10 := ho.1
    rw [List.take_of_length_le (by omega), List.take_of_length_le (by simp [stL, HLN.out])] at hx
    rw [hx] at ho
    exact (sh_of_owns ho).ns (stL_rep (HL.out.below hbel).2.1)
   have H1 := hide (Check_any (some ⟨w.heap.size, 0, none⟩) i i (stL L) wr HNs.out (Nat.le_refl _) (by omega))
   have H2 := hide (fun W (hb : Below w.heap.size w W) => single_any a i c L W (HL.out.below hb) hc hcm hn)
   have HCS := hide (check_stand (nds L))
   rw [← stL_nds] at HCS
   obtain ⟨z, hz⟩ : ∃ z, check (nds (stL L)) = z := ⟨_, rfl⟩
   rw [hz] at H1 HCS
   obtain ⟨y, hy⟩ : ∃ y, sgl (nds L) = y := ⟨_, rfl⟩
   rw [hy] at H2 HCS
   clear hbel hld hz hy mk
   by_cases hz0 : z = 0
   ·have hz1 : (z != 0) = false := by simp [hz0]
    cases y with
    | true =>
     have HR : Hid (checkB (nds L) = 0) := by show _ = _; rw [HCS.out, if_neg (by simpa using hz0), if_pos rfl]
     clear hz0
     go_wp2_with (first
      | (go_at_call 36; refine H1.out.mono ?_; rintro e w2 ⟨rfl, hb2⟩; have E2 := hide (HB.out.trans (hb2.mono HB.out.size)); clear hb2)
      | (go_at_call 37; refine (H2.out _ E2.out).mono ?_; rintro e w3 ⟨rfl, hb3⟩; have E3 := hide (E2.out.trans (hb3.mono E2.out.size)); clear hb3))
     go_ret
     exact ⟨ret_int HR.out.symm, E3.out⟩
    | false =>
     have HR : Hid (checkB (nds L) = 8) := by show _ = _; rw [HCS.out, if_neg (by simpa using hz0), if_neg (by simp)]
     clear hz0
     go_wp2_with (first
      | (go_at_call 36; refine H1.out.mono ?_; rintro e w2 ⟨rfl, hb2⟩; have E2 := hide (HB.out.trans (hb2.mono HB.out.size)); clear hb2)
      | (go_at_call 37; refine (H2.out _ E2.out).mono ?_; rintro e w3 ⟨rfl, hb3⟩; have E3 := hide (E2.out.trans (hb3.mono E2.out.size)); clear hb3))
     go_ret
     exact ⟨ret_int HR.out.symm, E3.out⟩
   ·have hz1 : (z != 0) = true := by simpa using hz0
    have HR : Hid (checkB (nds L) = z) := by show _ = _; rw [HCS.out, if_pos hz0]
    clear hz0
    go_wp2_with (first
     | (go_at_call 36; refine H1.out.mono ?_; rintro e w2 ⟨rfl, hb2⟩; have E2 := hide (HB.out.trans (hb2.mono HB.out.size)); clear hb2))
    go_ret
    exact ⟨ret_int HR.out.symm, E2.out⟩
end Go.Proofs.YtbmeapehgajbkaaGreat

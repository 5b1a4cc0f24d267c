import Derived.Test.YtbmeapehgajbkaaGreatGJTreAlike
import Derived.Test.YtbmeapehgajbkaaGreatGTreCopy
import Derived.Deep.RegionHeld3
import Derived.Deep.RegionLaw
set_option linter.unusedVariables false
namespace Go.Proofs.YtbmeapehgajbkaaGreat
open Go.RowKit Go.Maps
open Nam Tre
namespace Tre
def mfirst (ks : List Lit) : Nat → Lit → Option Nat
 | 0 => fun _ => none
 | i + 1 => if (mfirst ks i (ks.getD i (.bool false))).isSome = true then mfirst ks i else upd (mfirst ks i) (ks.getD i (.bool false)) i
def fcnt (ks : List Lit) : Nat → Nat
 | 0 => 0
 | i + 1 => if (mfirst ks i (ks.getD i (.bool false))).isSome = true then fcnt ks i else fcnt ks i + 1
theorem mfirst_some {ks : List Lit} (hk : ∀ k ∈ ks, WideAt.IsKeyLit k) : ∀ (i : Nat), i ≤ ks.length → ∀ k j, mfirst ks i k = some j → j < i ∧ ks[j]? = some k
 | 0, _, k, j, h => by cases h
 | i + 1, hi, k, j, h => by
  have hg : ks.getD i (.bool false) = ks[i] := by simp [show i < ks.length by omega]
  rw [mfirst] at h
  split at h
  ·obtain ⟨h1, h2⟩ := mfirst_some hk i (by omega) k j h
   exact ⟨by omega, h2⟩
  ·by_cases e : k = ks.getD i (.bool false)
   ·rw [e, upd_same _ _ _ (by rw [hg]; exact hk _ (List.getElem_mem _))] at h
    cases h
    exact ⟨by omega, by rw [e, hg, List.getElem?_eq_getElem]⟩
   ·rw [upd_other _ _ e] at h
    obtain ⟨h1, h2⟩ := mfirst_some hk i (by omega) k j h
    exact ⟨by omega, h2⟩
theorem mfirst_mem {ks : List Lit} (hk : ∀ k ∈ ks, WideAt.IsKeyLit k) : ∀ (i : Nat), i ≤ ks.length → ∀ k, (mfirst ks i k).isSome = true ↔ k ∈ ks.take i
 | 0, _, k => by simp [mfirst]
 | i + 1, hi, k => by
  have hi' : i < ks.length := by omega
  have hg : ks.getD i (.bool false) = ks[i] := by simp [hi']
  rw [List.take_succ_eq_append_getElem hi', List.mem_append, List.mem_singleton, mfirst, hg]
  by_cases e : k = ks[i]
  ·split
   ·rename_i h; rw [e]; simp [h]
   ·rw [e, upd_same _ _ _ (hk _ (List.getElem_mem _))]; simp
  ·split
   ·rw [mfirst_mem hk i (by omega) k]; simp [e]
   ·rw [upd_other _ _ e, mfirst_mem hk i (by omega) k]; simp [e]
theorem fcnt_le {ks : List Lit} : ∀ (i : Nat), fcnt ks i ≤ i
 | 0 => Nat.le_refl _
 | i + 1 => by
  have := fcnt_le (ks := ks) i
  rw [fcnt]; split <;> omega
def ikeys (l : List Nod) : List Lit := l.map (fun n => .int .i64 n.ino)
theorem ikeys_length (l : List Nod) : (ikeys l).length = l.length := by simp [ikeys]
theorem ikeys_lit (l : List Nod) : ∀ k ∈ ikeys l, WideAt.IsKeyLit k := by
 intro k hk
 simp only [ikeys, List.mem_map] at hk
 obtain ⟨n, _, rfl⟩ := hk
 exact trivial
theorem pair_snoc (l : List Nod) (n : Nod) : (l ++ [n]).Pairwise Tre.one ↔ l.Pairwise Tre.one ∧ ∀ m ∈ l, one m n := by
 rw [List.pairwise_append]
 constructor
 ·rintro ⟨h1, _, h3⟩; exact ⟨h1, fun m hm => h3 m hm n (by simp)⟩
 ·rintro ⟨h1, h2⟩; exact ⟨h1, by simp, fun a ha b hb => by rw [List.mem_singleton] at hb; subst hb; exact h2 a ha⟩
theorem pair_new {l : List Nod} {n : Nod} (h : l.Pairwise Tre.one) (hn : (.int .i64 n.ino : Lit) ∉ ikeys l) : (l ++ [n]).Pairwise Tre.one := by
 rw [pair_snoc]
 refine ⟨h, fun m hm e => ?_⟩
 exact absurd (List.mem_map.2 ⟨m, hm, by rw [e]⟩) hn
theorem pair_old {l : List Nod} {n m : Nod} (h : l.Pairwise Tre.one) (hm : m ∈ l) (e : m.ino = n.ino) (hk : n.kind ≠ 1) (ha : alike m n = true) : (l ++ [n]).Pairwise Tre.one := by
 rw [pair_snoc]
 refine ⟨h, fun x hx ex => ⟨hk, ?_⟩⟩
 by_cases he : x = m
 ·rw [he]; exact ha
 ·have hxm : alike x m = true := by
   obtain ⟨i, hi, rfl⟩ := List.getElem_of_mem hx
   obtain ⟨j, hj, rfl⟩ := List.getElem_of_mem hm
   rw [List.pairwise_iff_getElem] at h
   rcases Nat.lt_trichotomy i j with k | k | k
   ·exact (h i j hi hj k (ex.trans e.symm)).2
   ·subst k; exact absurd rfl he
   ·exact alike_symm (h j i hj hi k (e.trans ex.symm)).2
  exact alike_trans hxm ha
theorem pair_not {l r : List Nod} {n m : Nod} (hm : m ∈ l) (e : m.ino = n.ino) (hk : n.kind = 1 ∨ alike m n = false) : ¬ (l ++ n :: r).Pairwise Tre.one := by
 intro h
 rw [List.pairwise_append] at h
 have := h.2.2 m hm n (by simp) e
 rcases hk with hk | hk
 ·exact this.1 hk
 ·rw [hk] at this; exact absurd this.2 (by simp)
end Tre
theorem ikeys_at (L : List (Nv × Nod)) (i : Nat) (h : i < L.length) : (ikeys (nds L)).getD i (.bool false) = .int .i64 (gl L i).2.ino := by
 have : i < (ikeys (nds L)).length := by rw [ikeys_length, nds_length]; exact h
 rw [List.getD_eq_getElem?_getD, List.getElem?_eq_getElem this, Option.getD_some, gl_lt L i h]
 simp [ikeys, nds]
theorem keyedInt : Keyed Tryz.prog 3 := int_keyed Tryz.underlying3
theorem make_hintI (n : Nat) (w : World) : (Instr.makeMap 55 (some (.int .i64 (n : Int)))).run Tryz.prog w = .ok (.map (some w.heap.size)) (w.alloc (.map #[] 0)) := by
 simp [Instr.makeMap, run_underlying Tryz.underlying55, asInt, asIntOf, Result.andThen]
theorem mapUnderI : Tryz.prog.underlying 55 = some (.map 3 3) := Tryz.underlying55
set_option maxRecDepth 100000 in
theorem linksAgree_any (a : Option Addr) (n c : Nat) (L : List (Nv × Nod)) (w : World) (hl : Ns w a n L) (hc : n ≤ c) (hcm : c ≤ 9223372036854775807) (hn : n ≤ 100000) :
  Calls Tryz.prog 59 #[.slice a n c] w fun e w' => e = .returned (.bool (decide ((nds L).Pairwise Tre.one))) ∧ Below w.heap.size w w' := by
 have HL := hide hl
 have HLN := hide hl.1
 have hn' : (n : Int) ≤ 100000 := by omega
 have mk := make_hintI n
 clear hl
 go_enter Tryz.func59, Tryz.ntmps59
 go_wp2
 go_loopw [4, 5, 6, 7, 13, 18] (fun _ _ _ _ r _ wr => ∃ i : Nat, r = .int .i64 i ∧ i ≤ n ∧ Below w.heap.size w wr ∧ MpK 3 wr w.heap.size (fcnt (ikeys (nds L)) i) (mfirst (ikeys (nds L)) i) ∧ ((nds L).take i).Pairwise Tre.one) (fun _ _ _ _ r _ _ => n - (intOf r).toNat)
 case atStart => exact ⟨0, rfl, Nat.zero_le _, (Below.refl _ _).alloc (Nat.le_refl _) _, mpk_new _ w, by simp⟩
 case round =>
  obtain ⟨i, rfl, hi0, hbel, hmp, hpw⟩ := hrel
  have HB := hide hbel
  have HM := hide hmp
  have HPW := hide hpw
  by_cases hi : i < n
  ·have hd : decide ((i : Int) < n) = true := by simpa using hi
   obtain ⟨ba, oa, rfl, hba, hca⟩ := (HL.out.below hbel).at (by omega)
   have HCA := hide hca
   obtain ⟨c0, c1, c2, c3, c4, c5, c6, c7, c8, c9⟩ := hca i hi
   have hr := HL.out.rep i hi
   have HR := hide hr
   have HK := hide (ikeys_at L i (by rw [HLN.out]; exact hi))
   have HNT := hide (nds_take L i (by rw [HLN.out]; exact hi))
   have bel : Hid (∀ o, Below wr.heap.size wr (wr.alloc o)) := fun o => (Below.refl _ _).alloc (Nat.le_refl _) _
   have hkey : keyOf Tryz.prog 3 (.int .i64 (gl L i).1.ino) = some (.int .i64 (gl L i).1.ino) := keyOf_int_mk Tryz.underlying3 hr.in64
   have hlk := fun o => (hmp.below (bel.out o)).look keyedInt mapUnderI hkey trivial
   have hsz := hmp.lt
   cases hf : mfirst (ikeys (nds L)) i (.int .i64 (gl L i).1.ino) with
   | none =>
    rw [hf] at hlk
    simp only [Option.getD_none, Option.isSome_none] at hlk
    have hst := fun o => (hmp.below (bel.out o)).store keyedInt mapUnderI hkey trivial (by have := fcnt_le (ks := ikeys (nds L)) i; omega) i
    have HST := hide hst
    have HF := hide hf
    clear hca hbel hmp hr mk hpw hf hkey hst
    obtain ⟨w2, hrun, hm2, hg2⟩ := HST.out (.cells (gl L i).1.cells 44)
    simp only [Nv.cells] at hrun
    rw [HF.out] at hm2
    have HM2 := hide hm2
    have e2 : Hid (Below w.heap.size w w2) := ((HB.out.alloc HB.out.size _).grown hg2 (by simp; omega) (fun k hk => by cases hk; exact Nat.le_refl _))
    have HN : Hid ((.int .i64 (gl L i).2.ino : Lit) ∉ (ikeys (nds L)).take i) := by
     show _ ∉ _
     rw [← mfirst_mem (ikeys_lit _) i (by rw [ikeys_length, nds_length, HLN.out]; omega), HR.out.ino, HF.out]
     simp
    clear hm2 hg2 HST
    go_wp2
    refine ⟨⟨i + 1, by go_num, by omega, e2.out, ?_, ?_⟩, by simp [intOf]; omega⟩
    ·rw [fcnt, mfirst, HK.out, HR.out.ino, HF.out]
     exact HM2.out
    ·rw [HNT.out]
     refine pair_new HPW.out ?_
     have := HN.out
     rw [ikeys, ← List.map_take] at this
     exact this
   | some j =>
    rw [hf] at hlk
    simp only [Option.getD_some, Option.isSome_some] at hlk
    obtain ⟨hj, hjk⟩ := mfirst_some (ikeys_lit _) i (by rw [ikeys_length, nds_length, HLN.out]; omega) _ _ hf
    obtain ⟨d0, d1, d2, d3, d4, d5, d6, d7, d8, d9⟩ := hca j (by omega)
    have HRj := hide (HL.out.rep j (by omega))
    have HIJ : Hid ((gl L j).2.ino = (gl L i).2.ino) := by
     show _ = _
     rw [ikeys, List.getElem?_map, List.getElem?_eq_getElem (by rw [nds_length, HLN.out]; omega)] at hjk
     have : (nds L)[j]'(by rw [nds_length, HLN.out]; omega) = (gl L j).2 := by rw [gl_lt L j (by rw [HLN.out]; omega)]; simp [nds]
     rw [this] at hjk
     simp at hjk
     rw [hjk, hr.ino]
    have HMJ : Hid ((gl L j).2 ∈ (nds L).take i) := by
     show _ ∈ _
     rw [List.mem_take_iff_getElem]
     refine ⟨j, by rw [nds_length, HLN.out]; omega, ?_⟩
     rw [gl_lt L j (by rw [HLN.out]; omega)]; simp [nds]
    have HSP : Hid (nds L = (nds L).take i ++ (gl L i).2 :: (nds L).drop (i + 1)) := by
     show _ = _
     conv => lhs; rw [← List.take_append_drop i (nds L), nds_drop L i (by rw [HLN.out]; exact hi)]
    by_cases hk : (gl L i).1.kind = 1
    ·have hk1 : ((gl L i).1.kind == 1) = true := by simpa using hk
     have HNP : Hid (decide ((nds L).Pairwise Tre.one) = false) := by
      show _ = _
      rw [decide_eq_false_iff_not, HSP.out]
      exact pair_not HMJ.out HIJ.out (.inl (hr.kind.trans hk))
     clear hca hbel hmp hr mk hpw hf hkey hk d0 d1 d2 d3 d4 d5 d6 d7 d8 d9
     go_wp2
     go_quiet (fail)
     go_wp2
     go_ret
     exact ⟨ret_bool HNP.out.symm, (HB.out.alloc HB.out.size _).trans (drewN_below _ _)⟩
    ·have hk1 : ((gl L i).1.kind == 1) = false := by simpa using hk
     have HKN := hide (fun e => hk (hr.kind.symm.trans e))
     have HF := hide hf
     clear hca hbel hr mk hpw hf hkey hk hmp
     go_wp2
     have q3 := boxed wr (gl L i).1
     have q4 := bel.out (.cells (gl L i).1.cells 44)
     simp only [Nv.cells] at q3 q4
     obtain ⟨W, hW⟩ : ∃ W, W = wr.alloc (.cells (gl L i).1.cells 44) := ⟨_, rfl⟩
     simp only [Nv.cells] at hW
     rw [← hW] at q3 q4 ⊢
     have HQ := hide (HB.out.trans (q4.mono HB.out.size))
     have HMW := hide (HM.out.below q4)
     obtain ⟨p0, p1, p2, p3, p4, p5, p6, p7, p8, p9⟩ := (HCA.out j (by omega)).below q4 hba
     obtain ⟨_, b0, b1, b2, b3, b4, b5, b6, b7, b8, b9⟩ := q3
     clear q4 hW d0 d1 d2 d3 d4 d5 d6 d7 d8 d9 c0 c1 c2 c3 c4 c5 c6 c7 c8 c9 hlk hjk
     have hj1 : (j : Int) < n := by omega
     obtain ⟨z, hz⟩ : ∃ z, alike (gl L j).2 (gl L i).2 = z := ⟨_, rfl⟩
     have HZ := hide hz
     have HK2 : Hid (Calls Tryz.prog 50 #[.agg (gl L j).1.cells, .agg (gl L i).1.cells] W.drew fun e w' => e = .returned (.bool z) ∧ Below W.heap.size W w') := by
      have := Alike_any (gl L j).1 (gl L i).1 (gl L j).2 (gl L i).2 W.drew (HRj.out.below (HQ.out.trans (drewN_below W 1))) (HR.out.below (HQ.out.trans (drewN_below W 1)))
      rw [HZ.out] at this
      exact this.mono fun e w' ⟨he, hb⟩ => ⟨he, ⟨hb.os, hb.tape, hb.output, hb.size, hb.block⟩⟩
     simp only [Nv.cells] at HK2
     clear hz
     go_region_law ((first
      | (go_simp; go_at_call 50; refine HK2.out.mono ?_; rintro r w5 ⟨rfl, hb5⟩; have HB5 := hide hb5; clear hb5; dsimp only)))
     all_goals (
      have e5 := hide (HQ.out.trans (HB5.out.mono HQ.out.size))
      have HM5 := hide (HMW.out.below HB5.out)
      clear HK2 p0 p1 p2 p3 p4 p5 p6 p7 p8 p9 b0 b1 b2 b3 b4 b5 b6 b7 b8 b9
      cases z with
      | false =>
       have HNP : Hid (decide ((nds L).Pairwise Tre.one) = false) := by
        show _ = _
        rw [decide_eq_false_iff_not, HSP.out]
        exact pair_not HMJ.out HIJ.out (.inr HZ.out)
       go_wp2
       go_ret
       exact ⟨ret_bool HNP.out.symm, e5.out⟩
      | true =>
       go_wp2
       refine ⟨⟨i + 1, by go_num, by omega, e5.out, ?_, ?_⟩, by simp [intOf]; omega⟩
       ·rw [fcnt, mfirst, HK.out, HR.out.ino, HF.out]
        exact HM5.out
       ·rw [HNT.out]
        exact pair_old HPW.out HMJ.out HIJ.out HKN.out HZ.out)
  ·have hd : decide ((i : Int) < n) = false := by simpa using hi
   have HP : Hid (decide ((nds L).Pairwise Tre.one) = true) := by
    show _ = _
    rw [decide_eq_true_eq]
    rw [List.take_of_length_le (by rw [nds_length, HLN.out]; omega)] at hpw
    exact hpw
   clear hmp hbel HM mk hpw
   go_wp2
   go_ret
   exact ⟨ret_bool HP.out.symm, HB.out⟩
end Go.Proofs.YtbmeapehgajbkaaGreat
namespace Go.Proofs.YtbmeapehgajbkaaGreat
open Go.RowKit Go.Maps
open Nam Tre
open Lz (g)
theorem own_set {w : World} {B g cap i : Nat} {X' : List Xv} {n : Nat} (h : w.ownsRow B 96 2 (.slice (some ⟨g, 0, none⟩) n cap) n (xvs X')) (hl : X'.length = n) (hi : i < n) (a : Option Addr) (m c : Nat) :
  (w.setCell ⟨g, i * 2 + 1, none⟩ (.slice a m c)).ownsRow B 96 2 (.slice (some ⟨g, 0, none⟩) n cap) n (xvs (X'.set i ⟨(gX X' i).s, a, m, c⟩)) := by
 have := h.stored (i * 2 + 1) (.slice a m c)
 rw [xvs_set X' i a m c (by omega)] at this
 rw [gX_lt X' i (by omega)]
 exact this.1
theorem gX_set (X : List Xv) (i j : Nat) (x : Xv) (hi : i < X.length) : gX (X.set i x) j = if j = i then x else gX X j := by
 unfold gX
 by_cases e : j = i
 ·subst e; simp [hi]
 ·rw [if_neg e]; simp [Ne.symm e]
end Go.Proofs.YtbmeapehgajbkaaGreat
namespace Go.Proofs.YtbmeapehgajbkaaGreat
open Go.RowKit Go.Maps
open Nam Tre Mrg
namespace Brn
def mcn (ks : List Lit) : Nat → Lit → Option Nat
 | 0 => fun _ => none
 | i + 1 => upd (mcn ks i) (ks.getD i (.bool false)) ((mcn ks i (ks.getD i (.bool false))).getD 0 + 1)
def msz (ks : List Lit) : Nat → Nat
 | 0 => 0
 | i + 1 => if (mcn ks i (ks.getD i (.bool false))).isSome = true then msz ks i else msz ks i + 1
theorem msz_le {ks : List Lit} : ∀ (i : Nat), msz ks i ≤ i
 | 0 => Nat.le_refl _
 | i + 1 => by
  have := msz_le (ks := ks) i
  rw [msz]; split <;> omega
theorem cnt_snoc (l : List Nod) (a : Nod) (z : Int) : cnt (l ++ [a]) z = cnt l z + if a.ino = z then 1 else 0 := by
 unfold cnt; rw [List.countP_append]; simp [List.countP_cons]
theorem mcn_cnt (l : List Nod) (z : Int) : ∀ i : Nat, i ≤ l.length → (mcn (ikeys l) i (.int .i64 z)).getD 0 = cnt (l.take i) z
 | 0, _ => rfl
 | i + 1, hi => by
  have hi' : i < l.length := by omega
  have hg : (ikeys l).getD i (.bool false) = .int .i64 l[i].ino := by
   rw [List.getD_eq_getElem?_getD, List.getElem?_eq_getElem (by rw [ikeys_length]; exact hi'), Option.getD_some]
   simp [ikeys]
  rw [List.take_succ_eq_append_getElem hi', cnt_snoc, mcn, hg]
  by_cases e : l[i].ino = z
  ·rw [e, upd_same _ _ _ (show WideAt.IsKeyLit (.int .i64 z) from trivial), if_pos rfl, mcn_cnt l z i (by omega)]; rfl
  ·rw [upd_other _ _ (fun h => e (by injection h with _ h; exact h.symm)), if_neg e, mcn_cnt l z i (by omega)]; rfl
theorem mcn_le (ks : List Lit) : ∀ (i : Nat) (k : Lit), (mcn ks i k).getD 0 ≤ i
 | 0, _ => Nat.le_refl _
 | i + 1, k => by
  rw [mcn]; unfold upd; split
  ·have := mcn_le ks i (ks.getD i (.bool false))
   rw [Option.getD_some]; omega
  ·have := mcn_le ks i k
   omega
end Brn
open Brn
theorem MpK.get {k : TypeId} {w : World} {b sz : Nat} {f : Lit → Option Nat} (h : MpK k w b sz f) (K : Keyed Tryz.prog k) {t : TypeId} (ht : Tryz.prog.underlying t = some (.map k 3)) {key : Value} {kl : Lit} (hkey : keyOf Tryz.prog k key = some kl) (hk : WideAt.IsKeyLit kl) :
  (Instr.lookup t (.map (some b)) key false).run Tryz.prog w = .ok (.int .i64 (((f kl).getD 0 : Nat) : Int)) w := by
 obtain ⟨D, h1, _, h3⟩ := h
 obtain ⟨e1, e2⟩ := h3 kl hk
 obtain ⟨v, ps, hr, hv⟩ := h1.lookup K ht (zeroInt7 w) (zd := .held (.int .i64 0)) (zp := []) rfl hkey
 cases hf : f kl with
 | none =>
  rw [hf] at e1
  rw [Maps.atKey_of_not_has e1] at hv
  simp [HV] at hv
  rw [hv.1] at hr
  exact hr
 | some z =>
  rw [e2 z hf] at hv
  simp [HV] at hv
  rw [hv.1] at hr
  exact hr
set_option maxRecDepth 100000 in
theorem single_any (a : Option Addr) (n c : Nat) (L : List (Nv × Nod)) (w : World) (hl : Ns w a n L) (hc : n ≤ c) (hcm : c ≤ 9223372036854775807) (hn : n ≤ 100000) :
  Calls Tryz.prog 37 #[.slice a n c] w fun e w' => e = .returned (.bool (sgl (nds L))) ∧ Below w.heap.size w w' := by
 have HL := hide hl
 have HLN := hide hl.1
 have hn' : (n : Int) ≤ 100000 := by omega
 have mk := make_hintI n
 clear hl
 go_enter Tryz.func37, Tryz.ntmps37
 go_wp2
 go_loopw [5, 13] (fun _ r wr => ∃ i : Nat, r = .int .i64 i ∧ i ≤ n ∧ Below w.heap.size w wr ∧ MpK 3 wr w.heap.size (msz (ikeys (nds L)) i) (mcn (ikeys (nds L)) i)) (fun _ r _ => n - (intOf r).toNat)
 case atStart => exact ⟨0, rfl, Nat.zero_le _, (Below.refl _ _).alloc (Nat.le_refl _) _, mpk_new _ w⟩
 case round =>
  obtain ⟨i, rfl, hi0, hbel, hmp⟩ := hrel
  have HB := hide hbel
  have HM := hide hmp
  by_cases hi : i < n
  ·have hd : decide ((i : Int) < n) = true := by simpa using hi
   obtain ⟨ba, oa, rfl, hba, hca⟩ := (HL.out.below hbel).at (by omega)
   obtain ⟨c0, c1, c2, c3, c4, c5, c6, c7, c8, c9⟩ := hca i hi
   have hr := HL.out.rep i hi
   have HR := hide hr
   have HK := hide (ikeys_at L i (by rw [HLN.out]; exact hi))
   have bel : Hid (∀ o, Below wr.heap.size wr (wr.alloc o)) := fun o => (Below.refl _ _).alloc (Nat.le_refl _) _
   have hkey : keyOf Tryz.prog 3 (.int .i64 (gl L i).1.ino) = some (.int .i64 (gl L i).1.ino) := keyOf_int_mk Tryz.underlying3 hr.in64
   have hlk := fun o => (hmp.below (bel.out o)).get keyedInt mapUnderI hkey trivial
   have hq100 := mcn_le (ikeys (nds L)) i (.int .i64 (gl L i).1.ino)
   have hst := fun o => (hmp.below (bel.out o)).store keyedInt mapUnderI hkey trivial (by have := msz_le (ks := ikeys (nds L)) i; omega) ((mcn (ikeys (nds L)) i (.int .i64 (gl L i).1.ino)).getD 0 + 1)
   have HS : Hid (MpK 3 = MpK 3) := rfl
   obtain ⟨w2, hrun, hm2, hg2⟩ := hst (.cells (gl L i).1.cells 44)
   rw [show (.int .i64 (gl L i).1.ino : Lit) = (ikeys (nds L)).getD i (.bool false) from by rw [HK.out, HR.out.ino]] at hm2
   have HM2 : Hid (MpK 3 w2 w.heap.size (msz (ikeys (nds L)) (i + 1)) (mcn (ikeys (nds L)) (i + 1))) := hm2
   have e2 : Hid (Below w.heap.size w w2) := ((HB.out.alloc HB.out.size _).grown hg2 (by simp; have := hmp.lt; omega) (fun k hk => by cases hk; exact Nat.le_refl _))
   generalize (mcn (ikeys (nds L)) i (.int .i64 (gl L i).1.ino)).getD 0 = q at *
   have hw : IntKind.i64.wrap ((q : Int) + 1) = (q : Int) + 1 := by rw [IntKind.wrap_i64]; omega
   rw [show ((q + 1 : Nat) : Int) = (q : Int) + 1 from by omega] at hrun
   have hsz := hmp.lt
   clear hca hbel hmp hr mk hkey hst hm2 hg2 HK
   simp only [Nv.cells] at hrun
   go_wp2
   exact ⟨⟨i + 1, by go_num, by omega, e2.out, HM2.out⟩, by simp [intOf]; omega⟩
  ·obtain rfl : i = n := by omega
   have hd : decide ((i : Int) < i) = false := by simp
   have hcn : Hid (∀ z : Int, (mcn (ikeys (nds L)) i (.int .i64 z)).getD 0 = cnt (nds L) z) := fun z => by
    rw [mcn_cnt (nds L) z i (by rw [nds_length, HLN.out]; omega), List.take_of_length_le (by rw [nds_length, HLN.out]; omega)]
   have hsz := hmp.lt
   clear hbel hmp mk
   go_wp2
   go_loopw [7, 25] (fun _ r wr => ∃ j : Nat, r = .int .i64 j ∧ j ≤ i ∧ Below w.heap.size w wr ∧ MpK 3 wr w.heap.size (msz (ikeys (nds L)) i) (mcn (ikeys (nds L)) i) ∧ sgl (nds L) = ((nds L).drop j).all (fun n => !(decide (n.kind = 4) && decide (1 < cnt (nds L) n.ino)))) (fun _ r _ => i - (intOf r).toNat)
   case atStart => exact ⟨0, rfl, Nat.zero_le _, HB.out, HM.out, rfl⟩
   case round =>
    clear HB HM
    obtain ⟨j, rfl, hj0, hbel, hmp, hinv⟩ := hrel
    have HB := hide hbel
    have HM := hide hmp
    have HI := hide hinv
    by_cases hj : j < i
    ·have hd : decide ((j : Int) < i) = true := by simpa using hj
     have hj' : (j : Int) < i := by omega
     obtain ⟨ba, oa, rfl, hba, hca⟩ := (HL.out.below hbel).at (by omega)
     obtain ⟨c0, c1, c2, c3, c4, c5, c6, c7, c8, c9⟩ := hca j hj
     have hr := HL.out.rep j hj
     have bel : Hid (∀ o, Below wr.heap.size wr (wr.alloc o)) := fun o => (Below.refl _ _).alloc (Nat.le_refl _) _
     have hkey : keyOf Tryz.prog 3 (.int .i64 (gl L j).1.ino) = some (.int .i64 (gl L j).1.ino) := keyOf_int_mk Tryz.underlying3 hr.in64
     have hlk := fun o => (hmp.below (bel.out o)).get keyedInt mapUnderI hkey trivial
     have hcq := hcn.out (gl L j).1.ino
     rw [hcq] at hlk
     have HST : Hid (sgl (nds L) = (!(decide ((gl L j).1.kind = 4) && decide (1 < cnt (nds L) (gl L j).1.ino)) && ((nds L).drop (j + 1)).all (fun n => !(decide (n.kind = 4) && decide (1 < cnt (nds L) n.ino))))) := by
      show _ = _
      rw [hinv, nds_drop L j (by rw [HLN.out]; exact hj), List.all_cons, hr.kind, hr.ino]
     have e2 := fun o => hide (HB.out.alloc HB.out.size o)
     have m2 := fun o => hide (HM.out.below (bel.out o))
     generalize cnt (nds L) (gl L j).1.ino = q at *
     clear hca hbel hmp hr hkey hinv hcq
     by_cases hk : (gl L j).1.kind = 4
     ·have hk1 : ((gl L j).1.kind == 4) = true := by simpa using hk
      by_cases hq : 1 < q
      ·have hq1 : decide ((1 : Int) < q) = true := by simp; omega
       have hq2 : (1 : Int) < q := by omega
       have HR : Hid (sgl (nds L) = false) := by
        show _ = _
        rw [HST.out, decide_eq_true hk, decide_eq_true hq]; rfl
       clear hk hq
       go_wp2
       go_ret
       exact ⟨ret_bool HR.out.symm, (e2 _).out⟩
      ·have hq1 : decide ((1 : Int) < q) = false := by simp; omega
       have hq2 : ¬ (1 : Int) < q := by omega
       have HR : Hid (sgl (nds L) = ((nds L).drop (j + 1)).all (fun n => !(decide (n.kind = 4) && decide (1 < cnt (nds L) n.ino)))) := by
        show _ = _
        rw [HST.out, decide_eq_false hq, Bool.and_false]; rfl
       clear hk hq
       go_wp2
       exact ⟨⟨j + 1, by go_num, by omega, (e2 _).out, (m2 _).out, HR.out⟩, by simp [intOf]; omega⟩
     ·have hk1 : ((gl L j).1.kind == 4) = false := by simpa using hk
      have HR : Hid (sgl (nds L) = ((nds L).drop (j + 1)).all (fun n => !(decide (n.kind = 4) && decide (1 < cnt (nds L) n.ino)))) := by
       show _ = _
       rw [HST.out, decide_eq_false hk, Bool.false_and]; rfl
      clear hk
      go_wp2
      exact ⟨⟨j + 1, by go_num, by omega, (e2 _).out, (m2 _).out, HR.out⟩, by simp [intOf]; omega⟩
    ·have hd : decide ((j : Int) < i) = false := by simp; omega
     have hj' : ¬ (j : Int) < i := by omega
     have HR : Hid (true = sgl (nds L)) := by
      show _ = _
      rw [hinv, List.drop_eq_nil_of_le (by rw [nds_length, HLN.out]; omega)]; rfl
     clear hinv hbel hmp
     go_wp2
     go_ret
     exact ⟨ret_bool HR.out, HB.out⟩
end Go.Proofs.YtbmeapehgajbkaaGreat

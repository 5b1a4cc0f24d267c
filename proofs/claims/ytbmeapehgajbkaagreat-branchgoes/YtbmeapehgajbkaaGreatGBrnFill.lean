import Derived.Test.YtbmeapehgajbkaaGreatGJBrnPut2
import Derived.Test.YtbmeapehgajbkaaGreatGBrnFillP
set_option linter.unusedVariables false
namespace Go.Proofs.YtbmeapehgajbkaaGreat
open Go.RowKit Go.Maps
open Nam Tre Mrg Brn Upr
theorem fp_new {W0 w w3 : World} {p : Nat} {c : Nat → Cl} (hb0 : Below W0.heap.size W0 w) (hup : Up w3 p c (0, 0) u0) (hb : Below w.heap.size w w3) (hc : ∀ k, k < w.heap.size → c k = .no) :
  FP W0 ((w3.alloc (.map #[] 0)).alloc (.cells #[.pointer (some ⟨p, 0, none⟩), .map (some w3.heap.size), .slice none 0 0] 58)) p (w3.heap.size + 1) w3.heap.size [] c 0 s0 := by
 have hno : ∀ k, w3.heap.size ≤ k → c k = .no := fun k hk => by
  by_cases e : c k = .no
  ·exact e
  ·have := hup.low k e; omega
 have hz : W0.heap.size ≤ w3.heap.size := Nat.le_trans hb0.size hb.size
 have h1 : Below w3.heap.size w3 (w3.alloc (.map #[] 0)) := below_one _ _
 have h2 : Below (w3.alloc (.map #[] 0)).heap.size (w3.alloc (.map #[] 0)) ((w3.alloc (.map #[] 0)).alloc (.cells #[.pointer (some ⟨p, 0, none⟩), .map (some w3.heap.size), .slice none 0 0] 58)) := below_one _ _
 have h12 := h1.trans (h2.mono h1.size)
 refine ⟨hup.below h12, (hb0.trans (hb.mono hb0.size)).trans (h12.mono hz), fun k hk => hc k (by have := hb0.size; omega), ⟨hno _ (by omega), by omega⟩, ⟨hno _ (Nat.le_refl _), hz⟩, ⟨0, fun _ => none, Nat.le_refl _, (MpV.new 3 w3).same (h2.block _ (by simp)), fun x => rfl⟩, fun x hx => by simp at hx, none, 0, 0, heap_new (by simp), ?_, fun g hg => by simp [Value.ownBlock] at hg⟩
 exact World.ownsRow_nil _ _ _ _
theorem FP.other {W0 w w' : World} {p fb mb k ib : Nat} {c : Nat → Cl} {s : Fs} (h : FP W0 w p fb mb [] c k s) (hf : Fr (fun i => i = ib) w w') (hi : W0.heap.size ≤ ib ∧ c ib = .no) (h1 : ib ≠ fb) (h2 : ib ≠ mb) (hr : ∀ a n cc, w.heap[fb]? = some (.cells #[.pointer (some ⟨p, 0, none⟩), .map (some mb), .slice a n cc] 58 (0, 0)) → (Value.slice a n cc).ownBlock ≠ some ib) : FP W0 w' p fb mb [] c k s := by
 obtain ⟨a, n, cc, r1, r2, r3⟩ := h.row
 obtain ⟨sz, f, m1, m2, m3⟩ := h.map
 refine ⟨h.up.fr hf (fun i hi2 e => hi2 (by rw [show i = ib from e]; exact hi.2)), h.bel.trans (hf.below _ h.bel.size (fun i e => by rw [show i = ib from e]; exact hi.1)), h.col, h.fbo, h.mbo, ⟨sz, f, m1, m2.same (hf.block _ m2.lt (fun e => h2 e.symm)), m3⟩, fun x hx => by simp at hx, a, n, cc, (hf.block _ (heap_lt r1) (fun e => h1 e.symm)).trans r1, ?_, r3⟩
 exact own_fr r2 hf (fun g hg e => hr a n cc r1 (by rw [hg, show g = ib from e]))
theorem FP.hold {W0 w : World} {p fb mb k ib : Nat} {io : Array Value} {c : Nat → Cl} {s : Fs} (h : FP W0 w p fb mb [] c k s) (hk : w.heap[ib]? = some (.cells io 44 (0, 0))) (hc : c ib = .no) : FP W0 w p fb mb [(ib, io)] c k s :=
 ⟨h.up, h.bel, h.col, h.fbo, h.mbo, h.map, fun x hx => by rw [List.mem_singleton.1 hx]; exact ⟨hk, hc⟩, h.row⟩
theorem wf_small {x : Int} (h0 : 0 ≤ x) (h1 : x < 1000000) : (Lit.int .i64 x).wf = true := WalkArith.wf_i64 (by omega)
theorem fv_mem : ∀ {l : List ByteArray}, fv l = 0 → ∀ x ∈ l, valid x.toList = 0
 | [], _, x, hx => by simp at hx
 | y :: r, h, x, hx => by
  rw [fv] at h
  by_cases e : valid y.toList = 0
  ·rw [if_pos e] at h
   rcases List.mem_cons.1 hx with rfl | hx
   ·exact e
   ·exact fv_mem h x hx
  ·rw [if_neg e] at h
   exact absurd h e
theorem lst_small {t l : List Nod} (h : OrdT t l) {i : Nat} (hi : i < l.length) : (lst l[i]).size ≤ maxLen := by
 have h1 := h.br.wrong l[i] (h.perm.mem_iff.1 (List.getElem_mem hi))
 unfold lst
 by_cases h0 : l[i].names = []
 ·rw [h0]; exact Nat.zero_le _
 ·have hl := List.length_pos_iff.2 h0
  rw [gs_lt _ _ (by omega)]
  have hv := fv_mem h1 _ (List.getElem_mem (by omega : l[i].names.length - 1 < l[i].names.length))
  have h2 := (valid_zero hv).1
  rw [toList_length] at h2
  unfold maxLen; omega
theorem put_step {W0 w : World} {p fb mb : Nat} {B : List (Nat × Array Value)} {c : Nat → Cl} {t l : List Nod} (h : OrdT t l) (hl : l.length ≤ 100) (h16 : ∀ n ∈ t, n.names.length ≤ 1000) {i : Nat} (hi : i < l.length) (v : Nv) (hr : Rep W0 v l[i]) (hF : FP W0 w p fb mb B c i (fills l i)) :
  Calls Tryz.prog 21 #[.pointer (some ⟨fb, 0, none⟩), .agg v.cells] w fun e w' => e = .returned (.tuple #[]) ∧ ∃ c', FP W0 w' p fb mb B c' (i + 1) (fills l (i + 1)) := by
 have lo := lo_fills l i (by omega)
 have hx := lo.nx
 have hp := lo_putU lo l[i]
 rw [fills_succ l i hi]
 refine put_any v l[i] hF hr (by omega) (lo.sm (by omega)) (fun x r hr => ?_) (fun j hj => ?_) (h.way i hi) (h16 _ (h.perm.mem_iff.1 (List.getElem_mem hi))) (lst_small h hi) (wf_small hp.2.2.2.2.1 (by omega))
 ·have := lo.R x r hr
  exact wf_small this.1 (by omega)
 ·have : Lz.g (fills l i).way j ∈ (fills l i).way := by
   have e : Lz.g (fills l i).way j = (fills l i).way[j] := by simp [Lz.g, hj]
   rw [e]; exact List.getElem_mem hj
  have := lo.way _ this
  exact wf_small this.1 (by omega)
set_option maxRecDepth 100000 in
set_option maxHeartbeats 4000000 in
theorem fill_any (a : Option Addr) (n c : Nat) (L : List (Nv × Nod)) (w : World) (hl : Ns w a n L) (hc : n ≤ c) (hcm : c ≤ 9223372036854775807) (hnil : a = none → c = 0) (hn : n ≤ 100) (h20 : ∀ p ∈ L, p.2.names.length ≤ 1000) :
  Calls Tryz.prog 6 #[.agg #[.int .i64 0, .int .i64 0], .slice a n c] w fun e w' =>
   (checkB (nds L) ≠ 0 ∧ e = .returned (.tuple #[.pointer none, .int .i64 (checkB (nds L))]) ∧ Below w.heap.size w w') ∨
   (checkB (nds L) = 0 ∧ ∃ p cc l, e = .returned (.tuple #[.pointer (some ⟨p, 0, none⟩), .int .i64 0]) ∧ Up w' p cc (0, 0) (fills l n).u ∧ OrdT (nds L) l ∧ l.length = n ∧ Below w.heap.size w w' ∧ ∀ k, k < w.heap.size → cc k = .no) := by
 obtain ⟨W1, hW1⟩ : ∃ x, x = w.alloc (Obj.cells #[Value.int .i64 0, Value.int .i64 0] 30) := ⟨_, rfl⟩
 have hb1 : Below w.heap.size w W1 := by rw [hW1]; exact below_one _ _
 have hq : W1.heap[w.heap.size]? = some (.cells #[Value.int .i64 0, Value.int .i64 0] 30 (0, 0)) := by rw [hW1]; exact heap_new rfl
 have HQ : Hid (∀ W, Below W1.heap.size W1 W → W.cell? ⟨w.heap.size, 0, none⟩ = some (.int .i64 0) ∧ W.cell? ⟨w.heap.size, 1, none⟩ = some (.int .i64 0)) := fun W hW => by
  have := (hW.block _ (heap_lt hq)).trans hq
  simp [World.cell?, this]
 have HCK := hide (bCheck_any a n c L W1 (hl.below hb1) hc hcm (by omega))
 have HL := hide hl
 have HB1 := hide hb1
 have HBR : Hid (checkB (nds L) = 0 → Br (nds L)) := fun e => br_of e
 have H20 := hide h20
 have HNI := hide hnil
 have hz := hide (rfl : checkB (nds L) = checkB (nds L))
 obtain ⟨z, hzz⟩ : ∃ z, z = checkB (nds L) := ⟨_, rfl⟩
 rw [← hzz] at HCK HBR ⊢
 clear hl hb1 hq h20 hnil hz hzz
 rw [hW1] at HCK HB1 HQ
 go_enter Tryz.func6, Tryz.ntmps6
 go_upto_region 2 with (go_at_call 16; refine HCK.out.mono ?_; rintro e w2 ⟨rfl, hb2⟩; have HB2 := hide hb2; clear hb2)
 rw [← hW1] at HB1 HQ HB2
 clear HCK hW1
 by_cases hz0 : z = 0
 ·have hzb : (z != 0) = false := by simp [hz0]
  have HBr := hide (HBR.out hz0)
  obtain ⟨x0, x1⟩ := HQ.out w2 HB2.out
  have HB12 := hide (HB1.out.trans (HB2.out.mono HB1.out.size))
  have HZ := hide hz0
  clear hz0 HBR HQ
  go_wp2_with (go_at_call 14; refine (uNew_any 0 0 _).mono ?_; rintro e w3 ⟨p, cc, rfl, hup, hb3, hno⟩; have HF0 := hide (fp_new HB12.out hup hb3 hno); have HB3 := hide hb3; have HNO := hide hno; have mkm : ∀ w' : World, (Instr.makeMap 55 none).run Tryz.prog w' = .ok (.map (some w'.heap.size)) (w'.alloc (.map #[] 0)) := (fun w' => by simp [Instr.makeMap, Result.andThen]); clear hup hb3 hno)
  have hLn : L.length = n := HL.out.1
  have hn0 : 0 < n := by
   obtain ⟨x, hx, _⟩ := HBr.out.root
   have h1 : 0 < (nds L).length := by cases hh : nds L with | nil => rw [hh] at hx; simp at hx | cons _ _ => simp
   rw [nds_length] at h1; omega
  obtain ⟨w4, hw4⟩ : ∃ x, x = (w3.alloc (Obj.map #[] 0)).alloc (Obj.cells #[Value.pointer (some ⟨p, 0, none⟩), Value.map (some w3.heap.size), Value.slice none 0 0] 58) := ⟨_, rfl⟩
  have hrow4 : w4.heap[w3.heap.size + 1]? = some (.cells #[Value.pointer (some ⟨p, 0, none⟩), Value.map (some w3.heap.size), Value.slice none 0 0] 58 (0, 0)) := by rw [hw4]; exact heap_new (by simp)
  have hs4 : w3.heap.size + 2 = w4.heap.size := by rw [hw4]; simp
  rw [← hw4] at HF0 ⊢
  have HROW4 := hide hrow4
  clear hw4 mkm x0 x1 hrow4 HB3 HNO HB2
  obtain ⟨mb, hmb⟩ : ∃ x, x = w3.heap.size := ⟨_, rfl⟩
  obtain ⟨fb, hfb⟩ : ∃ x, x = w3.heap.size + 1 := ⟨_, rfl⟩
  rw [← hfb, ← hmb] at HF0 HROW4 ⊢
  have hfb4 : fb < w4.heap.size := by omega
  have hmb4 : mb < w4.heap.size := by omega
  clear hfb hmb hs4
  have hb4 : Below w.heap.size w w4 := HF0.out.bel
  refine (CloneNds_any a n c L w4 (HL.out.below hb4) hc hcm HNI.out (by omega)).mono ?_
  rintro e w5 ⟨ai, ci, rfl, ho, hb5⟩
  obtain ⟨ib, cap, hv, hib, hlt⟩ := ho.form hn0
  obtain ⟨rfl, rfl⟩ : ai = some ⟨ib, 0, none⟩ ∧ ci = cap := by simpa using hv
  have HF5 := hide (HF0.out.below hb5)
  have HGD : Hid (∀ q ∈ L, GoodB w q) := fun q hq => ⟨HL.out.2.1 q hq, by have := H20.out q hq; omega⟩
  have HCI : Hid (cc ib = .no) := by
   by_cases e : cc ib = .no
   ·exact e
   ·have := HF0.out.up.low ib e; omega
  have hwib : w.heap.size ≤ ib := Nat.le_trans hb4.size hib
  have HSO := hide (SortB_any w ib n ci w4.heap.size L w5 HF5.out.bel hwib ho hn0 (by omega) HGD.out)
  have HROW5 := hide ((hb5.block _ hfb4).trans HROW4.out)
  have hne1 : ib ≠ fb := by omega
  have hne2 : ib ≠ mb := by omega
  clear ho hb5 hb4 hv HF0 HROW4 hlt hib hfb4 hmb4
  go_upto_region 7 with (go_at_call 18; refine HSO.out.mono ?_; rintro e w6 ⟨rfl, L', hperm, hsrt, ho6, hg6, hb6, hsz, hblk, hos, htp, hout⟩; have HO6 := hide ho6; have HG6 := hide hg6; have HPE := hide hperm; have HSR := hide hsrt; have HFR : Hid (Fr (fun i => i = ib) w5 w6) := ⟨hos, htp, hout, hsz, hblk⟩; clear ho6 hg6 hperm hsrt hb6 hsz hblk hos htp hout)
  have hL'n : L'.length = n := by rw [HPE.out.length_eq]; exact hLn
  have HF6 := hide (HF5.out.other HFR.out ⟨hwib, HCI.out⟩ hne1 hne2 (fun a' n' c'' hh => by
   have h0 := HROW5.out
   rw [hh] at h0
   have h1 : (Value.slice a' n' c'') = Value.slice none 0 0 := by
    injection h0 with h0
    injection h0 with h0 _ _
    have h2 := congrArg (fun x : Array Value => x[2]?) h0
    simpa using h2
   rw [h1]; simp [Value.ownBlock]))
  obtain ⟨io, hio⟩ : ∃ io, w6.heap[ib]? = some (.cells io 44 (0, 0)) := by
   obtain ⟨cur, hcur⟩ := owns_obj HO6.out (k := ib) rfl
   exact ⟨cur, hcur⟩
  have HF7 := hide (HF6.out.hold hio HCI.out)
  have HOT : Hid (OrdT (nds L) (nds L')) := ⟨HBr.out, HPE.out.map _, by rw [nds, List.pairwise_map]; exact HSR.out⟩
  have HSH := hide (sh_of_owns HO6.out)
  have HIO := hide hio
  clear hio HF6 HFR HSO HF5 HROW5 HO6 HGD
  go_wp2_with fail
  go_loopw [10, 26] (fun _ r26 wr => ∃ (i : Nat) (c' : Nat → Cl), r26 = .int .i64 i ∧ i ≤ n ∧ FP w wr p fb mb [(ib, io)] c' i (fills (nds L') i)) (fun _ r26 _ => n - (intOf r26).toNat)
  case atStart => exact ⟨0, cc, rfl, Nat.zero_le _, HF7.out⟩
  case round =>
   clear HF7 HCI
   obtain ⟨i, c', rfl, hi0, hF⟩ := hrel
   have HF := hide hF
   clear hF
   by_cases hi : i < n
   ·have hd : decide ((i : Int) < n) = true := by simpa using hi
    have hi1 : (i : Int) < n := by omega
    have hiL : i < L'.length := by omega
    obtain ⟨b0, off, hbo, hlt, hat⟩ := HSH.out.at hn0
    obtain ⟨e1, rfl⟩ : b0 = ib ∧ off = 0 := by simpa using hbo.symm
    rw [e1] at hat hlt
    clear e1
    have hsame : ∀ j, wr.cell? ⟨ib, j, none⟩ = w6.cell? ⟨ib, j, none⟩ := fun j => World.cell?_of_block (((HF.out.keep (ib, io) (by simp)).1).trans HIO.out.symm)
    have hgv : gv (L'.map (·.1)) i = (gl L' i).1 := gv_map L' i hiL
    have ha := hat i hi
    rw [hgv] at ha
    obtain ⟨c0, c1, c2, c3, c4, c5, c6, c7, c8, c9⟩ := ha
    rw [Nat.zero_add] at c0 c1 c2 c3 c4 c5 c6 c7 c8 c9
    rw [← hsame] at c0 c1 c2 c3 c4 c5 c6 c7 c8 c9
    have hg := HG6.out _ (gl_mem L' i hiL)
    have hnd : (gl L' i).2 = (nds L')[i]'(by rw [nds_length]; exact hiL) := by rw [gl_lt L' i hiL]; simp [nds]
    have hrep : Rep w (gl L' i).1 ((nds L')[i]'(by rw [nds_length]; exact hiL)) := by rw [← hnd]; exact hg.1
    have h16 : ∀ x ∈ nds L, x.names.length ≤ 1000 := fun x hx => by
     obtain ⟨q, hq, rfl⟩ := List.mem_map.1 hx
     exact H20.out q hq
    have HPT := hide (put_step HOT.out (by rw [nds_length]; omega) h16 (by rw [nds_length]; exact hiL) (gl L' i).1 hrep (HF.out.below (below_one wr (.cells (gl L' i).1.cells 44))))
    generalize (gl L' i).1 = v at *
    clear hbo hlt hat hsame hgv hg hnd hrep h16
    unfold Nv.cells at *
    go_wp2_with (go_at_call 21; refine HPT.out.mono ?_; rintro e w8 ⟨rfl, c8', hF8⟩; have HF8 := hide hF8; clear hF8)
    exact ⟨⟨i + 1, c8', by go_num, by omega, HF8.out⟩, by simp [intOf]; omega⟩
   ·have hd : decide ((i : Int) < n) = false := by simpa using hi
    obtain rfl : i = n := by omega
    obtain ⟨_, _, _, f0, _, _, -, -⟩ := HF.out.cells
    go_wp2
    refine bodyPost_ret (results_tmp2 rfl _ _ _) rfl ?_
    exact .inr ⟨HZ.out, p, c', nds L', rfl, HF.out.up, HOT.out, by rw [nds_length]; exact hL'n, HF.out.bel, HF.out.col⟩
 ·have hzb : (z != 0) = true := by simpa using hz0
  have HZ := hide hz0
  clear hz0
  go_wp2
  refine bodyPost_ret (results_tmp2 rfl _ _ _) rfl ?_
  exact .inl ⟨HZ.out, rfl, HB1.out.trans (HB2.out.mono HB1.out.size)⟩
end Go.Proofs.YtbmeapehgajbkaaGreat

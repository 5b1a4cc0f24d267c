import Derived.Test.YtoohanojfoichaaGreatDoorOJBldPure
import Derived.Test.YtoohanojfoichaaGreatDoorOJDatChunk
import Derived.Test.YtoohanojfoichaaGreatDoorOFrgBlocks
import Derived.Deep.RegionHeld3
set_option linter.unusedVariables false
namespace Go.Proofs.YtoohanojfoichaaGreatDoor
open Go.RowKit Go.Maps
open Lz (g)
open Crc (ent)
open Frm Mtr Tre Nam Tab Bld
namespace Bld
def bw (l : List Nod) (v : Nat) : Nat := 135 * ((gn l v).data.length / 128)
def tw (l : List Nod) (v : Nat) : Nat := (gn l v).data.length % 128
structure CI (l : List Nod) (C : Cs) (k : Nat) : Prop where
 s1 : C.s.1.length ≤ sm (bw l) k
 s2 : C.s.2.length ≤ k
 b : C.b.length ≤ k
 fl : C.b.flatten.length ≤ sm (tw l) k
 ok : Frg.Ok C.b
 m : C.m.length ≤ k
theorem addS_len (s : Dat.Ws) (r : List Int) : (Dat.addS 64 s r).1.length ≤ s.1.length + r.length ∧ (Dat.addS 64 s r).2.length ≤ s.2.length + 1 := by
 unfold Dat.addS
 split
 ·exact ⟨Nat.le_add_right _ _, Nat.le_succ _⟩
 ·split
  ·exact ⟨Nat.le_add_right _ _, Nat.le_succ _⟩
  ·simp
theorem cont_inv (l : List Nod) : ∀ k, CI l (cont l k) k
 | 0 => ⟨Nat.le_refl _, Nat.le_refl _, Nat.le_refl _, Nat.le_refl _, Frg.ok_nil, Nat.le_refl _⟩
 | k + 1 => by
  have h := cont_inv l k
  rw [cont]
  unfold cstep
  have hs := h.s1; have hs2 := h.s2; have hb := h.b; have hf := h.fl; have hm := h.m
  split
  ·exact ⟨by rw [sm]; omega, by omega, by omega, by rw [sm]; omega, h.ok, by omega⟩
  ·have h1 := addS_len (cont l k).s (Dat.run ent (gn l k).data)
   have h2 := Dat.run_length ent (gn l k).data
   have h3 := Frg.add_length (cont l k).b (Dat.tl (gn l k).data)
   have h4 := Frg.add_flat (cont l k).b (Dat.tl (gn l k).data)
   have h5 := Dat.tl_length (gn l k).data
   have e1 : bw l k = 135 * ((gn l k).data.length / 128) := rfl
   have e2 : tw l k = (gn l k).data.length % 128 := rfl
   exact ⟨by rw [sm]; simp only []; omega, by simp only []; omega, by simp only []; omega, by rw [sm]; simp only []; omega, Frg.ok_add h.ok _, by simp only [List.length_append, List.length_cons, List.length_nil]; omega⟩
theorem plc_len (B : Frg.Bl) (hk : Frg.Ok B) (s : List Int) : ∀ k, k ≤ B.length → (plc B s k).1.length ≤ s.length + 135 * k ∧ (plc B s k).2.length = k
 | 0, _ => ⟨Nat.le_refl _, rfl⟩
 | k + 1, h => by
  have h1 := plc_len B hk s k (by omega)
  have e : B.getD k [] = B[k] := by simp [show k < B.length by omega]
  have h2 := (put_length (T := ent) (b := B.getD k []) (by rw [e]; exact (hk _ (List.getElem_mem _)).2)).2.2
  rw [plc]
  simp only [List.length_append, List.length_cons, List.length_nil]
  omega
end Bld
structure CJ (w0 w : World) (tb p q cb fb : Nat) (od og : Nat → Prop) (C : Cs) : Prop where
 bel : Below w0.heap.size w0 w
 wd : WrD w p od tb 64 C.s
 pk : PkP w q og C.b
 mf : MpF w fb C.m
 cc : w.heap[cb]? = some (.cells #[.slice none 0 0, .slice none 0 0, .map (some fb)] 52 (0, 0))
 dd : ∀ k, od k → w0.heap.size ≤ k ∧ ¬ og k ∧ k ≠ fb ∧ k ≠ cb
 dg : ∀ k, og k → w0.heap.size ≤ k ∧ k ≠ fb ∧ k ≠ cb
 lf : w0.heap.size ≤ fb
 lc : w0.heap.size ≤ cb
section
variable {w0 w w' : World} {tb p q cb fb : Nat} {od og od' og' : Nat → Prop} {C : Cs}
theorem CJ.below (h : CJ w0 w tb p q cb fb od og C) (hb : Below w.heap.size w w') : CJ w0 w' tb p q cb fb od og C :=
 ⟨h.bel.trans (hb.mono h.bel.size), h.wd.below hb, h.pk.below hb, h.mf.same (hb.block _ h.mf.lt), (hb.block _ (heap_lt h.cc)).trans h.cc, h.dd, h.dg, h.lf, h.lc⟩
theorem CJ.addD (h : CJ w0 w tb p q cb fb od og C) {s : Dat.Ws} (hw : WrD w' p od' tb 64 s) (hf : Fr od w w') (hg : Gr od od' w) : CJ w0 w' tb p q cb fb od' og { C with s := s } :=
 ⟨h.bel.trans (hf.below _ h.bel.size (fun k hk => (h.dd k hk).1)), hw, h.pk.fr hf (fun k hk hd => (h.dd k hd).2.1 hk), h.mf.same (hf.block _ h.mf.lt (fun hd => (h.dd _ hd).2.2.1 rfl)), (hf.block _ (heap_lt h.cc) (fun hd => (h.dd _ hd).2.2.2 rfl)).trans h.cc,
  fun k hk => by
   rcases hg k hk with hk | hk
   ·exact h.dd k hk
   ·exact ⟨Nat.le_trans h.bel.size hk, fun ho => by have := h.pk.olt k ho; omega, fun e => by have := h.mf.lt; omega, fun e => by have := heap_lt h.cc; omega⟩, h.dg, h.lf, h.lc⟩
theorem CJ.addG (h : CJ w0 w tb p q cb fb od og C) {b : Frg.Bl} (hw : PkP w' q og' b) (hf : Fr og w w') (hg : Gr og og' w) : CJ w0 w' tb p q cb fb od og' { C with b := b } :=
 ⟨h.bel.trans (hf.below _ h.bel.size (fun k hk => (h.dg k hk).1)), h.wd.fr hf (fun k hk hd => (h.dd k hk).2.1 hd), hw, h.mf.same (hf.block _ h.mf.lt (fun hd => (h.dg _ hd).2.1 rfl)), (hf.block _ (heap_lt h.cc) (fun hd => (h.dg _ hd).2.2 rfl)).trans h.cc,
  fun k hk => ⟨(h.dd k hk).1, fun ho => by
   rcases hg k ho with ho | ho
   ·exact (h.dd k hk).2.1 ho
   ·have := h.wd.olt k hk; omega, (h.dd k hk).2.2⟩, fun k hk => by
   rcases hg k hk with hk | hk
   ·exact h.dg k hk
   ·exact ⟨Nat.le_trans h.bel.size hk, fun e => by have := h.mf.lt; omega, fun e => by have := heap_lt h.cc; omega⟩, h.lf, h.lc⟩
theorem CJ.addM (h : CJ w0 w tb p q cb fb od og C) {M : Fm} (hm : MpF w' fb M) (hg : w.grownBy w' (some fb)) : CJ w0 w' tb p q cb fb od og { C with m := M } := by
 have hf : Fr (One fb) w w' := Fr.of_grown hg (fun k hk => by injection hk with hk; exact hk.symm)
 exact ⟨h.bel.trans (hf.below _ h.bel.size (fun k (hk : k = fb) => by rw [hk]; exact h.lf)), h.wd.fr hf (fun k hk hd => (h.dd k hk).2.2.1 hd), h.pk.fr hf (fun k hk hd => (h.dg k hk).2.1 hd), hm, (hf.block _ (heap_lt h.cc) (fun hd => h.mf.ne h.cc hd)).trans h.cc, h.dd, h.dg, h.lf, h.lc⟩
end
theorem step_append_int (w : World) {ops : Array Oper} {o : Oper} {a : Act} {K : Act → World → Prop} {Q : Exit → Act → World → Prop} {E : Prop} (hgd : o.guard = none) (s x : Operand)
  (ho : o.op = .call { callee := .builtin .append, args := #[s, x], argTypes := #[49, 49] })
  (base : Nat) (vo : Option Addr) (n vc : Nat) (l : List Int) (hs : a.eval s = .slice vo n vc) (hown : w.ownsRow base 3 1 (.slice vo n vc) n (zv l))
  (gb : Nat) (t : Int) (hx : a.eval x = .slice (some ⟨gb, 0, none⟩) 1 1) (hp : w.cell? ⟨gb, 0, none⟩ = some (.int .i64 t)) (hbd : n ≤ 100000000) (hbase : base ≤ w.heap.size)
  (h : ∀ g cap w', w'.ownsRow base 3 1 (.slice (some ⟨g, 0, none⟩) (n + 1) cap) (n + 1) (zv (l ++ [t])) → w.grownBy w' (Value.slice vo n vc).ownBlock → ((Value.slice vo n vc).ownBlock = some g ∨ g = w.heap.size) → g < w'.heap.size → K (a.put o.dst (.slice (some ⟨g, 0, none⟩) (n + 1) cap)) w') :
  if Region.wanted o (yielded ops a.tmps) = true then Oper.wp Tryz.prog o a w K Q else E := by
 obtain ⟨i0, hi, hz0, hz1, hz2⟩ := info_parts infoNum
 refine step_append_lies (P := Tryz.prog) (w := w) hgd s x 49 ho base 3 i0 (.int .i64 0) 1 8 Tryz.underlying49 hi hz0 hz1 hz2 rfl (by decide) (.slice vo n vc) n (zv l) hs hown ⟨gb, 0, none⟩ 1 1 [.int .i64 t] hx (by simp) ?_ (by simp; rfl) (by omega) (by unfold maxLen; omega) (by omega) hbase w.heap.size rfl ?_
 ·intro j u hj
  match j, hj with
  | 0, hj => simp at hj; subst hj; simpa [Addr.add] using hp
 ·intro g cap w' h1 h2 h3 h4
  exact h g cap w' (by rw [zv_append]; exact h1) h2 h3 h4
structure CK (wa w4 : World) (o4 : Nat → Prop) (w : World) (tb p cb fb : Nat) (od : Nat → Prop) (C : Cs) (k : Nat) (po : Option Addr) (pc : Nat) : Prop where
 bel : Below wa.heap.size wa w
 wd : WrD w p od tb 64 ((plc C.b C.s.1 k).1, C.s.2)
 mf : MpF w fb C.m
 cc : w.heap[cb]? = some (.cells #[.slice none 0 0, .slice po k pc, .map (some fb)] 52 (0, 0))
 ow : w.ownsRow w4.heap.size 3 1 (.slice po k pc) k (zv (plc C.b C.s.1 k).2)
 no : ∀ g, (Value.slice po k pc).ownBlock = some g → ¬ od g
 fr : Fr (fun j => o4 j ∨ j = cb) w4 w
 gr : Gr o4 od w4
 dd : ∀ k, od k → wa.heap.size ≤ k ∧ k ≠ fb ∧ k ≠ cb
 lc : wa.heap.size ≤ cb
 l4 : wa.heap.size ≤ w4.heap.size ∧ fb < w4.heap.size ∧ cb < w4.heap.size
section
variable {wa w4 w w' : World} {o4 od od' : Nat → Prop} {tb p cb fb k pc : Nat} {po : Option Addr} {C : Cs}
theorem CK.below (h : CK wa w4 o4 w tb p cb fb od C k po pc) (hb : Below w.heap.size w w') : CK wa w4 o4 w' tb p cb fb od C k po pc :=
 ⟨h.bel.trans (hb.mono h.bel.size), h.wd.below hb, h.mf.same (hb.block _ h.mf.lt), (hb.block _ (heap_lt h.cc)).trans h.cc, owns_below h.ow hb, h.no, h.fr.then (Fr.of_below hb), h.gr, h.dd, h.lc, h.l4⟩
theorem CK.step {w5 w6 : World} {g cap A : Nat} {o : Obj} (h : CK wa w4 o4 w tb p cb fb od C k po pc) (hA : A = 64 + (plc C.b C.s.1 k).1.length) (hw : WrD w5 p od' tb 64 ((plc C.b C.s.1 k).1 ++ put ent (C.b.getD k []), C.s.2)) (hf : Fr od w w5) (hg : Gr od od' w)
  (h6 : w6.ownsRow w4.heap.size 3 1 (.slice (some ⟨g, 0, none⟩) (k + 1) cap) (k + 1) (zv ((plc C.b C.s.1 k).2 ++ [(A : Int)]))) (hg6 : (w5.alloc o).grownBy w6 (Value.slice po k pc).ownBlock) (hl : (Value.slice po k pc).ownBlock = some g ∨ g = (w5.alloc o).heap.size) :
  w6.heap[cb]? = some (.cells #[.slice none 0 0, .slice po k pc, .map (some fb)] 52 (0, 0)) ∧ CK wa w4 o4 (w6.setCell ⟨cb, 1, none⟩ (.slice (some ⟨g, 0, none⟩) (k + 1) cap)) tb p cb fb od' C (k + 1) (some ⟨g, 0, none⟩) cap := by
 have hb5 : Below w5.heap.size w5 (w5.alloc o) := (Below.refl _ w5).alloc (Nat.le_refl _) o
 have f5 : Fr od w (w5.alloc o) := hf.then (Fr.of_below hb5)
 have hfg : Fr (fun i => (Value.slice po k pc).ownBlock = some i) (w5.alloc o) w6 := Fr.of_grown hg6 (fun i hi => hi)
 have hpl : ∀ i, (Value.slice po k pc).ownBlock = some i → w4.heap.size ≤ i := fun i hi => (h.ow.lt i hi).1
 have hod' : ∀ i, (Value.slice po k pc).ownBlock = some i → ¬ od' i := fun i hi ho => by
  rcases hg i ho with h1 | h1
  ·exact h.no i hi h1
  ·have := (h.ow.lt i hi).2; omega
 have hcl := heap_lt h.cc
 have hfl := h.mf.lt
 have hl4 := h.l4
 have c5 : (w5.alloc o).heap[cb]? = _ := (f5.block _ hcl (fun ho => (h.dd _ ho).2.2 rfl)).trans h.cc
 have m5 : MpF (w5.alloc o) fb C.m := h.mf.same (f5.block _ hfl (fun ho => (h.dd _ ho).2.1 rfl))
 have c6 : w6.heap[cb]? = _ := (hfg.block _ (heap_lt c5) (fun hi => by have := hpl _ hi; omega)).trans c5
 have m6 : MpF w6 fb C.m := m5.same (hfg.block _ m5.lt (fun hi => by have := hpl _ hi; omega))
 have wd6 : WrD w6 p od' tb 64 ((plc C.b C.s.1 k).1 ++ put ent (C.b.getD k []), C.s.2) := (hw.below hb5).fr hfg (fun i ho hi => hod' i hi ho)
 have fs : Fr (One cb) w6 (w6.setCell ⟨cb, 1, none⟩ (.slice (some ⟨g, 0, none⟩) (k + 1) cap)) := (Fr.refl (One cb) _).set (p := ⟨cb, 1, none⟩) _ (fun _ => rfl)
 have hodc : ∀ i, od' i → wa.heap.size ≤ i ∧ i ≠ fb ∧ i ≠ cb := fun i ho => by
  rcases hg i ho with h1 | h1
  ·exact h.dd i h1
  ·have := h.bel.size; exact ⟨by omega, by omega, by omega⟩
 have hgn : g ≠ cb ∧ ¬ od' g ∧ w4.heap.size ≤ g := by
  rcases hl with hl | hl
  ·have := hpl _ hl; exact ⟨by omega, hod' g hl, this⟩
  ·have h1 := f5.size; have h2 := hw.olt; have h3 := hb5.size; have h4 := h.fr.size
   exact ⟨by have := heap_lt c5; omega, fun ho => by have := h2 g ho; omega, by omega⟩
 refine ⟨c6, ?_⟩
 have b6 : Below wa.heap.size wa w6 := (h.bel.trans (f5.below _ h.bel.size (fun i hi => (h.dd i hi).1))).trans (hfg.below _ (Nat.le_trans h.bel.size f5.size) (fun i hi => by have := hpl i hi; omega))
 refine ⟨b6.trans (fs.below _ b6.size (fun i (hi : i = cb) => by rw [hi]; exact h.lc)), wd6.fr fs (fun i ho (hi : i = cb) => (hodc i ho).2.2 hi), m6.same (fs.block _ m6.lt (fun (hi : fb = cb) => m6.ne c6 hi.symm)), ?_, ?_, ?_, ?_, ?_, hodc, h.lc, hl4⟩
 ·exact heap_setCell_self c6 _
 ·have := owns_fr h6 fs (fun i hi (hc : i = cb) => by simp [Value.ownBlock] at hi; exact hgn.1 (hi.trans hc))
  rw [hA] at this
  exact this
 ·intro i hi
  simp [Value.ownBlock] at hi
  rw [← hi]; exact hgn.2.1
 ·have f1 : Fr (fun j => o4 j ∨ j = cb) w4 (w5.alloc o) := h.fr.trans f5 (fun i hi ho => by
   rcases h.gr i ho with h1 | h1
   ·exact .inl h1
   ·omega)
  have f2 : Fr (fun j => o4 j ∨ j = cb) w4 w6 := f1.trans hfg (fun i hi ho => by have := hpl i ho; omega)
  exact f2.trans fs (fun i _ hi => .inr hi)
 ·exact h.gr.trans hg h.fr.size
end
def CAns (l : List Nod) (w : World) (e : Ending) (w' : World) : Prop :=
 ∃ bo bc po pc fb, e = .returned (.agg #[.slice bo (plc (cont l l.length).b (cont l l.length).s.1 (cont l l.length).b.length).1.length bc, .slice po (cont l l.length).b.length pc, .map (some fb)]) ∧
  Bs w' bo (plc (cont l l.length).b (cont l l.length).s.1 (cont l l.length).b.length).1.length (plc (cont l l.length).b (cont l l.length).s.1 (cont l l.length).b.length).1 ∧ (bo = none → bc = 0) ∧
  Zs w' po (cont l l.length).b.length (plc (cont l l.length).b (cont l l.length).s.1 (cont l l.length).b.length).2 ∧ MpF w' fb (cont l l.length).m ∧ Below w.heap.size w w'
set_option maxRecDepth 100000 in
set_option maxHeartbeats 2000000 in
theorem cont_any (a : Option Addr) (n c tb : Nat) (L : List (Nv × Nod)) (w : World) (hN : Ns w a n L) (hT : Tb w tb ent) (htb : tb < w.heap.size) (hn : n ≤ 40) (hd : ∀ p ∈ L, p.2.data.length ≤ 4096) (hin : ∀ p ∈ L, (Lit.int .i64 p.2.ino).wf = true) :
  Calls Tryz.prog 15 #[.pointer (some ⟨tb, 0, none⟩), .slice a n c] w (CAns (nds L) w) := by
 have HN := hide hN
 have HT := hide hT
 have HD := hide hd
 have HI := hide hin
 have HNw := hide (fun (w' : World) => dNew_any tb 64 w')
 have HFw := hide fNew_any
 have mkm : ∀ w' : World, (Instr.makeMap 50 none).run Tryz.prog w' = .ok (.map (some w'.heap.size)) (w'.alloc (.map #[] 0)) := fun w' => by simp [Instr.makeMap, Result.andThen]
 have hl := hN.1
 clear hN hT hd hin
 go_enter Tryz.func15, Tryz.ntmps15
 go_wp2_with fail
 obtain ⟨wa, hwa⟩ : ∃ wa, wa = w.alloc (.cells #[.slice none 0 0, .slice none 0 0, .map none] 52) := ⟨_, rfl⟩
 have hba : Below w.heap.size w wa := by rw [hwa]; exact (Below.refl _ w).alloc (Nat.le_refl _) _
 have hpa : wa.heap[w.heap.size]? = some (.cells #[.slice none 0 0, .slice none 0 0, .map none] 52 (0, 0)) := by rw [hwa]; exact heap_alloc_new _ _
 rw [← hwa]
 clear hwa
 refine (HNw.out wa).mono ?_
 rintro r w1 ⟨rfl, hD1, hb1⟩
 obtain ⟨p, hp⟩ : ∃ p, p = wa.heap.size + 1 := ⟨_, rfl⟩
 rw [← hp] at hD1 ⊢
 have HPe := hide hp
 clear hp
 have HD1 := hide hD1
 have HB1 := hide hb1
 have HPA := hide hpa
 have HBA := hide hba
 clear hD1 hb1 HNw hpa hba
 go_wp2_with fail
 refine (HFw.out w1).mono ?_
 rintro r w2 ⟨rfl, hP2, hb2, hs2⟩
 obtain ⟨q, hq⟩ : ∃ q, q = w1.heap.size := ⟨_, rfl⟩
 rw [← hq] at hP2 ⊢
 have HQe := hide hq
 clear hq
 have HP2 := hide hP2
 have HB2 := hide hb2
 clear hP2 hb2 hs2 HFw
 go_wp2_with fail
 obtain ⟨w3, hw3⟩ : ∃ w3, w3 = (w2.alloc (.map #[] 0)).alloc (.cells #[.slice none 0 0, .slice none 0 0, .map (some w2.heap.size)] 52) := ⟨_, rfl⟩
 rw [← hw3]
 obtain ⟨fb, hfb⟩ : ∃ fb, fb = w2.heap.size := ⟨_, rfl⟩
 rw [← hfb]
 obtain ⟨cb, hcb⟩ : ∃ cb, cb = fb + 1 := ⟨_, rfl⟩
 rw [← hcb]
 have HJ0 : Hid (CJ wa w3 tb p q cb fb (fun k => wa.heap.size ≤ k ∧ k < wa.heap.size + 2) (One q) cs0) := by
  obtain ⟨t1, t2, t3⟩ := two_boxes w2 (.map #[] 0) (.cells #[.slice none 0 0, .slice none 0 0, .map (some w2.heap.size)] 52)
  rw [← hw3] at t1 t2 t3
  have hp := HPe.out
  have hq := HQe.out
  have z1 := HB1.out.size
  have z2 := HB2.out.size
  have z3 := HD1.out.olt (wa.heap.size + 1) ⟨by omega, by omega⟩
  have b13 : Below w1.heap.size w1 w3 := HB2.out.trans (t1.mono z2)
  have g1 : ∀ k, (wa.heap.size ≤ k ∧ k < wa.heap.size + 2) → wa.heap.size ≤ k ∧ ¬ One q k ∧ k ≠ fb ∧ k ≠ cb := fun k hk => by
   refine ⟨hk.1, fun (e : k = q) => ?_, ?_, ?_⟩ <;> omega
  have g2 : ∀ k, One q k → wa.heap.size ≤ k ∧ k ≠ fb ∧ k ≠ cb := fun k (hk : k = q) => by
   have := HP2.out.olt q rfl
   refine ⟨?_, ?_, ?_⟩ <;> omega
  refine ⟨HB1.out.trans (b13.mono z1), HD1.out.below b13, HP2.out.below t1, ?_, by rw [hcb, hfb]; exact t3, g1, g2, by omega, by omega⟩
  have := (MpF.new w2).same (w' := w3) (b := w2.heap.size) (by rw [t2]; exact (heap_alloc_new w2 _).symm)
  rw [hfb]; exact this
 clear hw3 hfb hcb HD1 HP2 HB1 HB2 HPe HQe
 go_loopw [9, 10, 11, 12, 13, 14, 15, 25] (fun _ _ _ _ _ _ _ r25 wr => ∃ (i : Nat) (od og : Nat → Prop), r25 = .int .i64 i ∧ i ≤ n ∧ CJ wa wr tb p q cb fb od og (cont (nds L) i)) (fun _ _ _ _ _ _ _ r25 _ => n - (intOf r25).toNat)
 case atStart => exact ⟨0, _, _, rfl, Nat.zero_le _, HJ0.out⟩
 case round =>
  clear HJ0
  obtain ⟨i, od, og, rfl, hin, hJ⟩ := hrel
  by_cases hlt : i < n
  ·have hdl : decide ((i : Int) < n) = true := by simpa using hlt
   have hiL : i < L.length := by omega
   have hg := gn_nds L i hiL
   have hbW : Below w.heap.size w wr := HBA.out.trans (hJ.bel.mono HBA.out.size)
   have hNs := HN.out.below hbW
   have hRp := hNs.rep i hlt
   obtain ⟨v, hv⟩ : ∃ v, v = (gl L i).1 := ⟨_, rfl⟩
   obtain ⟨nb, noff, hxa, hnb, hcells⟩ := hNs.at (by omega)
   have hNA := hcells i hlt
   have hmem := gl_mem L i hiL
   have hdlen := HD.out _ hmem
   have hwf := HI.out _ hmem
   rw [← hg] at hdlen hwf
   rw [← hv, ← hg] at hRp
   rw [← hv] at hNA
   obtain ⟨d0, d1, d2, d3, d4, d5, d6, d7, d8, d9⟩ := hNA
   subst hxa
   have hCI := cont_inv (nds L) i
   have hbw : sm (bw (nds L)) i ≤ 4320 * i := sm_const i (fun k hk => by
    have := HD.out _ (gl_mem L k (by omega))
    unfold bw; rw [gn_nds L k (by omega)]; omega)
   have htw : sm (tw (nds L)) i ≤ 127 * i := sm_const i (fun k hk => by unfold tw; omega)
   have HC1 : Hid (cont (nds L) (i + 1) = cstep (cont (nds L) i) (gn (nds L) i)) := rfl
   obtain ⟨C, hC⟩ : ∃ C, C = cont (nds L) i := ⟨_, rfl⟩
   rw [← hC] at hJ hCI HC1
   clear hC
   obtain ⟨wB, hwB⟩ : ∃ wB, wB = wr.alloc (.cells v.cells 48) := ⟨_, rfl⟩
   have hbB : Below wr.heap.size wr wB := by rw [hwB]; exact (Below.refl _ wr).alloc (Nat.le_refl _) _
   have hp9 : wB.heap[wr.heap.size]? = some (.cells v.cells 48 (0, 0)) := by rw [hwB]; exact heap_alloc_new _ _
   have hJB := hJ.below hbB
   rw [hRp.ino] at hwf
   have hlk := hJB.mf.look hwf
   have q2 : wB.cell? ⟨cb, 2, none⟩ = some (.map (some fb)) := by simp [World.cell?, hJB.cc]
   have q1 : wB.cell? ⟨wr.heap.size, 1, none⟩ = some (.int .i64 v.ino) := by simp [World.cell?, hp9, Nv.cells]
   have q3 : wB.cell? ⟨wr.heap.size, 2, none⟩ = some (.int .i64 v.kind) := by simp [World.cell?, hp9, Nv.cells]
   have hw1 : IntKind.i64.wrap ((i : Int) + 1) = (i : Int) + 1 := by rw [IntKind.wrap_i64]; omega
   have eB : wr.alloc (Obj.cells #[.slice v.na v.nn v.nc, .int .i64 v.ino, .int .i64 v.kind, .int .i64 v.mode, .int .i64 v.uid, .int .i64 v.gid, .slice v.da v.dn v.dc, .string v.tg, .slice v.xa v.xn v.xc, .bool v.op] 48) = wB := by rw [hwB]; rfl
   cases hlo : lkF C.m v.ino with
   | some fl =>
    rw [hlo] at hlk
    unfold flv at hlk
    have HX : Hid (CJ wa wB tb p q cb fb od og (cont (nds L) (i + 1))) := by
     have e : cstep C (gn (nds L) i) = C := by unfold cstep; rw [if_pos (.inr (by rw [hRp.ino, hlo]; rfl))]
     show CJ _ _ _ _ _ _ _ _ _ _
     rw [HC1.out, e]; exact hJB
    have HEB := hide eB
    clear hJ hJB hCI hRp hNs hcells hbW hmem hdlen hwf hv hg hwB eB
    go_upto_region 6 with fail
    rw [HEB.out]
    clear d0 d1 d2 d3 d4 d5 d6 d7 d8 d9
    go_wp2
    refine ⟨⟨i + 1, od, og, by go_num, by omega, ?_⟩, by simp [intOf]; omega⟩
    exact HX.out.below ((Below.refl _ wB).alloc (Nat.le_refl _) _)
   | none =>
    rw [hlo] at hlk
    unfold flv at hlk
    by_cases hk2 : v.kind = 2
    ·have ek : (v.kind == 2) = true := by simpa using hk2
     have e : cstep C (gn (nds L) i) = ⟨Dat.addS 64 C.s (Dat.run ent (gn (nds L) i).data), (Frg.add C.b (Dat.tl (gn (nds L) i).data)).1, C.m ++ [(v.ino, ⟨Dat.addA 64 C.s (Dat.run ent (gn (nds L) i).data), (Frg.add C.b (Dat.tl (gn (nds L) i).data)).2.1, (Frg.add C.b (Dat.tl (gn (nds L) i).data)).2.2⟩)]⟩ := by
      unfold cstep
      rw [if_neg (by rw [hRp.ino, hlo, hRp.kind, hk2]; simp), hRp.ino]
     rw [e] at HC1
     obtain ⟨wC, hwC⟩ : ∃ wC, wC = wB.alloc (.cells #[.int .i64 0, .int .i64 0, .int .i64 0] 85) := ⟨_, rfl⟩
     have hbC : Below wB.heap.size wB wC := by rw [hwC]; exact (Below.refl _ wB).alloc (Nat.le_refl _) _
     have hJC := hJB.below hbC
     have hbWC : Below w.heap.size w wC := HBA.out.trans (hJC.bel.mono HBA.out.size)
     have hdc := hRp.dc
     obtain ⟨z, hz⟩ : ∃ z, z = (gn (nds L) i).data := ⟨_, rfl⟩
     have hDat : Bs wC v.da v.dn z := by rw [hz]; exact (hRp.data.below hbB).below hbC
     have hdn := hDat.1
     rw [← hz] at HC1 hdlen
     have HAd := hide (dAdd_any p tb 64 v.dn v.dc od v.da ent C.s z wC hJC.wd (HT.out.below hbWC htb) (Nat.lt_of_lt_of_le htb hbWC.size) small_ent hDat hRp.dc hRp.dcm hRp.dnil (by omega) (by have := hCI.s1; omega) (by have := hCI.s2; omega) (by omega))
     unfold DAdds at HAd
     have hp9C := (hbC.block _ (heap_lt hp9)).trans hp9
     have q6 : wC.cell? ⟨wr.heap.size, 6, none⟩ = some (.slice v.da v.dn v.dc) := by simp [World.cell?, hp9C, Nv.cells]
     have q3C : wC.cell? ⟨wr.heap.size, 2, none⟩ = some (.int .i64 v.kind) := by simp [World.cell?, hp9C, Nv.cells]
     have HP9 := hide hp9C
     have HJC := hide hJC
     have HCI := hide hCI
     have HEB := hide eB
     have HEC : Hid (wB.alloc (.cells #[.int .i64 0, .int .i64 0, .int .i64 0] 85) = wC) := hwC.symm
     have hltr : wr.heap.size < wC.heap.size := heap_lt hp9C
     have HNd : Hid (¬ od wr.heap.size ∧ ¬ og wr.heap.size ∧ wr.heap.size ≠ fb) := ⟨fun ho => by have := hJ.wd.olt _ ho; omega, fun ho => by have := hJ.pk.olt _ ho; omega, fun e => by have := hJ.mf.lt; omega⟩
     clear hJ hJB hJC hCI hRp hNs hcells hbW hbWC hmem hv hg hwB hwC eB hDat hz hk2 hp9 hp9C hbC hbB e
     go_upto_region 6 with fail
     rw [HEB.out]
     clear d0 d1 d2 d3 d4 d5 d6 d7 d8 d9
     go_upto_region 7 with fail
     rw [HEC.out]
     clear q1 q2 q3 hlk
     go_wp2_with fail
     refine HAd.out.mono ?_
     rintro r w4 ⟨ao, c4, rfl, hB4, ⟨hn4, hnil4⟩, od4, hW4, hF4, hG4, hno4⟩
     have hJ4 := HJC.out.addD hW4 hF4 hG4
     have hp94 := (hF4.block _ hltr HNd.out.1).trans HP9.out
     obtain ⟨tz, htz⟩ : ∃ tz, tz = Dat.tl z := ⟨_, rfl⟩
     rw [← htz] at hB4 hno4 HC1 ⊢
     have hog : ∀ a, ao = some a → 0 < tz.length → ¬ og a.block := fun a ha _ ho => by have := hn4 a ha; have := HJC.out.pk.olt _ ho; omega
     have htl4 : tz.length ≤ 128 := by rw [htz, Dat.tl_length]; omega
     have HFa := hide (fAdd_any q tz.length c4 og ao C.b tz w4 hJ4.pk HCI.out.ok hB4 hnil4 hog (by have := HCI.out.b; omega) (by have := HCI.out.fl; omega) (by omega))
     unfold FAdds at HFa
     have HJ4 := hide hJ4
     have HP94 := hide hp94
     have hltr4 := heap_lt hp94
     obtain ⟨A4, hA4⟩ : ∃ A4, A4 = Dat.addA 64 C.s (Dat.run ent z) := ⟨_, rfl⟩
     obtain ⟨F4, hF4e⟩ : ∃ F4, F4 = Frg.add C.b tz := ⟨_, rfl⟩
     rw [← hA4, ← hF4e] at HC1
     rw [← hF4e] at HFa
     rw [← hA4]
     generalize Dat.addS 64 C.s (Dat.run ent z) = S4 at *
     generalize tz.length = tl4 at *
     clear hB4 hn4 hnil4 hW4 hF4 hG4 hno4 hog hJ4 hp94 htz HAd HJC HP9 hA4 hF4e q6 q3C
     go_wp2_with fail
     refine HFa.out.mono ?_
     rintro r w5 ⟨rfl, og5, hP5, hF5, hG5⟩
     have hJ5 := HJ4.out.addG hP5 hF5 hG5
     have hp95 := (hF5.block _ hltr4 HNd.out.2.1).trans HP94.out
     have q2 : w5.cell? ⟨cb, 2, none⟩ = some (.map (some fb)) := by simp [World.cell?, hJ5.cc]
     have q1 : w5.cell? ⟨wr.heap.size, 1, none⟩ = some (.int .i64 v.ino) := by simp [World.cell?, hp95, Nv.cells]
     obtain ⟨w6, k1, k2, k3⟩ := hJ5.mf.store (x := v.ino) hwf (by show C.m.length ≤ _; have := HCI.out.m; omega) hlo ⟨A4, F4.2.1, F4.2.2⟩
     unfold flv at k1
     have HX : Hid (CJ wa w6 tb p q cb fb od4 og5 (cont (nds L) (i + 1))) := by
      show CJ _ _ _ _ _ _ _ _ _ _
      rw [HC1.out]
      exact hJ5.addM k2 k3
     clear hJ5 hp95 hP5 hF5 hG5 HFa k2 k3 HJ4 HP94
     go_wp2
     exact ⟨⟨i + 1, od4, og5, by go_num, by omega, HX.out⟩, by simp [intOf]; omega⟩
    ·have ek : (v.kind == 2) = false := by simpa using hk2
     have HX : Hid (CJ wa wB tb p q cb fb od og (cont (nds L) (i + 1))) := by
      have e : cstep C (gn (nds L) i) = C := by unfold cstep; rw [if_pos (.inl (by rw [hRp.kind]; exact hk2))]
      show CJ _ _ _ _ _ _ _ _ _ _
      rw [HC1.out, e]; exact hJB
     have HEB := hide eB
     have q3C : ∀ o, (wB.alloc o).cell? ⟨wr.heap.size, 2, none⟩ = some (.int .i64 v.kind) := fun o => (((Below.refl _ wB).alloc (Nat.le_refl _) o).cell (p := ⟨wr.heap.size, 2, none⟩) (heap_lt hp9)).trans q3
     clear hJ hJB hCI hRp hNs hcells hbW hmem hdlen hwf hv hg hwB eB hk2
     go_upto_region 6 with fail
     rw [HEB.out]
     clear d0 d1 d2 d3 d4 d5 d6 d7 d8 d9
     go_wp2
     refine ⟨⟨i + 1, od, og, by go_num, by omega, ?_⟩, by simp [intOf]; omega⟩
     exact HX.out.below ((Below.refl _ wB).alloc (Nat.le_refl _) _)
  ·obtain rfl : i = n := by omega
   have hdl : decide ((i : Int) < (i : Int)) = false := by simp
   have hCI := cont_inv (nds L) i
   have htw : sm (tw (nds L)) i ≤ 127 * i := sm_const i (fun k hk => by unfold tw; omega)
   have hbw : sm (bw (nds L)) i ≤ 4320 * i := sm_const i (fun k hk => by
    have := HD.out _ (gl_mem L k (by omega))
    unfold bw; rw [gn_nds L k (by omega)]; omega)
   have hil : (nds L).length = i := by rw [nds_length]; exact hl
   have HAns : Hid (∀ e w', (∃ bo bc po pc fb, e = .returned (.agg #[.slice bo (plc (cont (nds L) i).b (cont (nds L) i).s.1 (cont (nds L) i).b.length).1.length bc, .slice po (cont (nds L) i).b.length pc, .map (some fb)]) ∧
     Bs w' bo (plc (cont (nds L) i).b (cont (nds L) i).s.1 (cont (nds L) i).b.length).1.length (plc (cont (nds L) i).b (cont (nds L) i).s.1 (cont (nds L) i).b.length).1 ∧ (bo = none → bc = 0) ∧
     Zs w' po (cont (nds L) i).b.length (plc (cont (nds L) i).b (cont (nds L) i).s.1 (cont (nds L) i).b.length).2 ∧ MpF w' fb (cont (nds L) i).m ∧ Below w.heap.size w w') → CAns (nds L) w e w') := fun e w' h => by unfold CAns; rw [hil]; exact h
   obtain ⟨C, hC⟩ : ∃ C, C = cont (nds L) i := ⟨_, rfl⟩
   rw [← hC] at hJ hCI HAns
   have hcl : C.b.length ≤ 40 := by have := hCI.b; omega
   have HBk := hide (fBlocks_any q og C.b wr hJ.pk hCI.ok (by omega) (by have := hCI.fl; omega))
   have HJ := hide hJ
   have HCI := hide hCI
   have hsl : C.s.1.length ≤ 200000 := by have := hCI.s1; omega
   clear hC hJ hCI hil htw hbw HN HD HI
   go_wp2_with fail
   refine HBk.out.mono ?_
   rintro r w4 ⟨ao, rfl, hB4⟩
   have hJ4 := HJ.out.below hB4.bel
   have HK0 : Hid (CK wa w4 od w4 tb p cb fb od C 0 none 0) := ⟨hJ4.bel, hJ4.wd, hJ4.mf, hJ4.cc, World.ownsRow_nil _ _ _ _, fun g hg => by simp [Value.ownBlock] at hg, Fr.refl _ _, Gr.refl _ _, fun k hk => ⟨(hJ4.dd k hk).1, (hJ4.dd k hk).2.2⟩, hJ4.lc, ⟨hJ4.bel.size, hJ4.mf.lt, heap_lt hJ4.cc⟩⟩
   have HE : Hid (∀ j (h : j < C.b.length), ∃ gb A, ao = some ⟨gb, 0, none⟩ ∧ gb < w4.heap.size ∧ ¬ (od gb ∨ gb = cb) ∧ w4.cell? ⟨gb, j, none⟩ = some (.slice (some A) C.b[j].length C.b[j].length) ∧ Bs w4 (some A) C.b[j].length C.b[j] ∧ ¬ (od A.block ∨ A.block = cb)) := fun j h => by
    obtain ⟨gb, A, h1, h2, h3, h4, h5, h6, h7⟩ := hB4.each j h
    have z1 := HJ.out.wd.olt
    have z2 := heap_lt HJ.out.cc
    refine ⟨gb, A, h1, h3, ?_, h4, h5, ?_⟩
    ·rintro (ho | ho)
     ·have := z1 _ ho; omega
     ·omega
    ·rintro (ho | ho)
     ·have := z1 _ ho; omega
     ·omega
   clear hJ4 hB4 HBk HJ
   go_wp2_with fail
   go_loopw [17, 68] (fun _ r68 wr => ∃ (k : Nat) (od' : Nat → Prop) (po : Option Addr) (pc : Nat), r68 = .int .i64 k ∧ k ≤ C.b.length ∧ CK wa w4 od wr tb p cb fb od' C k po pc) (fun _ r68 _ => C.b.length - (intOf r68).toNat)
   case atStart => exact ⟨0, od, none, 0, rfl, Nat.zero_le _, HK0.out⟩
   case round =>
    clear HK0
    obtain ⟨k, od', po, pc, rfl, hkn, hK⟩ := hrel
    by_cases hlt2 : k < C.b.length
    ·have hd2 : decide ((k : Int) < ((C.b.length : Nat) : Int)) = true := by simpa using hlt2
     obtain ⟨gb, A, hao, hgl, hgn, hgc, hgB, hAn⟩ := HE.out k hlt2
     subst hao
     have cg : wr.cell? ⟨gb, k, none⟩ = some (.slice (some A) C.b[k].length C.b[k].length) := (hK.fr.cell (q := ⟨gb, k, none⟩) hgl hgn).trans hgc
     have hBk : Bs wr (some A) C.b[k].length C.b[k] := hgB.fr hK.fr (fun a ha _ => by obtain rfl := Option.some.inj ha; exact hAn)
     have hok := HCI.out.ok _ (List.getElem_mem hlt2)
     have hpl := plc_len C.b HCI.out.ok C.s.1 k (by omega)
     have hbW : Below w.heap.size w wr := HBA.out.trans (hK.bel.mono HBA.out.size)
     have hFr := dFrame_any p tb 64 C.b[k].length C.b[k].length od' (some A) ent ((plc C.b C.s.1 k).1, C.s.2) C.b[k] wr.drew (hK.wd.below (drewN_below wr 1)) ((HT.out.below hbW htb).below (drewN_below (B := wr.heap.size) wr 1) (Nat.lt_of_lt_of_le htb hbW.size)) (Nat.lt_of_lt_of_le htb hbW.size) small_ent (show Bs wr.drew _ _ _ from hBk) (Nat.le_refl _) (fun h => by simp at h) (by omega) (by show (plc C.b C.s.1 k).1.length ≤ _; omega) hok.2
     have eg : C.b.getD k [] = C.b[k] := by simp [hlt2]
     rw [← eg] at hFr hBk cg hok
     obtain ⟨Ap, hAp⟩ : ∃ Ap, Ap = 64 + (plc C.b C.s.1 k).1.length := ⟨_, rfl⟩
     have hFr2 : Calls Tryz.prog 40 #[.pointer (some ⟨p, 0, none⟩), .slice (some A) (C.b.getD k []).length (C.b.getD k []).length] wr.drew fun e w' => e = .returned (.int .i64 (Ap : Int)) ∧ ∃ O', WrD w' p O' tb 64 ((plc C.b C.s.1 k).1 ++ put ent (C.b.getD k []), C.s.2) ∧ Fr od' wr.drew w' ∧ Gr od' O' wr.drew := by rw [hAp]; exact hFr
     have HFr := hide hFr2
     have HAp := hide hAp
     have c1 : wr.cell? ⟨cb, 1, none⟩ = some (.slice po k pc) := by simp [World.cell?, hK.cc]
     have HK := hide hK
     have HNc : Hid (¬ od' cb) := fun ho => (hK.dd _ ho).2.2 rfl
     have hcl := heap_lt hK.cc
     have hw1 : IntKind.i64.wrap ((k : Int) + 1) = (k : Int) + 1 := by rw [IntKind.wrap_i64]; omega
     generalize (C.b.getD k []).length = bl at *
     clear hFr hFr2 hAp hK hBk hpl hbW eg hgc hgB hok
     go_wp2_with fail
     go_region_law ((first
      | (go_simp; go_at_call 40; refine HFr.out.mono ?_; rintro e w5 ⟨rfl, od5, k1, k2, k3⟩; have c15 : w5.cell? ⟨cb, 1, none⟩ = some (.slice po k pc) := (k2.cell (q := ⟨cb, 1, none⟩) hcl HNc.out).trans c1; have c15a : ∀ o, (w5.alloc o).cell? ⟨cb, 1, none⟩ = some (.slice po k pc) := fun o => (((Below.refl _ w5).alloc (Nat.le_refl _) o).cell (p := ⟨cb, 1, none⟩) (Nat.lt_of_lt_of_le hcl k2.size)).trans c15; have HO5 : Hid (∀ o, (w5.alloc o).ownsRow w4.heap.size 3 1 (.slice po k pc) k (zv (plc C.b C.s.1 k).2)) := (fun o => owns_below (owns_fr (owns_below HK.out.ow (drewN_below wr 1)) k2 HK.out.no) ((Below.refl _ w5).alloc (Nat.le_refl _) o)); have K1 := hide k1; have K2 := hide k2; have K3 := hide k3; clear k1 k2 k3; dsimp only)
      | (refine step_append_int (w5.alloc (.cells #[.int .i64 (Ap : Int)] 3)) (by rfl) (.tmp 73) (.tmp 77) (by rfl) w4.heap.size po k pc (plc C.b C.s.1 k).2 (by rfl) (HO5.out _) w5.heap.size (Ap : Int) (by rfl) (by simp) (by omega) (Nat.le_trans HK.out.fr.size (Nat.le_trans K2.out.size (by simp))) ?_; intro g6 c6 w6 h1 h2 h3 h4; have HX := hide (HK.out.step HAp.out K1.out K2.out.undrew K3.out h1 h2 h3); have c16 : w6.cell? ⟨cb, 1, none⟩ = some (.slice po k pc) := by { simp [World.cell?, HX.out.1] }; have f16 : w6.frozen? ⟨cb, 1, none⟩ = false := by { simp [World.frozen?, HX.out.1] }; clear h1 h2 h3 h4)))
     all_goals (
      go_wp2
      exact ⟨⟨k + 1, od5, some ⟨g6, 0, none⟩, c6, by go_num, by omega, HX.out.2⟩, by simp [intOf]; omega⟩)
    ·obtain rfl : k = C.b.length := by omega
     have hd2 : decide (((C.b.length : Nat) : Int) < ((C.b.length : Nat) : Int)) = false := by simp
     have hpl := plc_len C.b HCI.out.ok C.s.1 C.b.length (Nat.le_refl _)
     have HDn := hide (dDone_any p tb 64 od' ((plc C.b C.s.1 C.b.length).1, C.s.2) wr hK.wd (by show (plc C.b C.s.1 C.b.length).1.length ≤ _; omega))
     have HK := hide hK
     obtain ⟨P, hP⟩ : ∃ P, P = plc C.b C.s.1 C.b.length := ⟨_, rfl⟩
     have HP := hide hP
     rw [← hP] at HDn HAns
     clear HE
     generalize hbl : C.b.length = bl at *
     have HBl := hide hbl
     clear hK hpl hP hbl
     go_wp2_with fail
     refine HDn.out.mono ?_
     rintro r w5 ⟨bo, bc, rfl, hN⟩
     have hK5 := HK.out.below hN.bel
     have c0 : w5.cell? ⟨cb, 0, none⟩ = some (.slice none 0 0) := by simp [World.cell?, hK5.cc]
     have f0 : w5.frozen? ⟨cb, 0, none⟩ = false := by simp [World.frozen?, hK5.cc]
     obtain ⟨w6, hw6⟩ : ∃ w6, w6 = w5.setCell ⟨cb, 0, none⟩ (.slice bo P.1.length bc) := ⟨_, rfl⟩
     have cc6 : w6.heap[cb]? = some (.cells #[.slice bo P.1.length bc, .slice po bl pc, .map (some fb)] 52 (0, 0)) := by rw [hw6]; exact heap_setCell_self hK5.cc _
     have f6 : Fr (One cb) w5 w6 := by rw [hw6]; exact (Fr.refl _ _).set _ (fun _ => rfl)
     have hres : w.heap.size < wa.heap.size := heap_lt HPA.out
     have r6 : w6.heap[w.heap.size]? = some (.cells #[.slice none 0 0, .slice none 0 0, .map none] 52 (0, 0)) := (f6.block _ (Nat.lt_of_lt_of_le hres hK5.bel.size) (fun (e : w.heap.size = cb) => by have := hK5.lc; omega)).trans ((hK5.bel.block _ hres).trans HPA.out)
     have q0 : w6.cell? ⟨cb, 0, none⟩ = some (.slice bo P.1.length bc) := by simp [World.cell?, cc6]
     have q1 : w6.cell? ⟨cb, 1, none⟩ = some (.slice po bl pc) := by simp [World.cell?, cc6]
     have q2 : w6.cell? ⟨cb, 2, none⟩ = some (.map (some fb)) := by simp [World.cell?, cc6]
     have HEx : Hid (w5.setCell ⟨cb, 0, none⟩ (.slice bo P.1.length bc) = w6) := hw6.symm
     have HR6 := hide r6
     have HFin : Hid (∀ w7, Fr (One w.heap.size) w6 w7 → Bs w7 bo P.1.length P.1 ∧ (bo = none → bc = 0) ∧ Zs w7 po bl P.2 ∧ MpF w7 fb C.m ∧ Below w.heap.size w w7) := fun w7 f7 => by
      have hcb : ∀ a, bo = some a → a.block ≠ cb ∧ a.block ≠ w.heap.size := fun a ha => by
       have h1 := (hN.own a ha).1; have h2 := heap_lt HK.out.cc; have h3 := HK.out.bel.size; exact ⟨by omega, by omega⟩
      have hz : Zs w5 po bl P.2 := by have := Zs.of hK5.ow; rw [← HP.out] at this; exact this
      have hz7 : Zs w7 po bl P.2 := by
       by_cases h0 : bl = 0
       ·exact ⟨hz.1, .inl h0⟩
       obtain ⟨b, off, e, hb, hc⟩ := hz.at (by omega)
       refine ⟨hz.1, .inr ?_⟩
       have hbn : b ≠ cb ∧ b ≠ w.heap.size := by
        have ho : (Value.slice po bl pc).ownBlock = some b := by rw [e]; rfl
        have h1 := (hK5.ow.lt b ho).1
        have h2 := hK5.l4
        exact ⟨by omega, by omega⟩
       have f67 : w7.heap[b]? = w5.heap[b]? := (f7.block _ (Nat.lt_of_lt_of_le hb f6.size) hbn.2).trans (f6.block _ hb hbn.1)
       exact ⟨b, off, e, by have := f6.size; have := f7.size; omega, fun i hi => (World.cell?_of_block (w := w5) f67).trans (hc i hi)⟩
      have m6 : MpF w6 fb C.m := hK5.mf.same (f6.block _ hK5.mf.lt (fun (e : fb = cb) => hK5.mf.ne hK5.cc e.symm))
      have m7 : MpF w7 fb C.m := m6.same (f7.block _ m6.lt (fun (e : fb = w.heap.size) => m6.ne r6 e.symm))
      refine ⟨(hN.bs.fr f6 (fun a ha _ => (hcb a ha).1)).fr f7 (fun a ha _ => (hcb a ha).2), hN.nil, hz7, m7, ?_⟩
      have b5 : Below w.heap.size w w5 := HBA.out.trans (hK5.bel.mono HBA.out.size)
      have b6 : Below w.heap.size w w6 := b5.trans (f6.below _ b5.size (fun k (hk : k = cb) => by rw [hk]; have := hK5.lc; omega))
      exact b6.trans (f7.below _ b6.size (fun k (hk : k = w.heap.size) => by omega))
     generalize P.1.length = pl at *
     clear hN hK5 hw6 cc6 f6 r6 HDn HK HP HBl
     go_upto_region 18 with fail
     rw [HEx.out]
     clear c0 f0 HEx
     go_wp2_with (refine wpList_store_row rfl _ _ _ rfl w.heap.size #[.slice bo pl bc, .slice po bl pc, .map (some fb)] rfl (by rfl) 52 #[.slice none 0 0, .slice none 0 0, .map none] HR6.out (by kernel_rfl) rfl (by simp [Value.oneCell']) ?_)
     refine bodyPost_ret (results_cell_row rfl _ _ w.heap.size 52 #[.slice bo pl bc, .slice po bl pc, .map (some fb)] (0, 0) _ rfl (setRow_heap _ _ _ _ _ _ HR6.out) Tryz.underlying52 rfl (by kernel_rfl)) rfl ?_
     exact HAns.out _ _ ⟨bo, bc, po, pc, fb, rfl, HFin.out _ (setRow_fr (Fr.refl _ _) _ _ (fun _ => rfl))⟩
end Go.Proofs.YtoohanojfoichaaGreatDoor

import Derived.Test.YtbmeapehgajbkaaGreatGJTabXat
import Derived.Deep.RegionHeld3
import Derived.Deep.RegionLaw
import Derived.Deep.AppendLies
import Derived.Deep.CutBlock
set_option linter.unusedVariables false
namespace Go.Proofs.YtbmeapehgajbkaaGreat
open Go.RowKit Go.Maps
open Nam Tre Mrg Brn Upr
def mi (l : List Int) : List Value := l.map (fun x => .int .i64 x)
theorem bstep_append (w : World) {ops : Array Oper} {o : Oper} {a : Act} {K : Act → World → Prop} {Q : Exit → Act → World → Prop} {E : Prop} (hgd : o.guard = none) (s x : Operand)
  (ho : o.op = .call { callee := .builtin .append, args := #[s, x], argTypes := #[56, 56] })
  (base : Nat) (vo : Option Addr) (n vc : Nat) (l : List Int) (hs : a.eval s = .slice vo n vc) (hown : w.ownsRow base 3 1 (.slice vo n vc) n (mi l))
  (gb : Nat) (t : Int) (hx : a.eval x = .slice (some ⟨gb, 0, none⟩) 1 1) (hp : w.cell? ⟨gb, 0, none⟩ = some (.int .i64 t)) (hbd : n ≤ 100000000) (hbase : base ≤ w.heap.size)
  (h : ∀ g cap w', w'.ownsRow base 3 1 (.slice (some ⟨g, 0, none⟩) (n + 1) cap) (n + 1) (mi (l ++ [t])) → w.grownBy w' (Value.slice vo n vc).ownBlock → ((Value.slice vo n vc).ownBlock = some g ∨ g = w.heap.size) → g < w'.heap.size → K (a.put o.dst (.slice (some ⟨g, 0, none⟩) (n + 1) cap)) w') :
  if Region.wanted o (yielded ops a.tmps) = true then Oper.wp Tryz.prog o a w K Q else E := by
 obtain ⟨i0, hi, hz0, hz1, hz2⟩ := info_parts infoNum
 refine step_append_lies (P := Tryz.prog) (w := w) hgd s x 56 ho base 3 i0 (.int .i64 0) 1 8 Tryz.underlying56 hi hz0 hz1 hz2 rfl (by decide) (.slice vo n vc) n (mi l) hs hown ⟨gb, 0, none⟩ 1 1 [.int .i64 t] hx (by simp) ?_ (by simp; rfl) (by omega) (by unfold maxLen; omega) (by omega) hbase w.heap.size rfl ?_
 ·intro j u hj
  match j, hj with
  | 0, hj => simp at hj; subst hj; simpa [Addr.add] using hp
 ·intro g cap w' h1 h2 h3 h4
  exact h g cap w' (by unfold mi at *; rw [List.map_append]; exact h1) h2 h3 h4
theorem upF_drew {W w : World} (h : Below W.heap.size W w) : Below W.heap.size W w.drew := below_drewN h 1
theorem FP.fbk {W0 w w2 : World} {p fb mb k d : Nat} {B : List (Nat × Array Value)} {c : Nat → Cl} {s : Fs} (h : FP W0 w p fb mb B c k s) {a : Option Addr} {n cc : Nat} (hrow : w.heap[fb]? = some (.cells #[.pointer (some ⟨p, 0, none⟩), .map (some mb), .slice a n cc] 58 (0, 0))) (hg : w.grownBy w2 (Value.slice a d cc).ownBlock) :
  w2.cell? ⟨fb, 2, none⟩ = some (.slice a n cc) ∧ w2.frozen? ⟨fb, 2, none⟩ = false := by
 obtain ⟨a', n', cc', r1, r2, r3⟩ := h.row
 obtain ⟨rfl, rfl, rfl⟩ : a = a' ∧ n = n' ∧ cc = cc' := by
  rw [hrow] at r1; simpa using r1
 have hfb2 : w2.heap[fb]? = some (.cells #[.pointer (some ⟨p, 0, none⟩), .map (some mb), .slice a n cc] 58 (0, 0)) := by
  refine (hg.block fb (heap_lt r1) (fun e => ?_)).trans r1
  have e2 : (Value.slice a n cc).ownBlock = some fb := by
   cases a with
   | none => simp [Value.ownBlock] at e
   | some ad => simpa [Value.ownBlock] using e.symm
  obtain ⟨cur, hc⟩ := owns_obj r2 e2
  rw [r1] at hc
  injection hc with hc
  injection hc with _ hc _
  exact absurd hc (by decide)
 constructor
 ·simp [World.cell?, hfb2]
 ·simp [World.frozen?, hfb2]
def QP (W0 W : World) (p fb mb : Nat) (B : List (Nat × Array Value)) (k : Nat) (s : Fs) : Prop := ∃ c', FP W0 W p fb mb B c' k s
set_option maxRecDepth 100000 in
set_option maxHeartbeats 20000000 in
theorem put_any {W0 w : World} {p fb mb k : Nat} {B : List (Nat × Array Value)} {c : Nat → Cl} {s : Fs} (v : Nv) (n : Nod) (h : FP W0 w p fb mb B c k s) (hr : Rep W0 v n) (hk : k ≤ 100000) (hsm : Sm s.u) (hR : ∀ x r, s.R x = some r → (Lit.int .i64 r).wf = true) (hw64 : ∀ j, j < s.way.length → (Lit.int .i64 (Lz.g s.way j)).wf = true) (hd : n.names.length ≤ s.way.length) (hn : n.names.length ≤ 1000) (hnm : (lst n).size ≤ maxLen) (hre : (Lit.int .i64 (putU s n).1).wf = true) :
  Calls Tryz.prog 21 #[.pointer (some ⟨fb, 0, none⟩), .agg v.cells] w fun e w' => e = .returned (.tuple #[]) ∧ ∃ c', FP W0 w' p fb mb B c' (k + 1) (putF s n) := by
 obtain ⟨w1, hw1⟩ : ∃ w1, w1 = w.alloc (.cells v.cells 44) := ⟨_, rfl⟩
 obtain ⟨bx, hbxe⟩ : ∃ bx, bx = w.heap.size := ⟨_, rfl⟩
 obtain ⟨B1, hB1⟩ : ∃ B1, B1 = (bx, v.cells) :: B := ⟨_, rfl⟩
 have hP1 : FP W0 w1 p fb mb B1 c k s := by rw [hw1, hB1, hbxe]; exact h.box v.cells
 have HBS : Hid (∀ x ∈ B, x ∈ B1) := fun x hx => by rw [hB1]; exact List.mem_cons_of_mem _ hx
 have HBX : Hid (∀ W c k s, FP W0 W p fb mb B1 c k s → W.heap[bx]? = some (.cells v.cells 44 (0, 0))) := fun W c k s hP => (hP.keep (bx, v.cells) (by rw [hB1]; simp)).1
 have hbx := HBX.out _ _ _ _ hP1
 have HBC : Hid (c bx = .no) := (hP1.keep (bx, v.cells) (by rw [hB1]; simp)).2
 have HP1 := hide hP1
 have hld : ∀ j, (Instr.lookup 55 (.map (some mb)) (.int .i64 v.ino) true).run Tryz.prog (w1.drewN j) = .ok (.tuple #[.int .i64 ((s.R n.ino).getD 0), .bool (s.R n.ino).isSome]) (w1.drewN j) := fun j => by
  have := (hP1.below (below_drewN (Below.refl _ w1) j)).look hr.in64
  rw [← hr.ino] at this ⊢
  exact this
 have hld1 : (Instr.lookup 55 (.map (some mb)) (.int .i64 v.ino) true).run Tryz.prog w1.drew = .ok (.tuple #[.int .i64 ((s.R n.ino).getD 0), .bool (s.R n.ino).isSome]) w1.drew := hld 1
 obtain ⟨a, m, cc, f0, f1, f2, -, -⟩ := hP1.cells
 obtain ⟨c0, c1, c2, c3, c4, c5, c6, c7, c8, c9, -⟩ := nbox hbx
 have hnl : n.names.length = v.nn := hr.names.1
 have HR := hide hr
 obtain ⟨r0, hr0⟩ : ∃ x, x = (s.R n.ino).getD 0 := ⟨_, rfl⟩
 obtain ⟨k0, hk0⟩ : ∃ x, x = (s.R n.ino).isSome := ⟨_, rfl⟩
 rw [← hr0, ← hk0] at hld1
 have HR0 := hide hr0
 have HK0 := hide hk0
 have HRt : Hid (n.names.length = 0 → ∀ W, Below w1.heap.size w1 W → Calls Tryz.prog 41 #[.pointer (some ⟨fb, 0, none⟩), .agg v.cells] W fun e w' => e = .returned (.int .i64 (putU s n).1) ∧ QP W0 w' p fb mb B1 k { s with u := (putU s n).2 }) := fun h0 W hW => by
  have e : putU s n = (1, (sx (sa s.u 1 n.mode n.uid n.gid).2 1 n.xs).2) := by unfold putU; rw [if_pos h0]
  rw [e]
  exact root_any v n (hP1.below hW) hr
 have HLk : Hid (n.names.length ≠ 0 → s.R n.ino ≠ none → ∀ W, Below w1.heap.size w1 W → Calls Tryz.prog 42 #[.pointer (some ⟨p, 0, none⟩), .int .i64 (Lz.g s.way (n.names.length - 1)), .string (lst n), .int .i64 r0] W fun e w' => (∃ z, e = .returned (.int .i64 z)) ∧ r0 = (putU s n).1 ∧ QP W0 w' p fb mb B1 k { s with u := (putU s n).2 } ∧ ∀ b i, b < w1.heap.size → c b = .no → w'.cell? ⟨b, i, none⟩ = w1.cell? ⟨b, i, none⟩) := fun h0 hne W hW => by
  obtain ⟨r, hr2⟩ : ∃ r, s.R n.ino = some r := by cases e : s.R n.ino with | none => exact absurd e hne | some r => exact ⟨r, rfl⟩
  have e : putU s n = (r, (ln s.u (Lz.g s.way (n.names.length - 1)) (lst n) r).2) := by unfold putU; rw [if_neg h0, hr2]
  have e2 : r0 = r := by rw [hr0, hr2]; rfl
  rw [e, e2]
  have q2 := hP1.below hW
  refine (uLink_any (Lz.g s.way (n.names.length - 1)) (lst n) r W q2.up hsm (hw64 _ (by omega)) (hR _ _ hr2) hnm).mono ?_
  rintro e w' ⟨rfl, h1, h2⟩
  exact ⟨⟨_, rfl⟩, rfl, ⟨c, q2.call h1 h2 (Ext.refl _ _)⟩, fun b i hb hcb => (h2.cell (q := ⟨b, i, none⟩) (Nat.lt_of_lt_of_le hb hW.size) (fun z => z hcb)).trans (hW.cell (by exact hb))⟩
 have HMk : Hid (n.names.length ≠ 0 → s.R n.ino = none → ∀ W, Below w1.heap.size w1 W → Calls Tryz.prog 9 #[.pointer (some ⟨p, 0, none⟩), .int .i64 (Lz.g s.way (n.names.length - 1)), .string (lst n), .agg v.cells] W fun e w' => (∃ z, e = .returned (.tuple #[.int .i64 (putU s n).1, .int .i64 z])) ∧ QP W0 w' p fb mb B1 k { s with u := (putU s n).2 } ∧ ∀ b i, b < w1.heap.size → c b = .no → w'.cell? ⟨b, i, none⟩ = w1.cell? ⟨b, i, none⟩) := fun h0 hne W hW => by
  have e : putU s n = ((mk s.u (Lz.g s.way (n.names.length - 1)) (lst n) n).1.1, (mk s.u (Lz.g s.way (n.names.length - 1)) (lst n) n).2) := by unfold putU; rw [if_neg h0, hne]
  rw [e]
  have q2 := hP1.below hW
  refine (uMake_any (Lz.g s.way (n.names.length - 1)) (lst n) v n W q2.up hsm (hw64 _ (by omega)) hnm (fun W' hf => hr.below (q2.bel.trans (hf.below _ q2.bel.size (fun x hx => ?_))))).mono ?_
  ·by_cases e : x < W0.heap.size
   ·exact absurd (q2.col x e) hx
   ·omega
  ·rintro e w' ⟨rfl, c2, h1, h2, h3⟩
   exact ⟨⟨_, rfl⟩, ⟨c2, q2.call h1 h2 h3⟩, fun b i hb hcb => (h2.cell (q := ⟨b, i, none⟩) (Nat.lt_of_lt_of_le hb hW.size) (fun z => z hcb)).trans (hW.cell (by exact hb))⟩
 have HNm : Hid (n.names.length ≠ 0 → ∃ ba oa, v.na = some ⟨ba, oa, none⟩ ∧ (ba < w1.heap.size ∧ c ba = .no) ∧ ∀ W, Below W0.heap.size W0 W → W.cell? ⟨ba, oa + (n.names.length - 1), none⟩ = some (.string (lst n))) := fun h0 => by
  obtain ⟨ba, oa, e, hlt, hc⟩ := hr.names.at (by omega)
  refine ⟨ba, oa, e, ⟨Nat.lt_of_lt_of_le hlt hP1.bel.size, hP1.col _ hlt⟩, fun W hW => (hW.cell (by exact hlt)).trans ?_⟩
  exact hc (n.names.length - 1) (by omega)
 have HWy : Hid (n.names.length ≠ 0 → ∀ W, Below w1.heap.size w1 W → ∃ g wc, W.cell? ⟨fb, 2, none⟩ = some (.slice (some ⟨g, 0, none⟩) s.way.length wc) ∧ W.cell? ⟨g, n.names.length - 1, none⟩ = some (.int .i64 (Lz.g s.way (n.names.length - 1))) ∧ g < W.heap.size ∧ c g = .no) := fun h0 W hW => by
  obtain ⟨g, wc, q1, q2, q3, q4⟩ := (hP1.below hW).wayAt (j := n.names.length - 1) (by omega)
  exact ⟨g, wc, q1, q2, q3, q4⟩
 clear h hP1 hbx hr hld hr0 hk0 hB1
 unfold Nv.cells at *
 go_enter Tryz.func21, Tryz.ntmps21
 go_wp2_with fail
 rw [← hw1]
 rw [← hbxe]
 clear hw1 hbxe
 go_region_held3 (fun wX => wX.cell? ⟨fb, 1, none⟩ = some (.map (some mb)) ∧ wX.cell? ⟨bx, 1, none⟩ = some (.int .i64 v.ino) ∧ (Instr.lookup 55 (.map (some mb)) (.int .i64 v.ino) true).run Tryz.prog wX = .ok (.tuple #[.int .i64 r0, .bool k0]) wX) (go_keep) (fail)
 have hbd : Below w1.heap.size w1 w1.drew := below_drewN (Below.refl _ w1) 1
 go_upto_block 0 with fail
 go_cut [4] from 20 to 70 (fun s4 wx => s4 = .int .i64 (putU s n).1 ∧ QP W0 wx p fb mb B1 k { s with u := (putU s n).2 })
 case first =>
  by_cases h0 : n.names.length = 0
  ·have hv0 : ((v.nn : Int) == 0) = true := by simp; omega
   have HRt0 := hide (HRt.out h0 _ hbd)
   clear HRt HLk HMk HNm HWy hw64 hR
   go_wp2_with (go_at_call 41; refine HRt0.out.mono ?_; rintro e w2 ⟨rfl, hq⟩; have HQ2 := hide hq; clear hq)
   go_meet
   exact ⟨rfl, HQ2.out⟩
  ·have hv0 : ((v.nn : Int) == 0) = false := by simp; omega
   obtain ⟨ba, oa, hna, ⟨hba1, hba2⟩, hnc⟩ := HNm.out h0
   have ncD := hnc w1 HP1.out.bel
   obtain ⟨g, wc, gy2, gyD, hg1, hg2⟩ := HWy.out h0 w1 (Below.refl _ _)
   have HNo : Hid (∀ w' : World, (∀ b i, b < w1.heap.size → c b = .no → w'.cell? ⟨b, i, none⟩ = w1.cell? ⟨b, i, none⟩) → ∀ i, w'.cell? ⟨fb, i, none⟩ = w1.cell? ⟨fb, i, none⟩ ∧ w'.cell? ⟨g, i, none⟩ = w1.cell? ⟨g, i, none⟩ ∧ w'.cell? ⟨bx, i, none⟩ = w1.cell? ⟨bx, i, none⟩ ∧ w'.cell? ⟨ba, i, none⟩ = w1.cell? ⟨ba, i, none⟩) := fun w' hh i => by
    obtain ⟨_, _, _, r1, _, _⟩ := HP1.out.row
    exact ⟨hh _ _ (heap_lt r1) HP1.out.fbo.1, hh _ _ hg1 hg2, hh _ _ (heap_lt (HBX.out _ _ _ _ HP1.out)) HBC.out, hh _ _ hba1 hba2⟩
   obtain ⟨D, hD⟩ : ∃ D, v.nn = D + 1 := ⟨v.nn - 1, by omega⟩
   have hDn : n.names.length - 1 = D := by omega
   have hDm : (D : Int) < s.way.length := by omega
   have hDb : D ≤ 1000 := by omega
   rw [hDn] at ncD gyD HLk HMk
   have hdd : Below w1.heap.size w1 w1.drew.drew := upF_drew hbd
   have HLk1 : Hid (k0 = true → _) := fun e => HLk.out h0 (by intro q; have := HK0.out; rw [q, e] at this; cases this) _ hdd
   have HMk1 : Hid (k0 = false → _) := fun e => HMk.out h0 (by cases q : s.R n.ino with | none => rfl | some r => have := HK0.out; rw [q, e] at this; cases this) _ hdd
   obtain ⟨ls, hls⟩ : ∃ ls, ls = lst n := ⟨_, rfl⟩
   obtain ⟨wy, hwy⟩ : ∃ x, x = Lz.g s.way D := ⟨_, rfl⟩
   rw [← hls] at ncD HLk1 HMk1
   rw [← hwy] at gyD HLk1 HMk1
   clear HRt HLk HMk HNm HWy hw64 hR hnc hls hwy hnl hnm f2 hdd hDn HBX HR h0 hd hn
   obtain ⟨na, nn, nc, vi, vk, vm, vu, vg, da, dn, dc, tg, xa, xn, xc, vo⟩ := v
   simp only at hna hD hv0 c0 c1 c2 c3 c4 c5 c6 c7 c8 c9 HLk1 HMk1 ⊢
   subst hna hD
   have hD2 : IntKind.i64.wrap (D : Int) = (D : Int) := by rw [IntKind.wrap_i64]; omega
   have hD3 : IntKind.i64.wrap ((D : Int) + 1 - 1) = (D : Int) := by rw [IntKind.wrap_i64]; omega
   have hD4 : (D : Int) < (D : Int) + 1 := by omega
   cases k0 with
   | true =>
    have HDd := hide (HLk1.out rfl)
    clear HLk1 HMk1
    go_wp2_with fail
    go_region_held3 (fun wX => wX.cell? ⟨fb, 0, none⟩ = some (.pointer (some ⟨p, 0, none⟩)) ∧ wX.cell? ⟨fb, 2, none⟩ = some (.slice (some ⟨g, 0, none⟩) s.way.length wc) ∧ wX.cell? ⟨g, D, none⟩ = some (.int .i64 wy) ∧ wX.cell? ⟨bx, 0, none⟩ = some (.slice (some ⟨ba, oa, none⟩) (D + 1) nc) ∧ wX.cell? ⟨ba, oa + D, none⟩ = some (.string ls)) (go_keep)
     ((go_at_call 42; refine HDd.out.mono ?_; rintro e w5 ⟨⟨z, rfl⟩, hr0, hq, hh⟩; have HQ5 := hide hq; have HR5 := hide hr0; have hfb0 := ((HNo.out w5 hh 0).1).trans f0; have hfb2 := ((HNo.out w5 hh 2).1).trans gy2; have hgD := ((HNo.out w5 hh D).2.1).trans gyD; have hb0 := ((HNo.out w5 hh 0).2.2.1).trans c0; have hbn := ((HNo.out w5 hh (oa + D)).2.2.2).trans ncD; clear hq hr0 hh))
    clear hfb0 hfb2 hgD hb0 hbn
    go_wp2_with fail
    go_meet
    exact ⟨by rw [HR5.out], HQ5.out⟩
   | false =>
    have HDd := hide (HMk1.out rfl)
    clear HLk1 HMk1
    go_wp2_with fail
    go_region_held3 (fun wX => wX.cell? ⟨fb, 0, none⟩ = some (.pointer (some ⟨p, 0, none⟩)) ∧ wX.cell? ⟨fb, 2, none⟩ = some (.slice (some ⟨g, 0, none⟩) s.way.length wc) ∧ wX.cell? ⟨g, D, none⟩ = some (.int .i64 wy) ∧ wX.cell? ⟨ba, oa + D, none⟩ = some (.string ls) ∧ wX.cell? ⟨bx, 0, none⟩ = some (.slice (some ⟨ba, oa, none⟩) (D + 1) nc) ∧ wX.cell? ⟨bx, 1, none⟩ = some (.int .i64 vi) ∧ wX.cell? ⟨bx, 2, none⟩ = some (.int .i64 vk) ∧ wX.cell? ⟨bx, 3, none⟩ = some (.int .i64 vm) ∧ wX.cell? ⟨bx, 4, none⟩ = some (.int .i64 vu) ∧ wX.cell? ⟨bx, 5, none⟩ = some (.int .i64 vg) ∧ wX.cell? ⟨bx, 6, none⟩ = some (.slice da dn dc) ∧ wX.cell? ⟨bx, 7, none⟩ = some (.string tg) ∧ wX.cell? ⟨bx, 8, none⟩ = some (.slice xa xn xc) ∧ wX.cell? ⟨bx, 9, none⟩ = some (.bool vo)) (go_keep)
     ((go_at_call 9; refine HDd.out.mono ?_; rintro e w5 ⟨⟨z, rfl⟩, hq, hh⟩; have HQ5 := hide hq; have hfb0 := ((HNo.out w5 hh 0).1).trans f0; have hfb2 := ((HNo.out w5 hh 2).1).trans gy2; have hgD := ((HNo.out w5 hh D).2.1).trans gyD; have hbn := ((HNo.out w5 hh (oa + D)).2.2.2).trans ncD; have i0 := ((HNo.out w5 hh 0).2.2.1).trans c0; have i1 := ((HNo.out w5 hh 1).2.2.1).trans c1; have i2 := ((HNo.out w5 hh 2).2.2.1).trans c2; have i3 := ((HNo.out w5 hh 3).2.2.1).trans c3; have i4 := ((HNo.out w5 hh 4).2.2.1).trans c4; have i5 := ((HNo.out w5 hh 5).2.2.1).trans c5; have i6 := ((HNo.out w5 hh 6).2.2.1).trans c6; have i7 := ((HNo.out w5 hh 7).2.2.1).trans c7; have i8 := ((HNo.out w5 hh 8).2.2.1).trans c8; have i9 := ((HNo.out w5 hh 9).2.2.1).trans c9; clear hq hh))
    clear hfb0 hfb2 hgD hbn i0 i1 i2 i3 i4 i5 i6 i7 i8 i9
    go_wp2_with fail
    go_meet
    exact ⟨rfl, HQ5.out⟩
 case rest =>
  clear HRt HLk HMk HNm HWy hw64 hR hld1 c0 c1 c2 c3 c4 c5 c6 c7 c8 c9 f0 f1 f2 hbd HBC HP1 HR0 HK0
  obtain ⟨rfl, hq⟩ := hcut
  obtain ⟨w5, rfl⟩ : ∃ x, x = wc := ⟨wc, rfl⟩
  obtain ⟨r, hr⟩ : ∃ r, r = (putU s n).1 := ⟨_, rfl⟩
  obtain ⟨U, hU⟩ : ∃ U, U = (putU s n).2 := ⟨_, rfl⟩
  have HPF : Hid (putF s n = ⟨if n.opq = true then (so U r true).2 else U, fun x => if x = n.ino then some r else s.R x, s.way.take n.names.length ++ [r]⟩) := by show _ = _; rw [hr, hU]; rfl
  rw [← hr] at hre ⊢
  rw [← hU] at hq
  have HQ5 := hide hq
  clear hq hr hU
  obtain ⟨c5, hP5⟩ := HQ5.out
  have hbx := HBX.out _ _ _ _ hP5
  obtain ⟨b0, b1, b2, b3, b4, b5, b6, b7, b8, b9, -⟩ := nbox hbx
  obtain ⟨_, _, _, f0, _, _, -, -⟩ := hP5.cells
  have HP5 := hide hP5
  obtain ⟨ob, hob⟩ : ∃ ob, ob = v.op := ⟨_, rfl⟩
  have HOP : Hid (n.opq = ob) := HR.out.op.trans hob.symm
  rw [← hob] at b9
  have hi64 : (Lit.int .i64 n.ino).wf = true := by rw [HR.out.ino]; exact HR.out.in64
  clear hP5 hbx b0 b1 b2 b3 b4 b5 b6 b7 b8 hob HQ5
  cases ob with
  | false =>
   have HPG : Hid (putF s n = ⟨U, fun x => if x = n.ino then some r else s.R x, s.way.take n.names.length ++ [r]⟩) := by show _ = _; rw [HPF.out, if_neg (by rw [HOP.out]; simp)]
   have HP6 : Hid (FP W0 w5 p fb mb B1 c5 k { s with u := U }) := HP5.out
   obtain ⟨w6, rfl⟩ : ∃ x, x = w5 := ⟨w5, rfl⟩
   obtain ⟨c6, rfl⟩ : ∃ x, x = c5 := ⟨c5, rfl⟩
   clear HP5 HOP HPF
   go_upto_region 10 with fail
   have hbx := HBX.out _ _ _ _ HP6.out
   obtain ⟨b0, b1, b2, b3, b4, b5, b6, b7, b8, b9, -⟩ := nbox hbx
   obtain ⟨_, _, _, f0, f1, _, -, -⟩ := HP6.out.cells
   obtain ⟨w7, r7, hP7, hk7⟩ := (HP6.out.below (below_drewN (Below.refl _ w6) 1)).putR hk hi64 r
   rw [HR.out.ino] at r7
   have r7' : (Instr.mapUpdate 55 (.map (some mb)) (.int .i64 v.ino) (.int .i64 r)).run Tryz.prog w6.drew = .ok () w7 := r7
   have HP7 := hide hP7
   clear hP7 hk7 r7 hbx b0 b2 b3 b4 b5 b6 b7 b8 b9
   go_region
   obtain ⟨a7, n7, cc7, r71, r72, r73⟩ := HP7.out.row
   have hn7 : n7 = s.way.length := by have := r72.1; simpa using this.symm
   have hcap7 := (cap_owns r72).1
   have hbx7 := HBX.out _ _ _ _ HP7.out
   obtain ⟨q0, -, -, -, -, -, -, -, -, -, -⟩ := nbox hbx7
   have p7 : w7.cell? ⟨fb, 2, none⟩ = some (.slice a7 n7 cc7) := by simp [World.cell?, r71]
   have f7 : w7.frozen? ⟨fb, 2, none⟩ = false := by simp [World.frozen?, r71]
   have hd7 : (v.nn : Int) ≤ cc7 := by omega
   have HTK : Hid (w7.ownsRow W0.heap.size 3 1 (.slice a7 v.nn cc7) v.nn (mi (s.way.take v.nn))) := by
    have := own_take r72 (d := v.nn) (by omega)
    rw [← List.map_take] at this
    exact this
   have HR7 := hide r71
   clear r71 r72 r73 hbx7 r7' f0 f1 b1
   go_upto_region 11 with fail
   obtain ⟨W8, hW8⟩ : ∃ W8, W8 = (w7.alloc (.cells #[.int .i64 r] 3)).drew := ⟨_, rfl⟩
   have hbl : Below w7.heap.size w7 W8 := by
    rw [hW8]
    have hb := below_one w7 (.cells #[.int .i64 r] 3)
    exact ⟨hb.os, hb.tape, hb.output, hb.size, hb.block⟩
   have HOw : Hid (W8.ownsRow W0.heap.size 3 1 (.slice a7 v.nn cc7) v.nn (mi (s.way.take v.nn))) := own_fr HTK.out (Fr.of_below hbl) (fun _ _ h => h)
   have HP8 := hide (HP7.out.below hbl)
   have HR8 := hide ((hbl.block _ (heap_lt HR7.out)).trans HR7.out)
   have HX8 : Hid (W8.cell? ⟨w7.heap.size, 0, none⟩ = some (.int .i64 r)) := by show _ = _; rw [hW8]; simp
   have hvd : v.nn ≤ 100000000 := by omega
   have q0a : (w7.alloc (.cells #[.int .i64 r] 3)).cell? ⟨bx, 0, none⟩ = some (.slice v.na v.nn v.nc) := ((below_one w7 _).cell (World.block_lt_of_cell? w7 _ q0)).trans q0
   have p7a : (w7.alloc (.cells #[.int .i64 r] 3)).cell? ⟨fb, 2, none⟩ = some (.slice a7 n7 cc7) := ((below_one w7 _).cell (World.block_lt_of_cell? w7 _ p7)).trans p7
   clear hbl
   rw [hW8] at HOw HX8
   have HW8 := hide hW8
   clear hW8
   go_region_law (refine bstep_append _ (by rfl) (.tmp 94) (.tmp 96) (by rfl) W0.heap.size a7 v.nn cc7 (s.way.take v.nn) (by rfl) HOw.out w7.heap.size r (by rfl) HX8.out hvd (by rw [← HW8.out]; exact HP8.out.bel.size) ?_; rw [← HW8.out]; intro g7 c7 w8 h1 h2 h3 h4; obtain ⟨e8, z8⟩ := HP8.out.fbk HR8.out h2; have HG1 := hide h1; have HG2 := hide h2; have HG3 := hide h3; clear h1 h2 h3 h4)
   all_goals
    have HP9 := hide (HP8.out.putW HR8.out r HG1.out HG2.out HG3.out)
    refine bodyPost_end (results_none rfl _ _ _) rfl ?_
    refine ⟨rfl, c6, ?_⟩
    rw [HPG.out, hnl]
    exact HP9.out.drop HBS.out
  | true =>
   have HPG0 : Hid (putF s n = ⟨(so U r true).2, fun x => if x = n.ino then some r else s.R x, s.way.take n.names.length ++ [r]⟩) := by show _ = _; rw [HPF.out, if_pos HOP.out]
   have HSo := hide (uSetOpaque_any r true w5 HP5.out.up hre)
   clear HOP HPF
   go_upto_region 10 with (go_at_call 43; refine HSo.out.mono ?_; rintro e w6 ⟨rfl, c6, h1, h2, h3⟩; have HP6 := hide (HP5.out.call h1 h2 h3); clear h1 h2 h3)
   clear HSo HP5
   obtain ⟨U2, hU2⟩ : ∃ U2, U2 = (so U r true).2 := ⟨_, rfl⟩
   have HPG := HPG0
   rw [← hU2] at HP6 HPG
   clear hU2 HPG0
   have hbx := HBX.out _ _ _ _ HP6.out
   obtain ⟨b0, b1, b2, b3, b4, b5, b6, b7, b8, b9, -⟩ := nbox hbx
   obtain ⟨_, _, _, f0, f1, _, -, -⟩ := HP6.out.cells
   obtain ⟨w7, r7, hP7, hk7⟩ := (HP6.out.below (below_drewN (Below.refl _ w6) 1)).putR hk hi64 r
   rw [HR.out.ino] at r7
   have r7' : (Instr.mapUpdate 55 (.map (some mb)) (.int .i64 v.ino) (.int .i64 r)).run Tryz.prog w6.drew = .ok () w7 := r7
   have HP7 := hide hP7
   clear hP7 hk7 r7 hbx b0 b2 b3 b4 b5 b6 b7 b8 b9
   go_region
   obtain ⟨a7, n7, cc7, r71, r72, r73⟩ := HP7.out.row
   have hn7 : n7 = s.way.length := by have := r72.1; simpa using this.symm
   have hcap7 := (cap_owns r72).1
   have hbx7 := HBX.out _ _ _ _ HP7.out
   obtain ⟨q0, -, -, -, -, -, -, -, -, -, -⟩ := nbox hbx7
   have p7 : w7.cell? ⟨fb, 2, none⟩ = some (.slice a7 n7 cc7) := by simp [World.cell?, r71]
   have f7 : w7.frozen? ⟨fb, 2, none⟩ = false := by simp [World.frozen?, r71]
   have hd7 : (v.nn : Int) ≤ cc7 := by omega
   have HTK : Hid (w7.ownsRow W0.heap.size 3 1 (.slice a7 v.nn cc7) v.nn (mi (s.way.take v.nn))) := by
    have := own_take r72 (d := v.nn) (by omega)
    rw [← List.map_take] at this
    exact this
   have HR7 := hide r71
   clear r71 r72 r73 hbx7 r7' f0 f1 b1
   go_upto_region 11 with fail
   obtain ⟨W8, hW8⟩ : ∃ W8, W8 = (w7.alloc (.cells #[.int .i64 r] 3)).drew := ⟨_, rfl⟩
   have hbl : Below w7.heap.size w7 W8 := by
    rw [hW8]
    have hb := below_one w7 (.cells #[.int .i64 r] 3)
    exact ⟨hb.os, hb.tape, hb.output, hb.size, hb.block⟩
   have HOw : Hid (W8.ownsRow W0.heap.size 3 1 (.slice a7 v.nn cc7) v.nn (mi (s.way.take v.nn))) := own_fr HTK.out (Fr.of_below hbl) (fun _ _ h => h)
   have HP8 := hide (HP7.out.below hbl)
   have HR8 := hide ((hbl.block _ (heap_lt HR7.out)).trans HR7.out)
   have HX8 : Hid (W8.cell? ⟨w7.heap.size, 0, none⟩ = some (.int .i64 r)) := by show _ = _; rw [hW8]; simp
   have hvd : v.nn ≤ 100000000 := by omega
   have q0a : (w7.alloc (.cells #[.int .i64 r] 3)).cell? ⟨bx, 0, none⟩ = some (.slice v.na v.nn v.nc) := ((below_one w7 _).cell (World.block_lt_of_cell? w7 _ q0)).trans q0
   have p7a : (w7.alloc (.cells #[.int .i64 r] 3)).cell? ⟨fb, 2, none⟩ = some (.slice a7 n7 cc7) := ((below_one w7 _).cell (World.block_lt_of_cell? w7 _ p7)).trans p7
   clear hbl
   rw [hW8] at HOw HX8
   have HW8 := hide hW8
   clear hW8
   go_region_law (refine bstep_append _ (by rfl) (.tmp 94) (.tmp 96) (by rfl) W0.heap.size a7 v.nn cc7 (s.way.take v.nn) (by rfl) HOw.out w7.heap.size r (by rfl) HX8.out hvd (by rw [← HW8.out]; exact HP8.out.bel.size) ?_; rw [← HW8.out]; intro g7 c7 w8 h1 h2 h3 h4; obtain ⟨e8, z8⟩ := HP8.out.fbk HR8.out h2; have HG1 := hide h1; have HG2 := hide h2; have HG3 := hide h3; clear h1 h2 h3 h4)
   all_goals
    have HP9 := hide (HP8.out.putW HR8.out r HG1.out HG2.out HG3.out)
    refine bodyPost_end (results_none rfl _ _ _) rfl ?_
    refine ⟨rfl, c6, ?_⟩
    rw [HPG.out, hnl]
    exact HP9.out.drop HBS.out
end Go.Proofs.YtbmeapehgajbkaaGreat
namespace Go.Proofs.YtbmeapehgajbkaaGreat
open Go.RowKit Go.Maps
open Nam Tre Tab
open Lz (g)
namespace Upr
end Upr
end Go.Proofs.YtbmeapehgajbkaaGreat

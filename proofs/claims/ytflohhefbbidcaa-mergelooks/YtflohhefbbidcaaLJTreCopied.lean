import Derived.Test.YtflohhefbbidcaaLSort
import Derived.Test.YtflohhefbbidcaaLJTreCopy
import Derived.Test.YtflohhefbbidcaaLJTreAlike
import Derived.Deep.RegionHeld3
import Derived.Deep.RegionLaw
set_option linter.unusedVariables false
namespace Go.Proofs.Ytflohhefbbidcaa
open Go.RowKit Go.Maps
open Nam Tre
open Lz (g)
structure Abv (w : World) (B : Nat) (v : Nv) : Prop where
 na : Ab B v.na
 da : Ab B v.da
 xa : Ab B v.xa
 xs : ∀ b off, v.xa = some ⟨b, off, none⟩ → ∀ i, i < v.xn → ∀ va vn vc, w.cell? ⟨b, off + i * 2 + 1, none⟩ = some (.slice va vn vc) → Ab B va
structure Lean1 (v : Nv) (x : Nod) : Prop where
 nn : v.nn ≤ 1000000
 dn : v.dn ≤ 1000000
 xn : v.xn ≤ 1000000
 xv : ∀ y ∈ x.xs, y.2.length ≤ 1000000
theorem grownBy_below {w w' : World} {B : Nat} (h : w.grownBy w' none) (hB : B ≤ w.heap.size) : Below B w w' := (Below.refl B w).grown h hB (fun k e => by cases e)
theorem KeepT.grownN {e : TypeId} {w w' : World} (hg : w.grownBy w' none) : KeepT e w w' := (KeepT.refl e w).grown hg (fun k hk => by cases hk)
theorem Bk.keepT {w : World} {p k : Nat} {v : Nv} (h : Bk w p v) (e : TypeId) (he : e ≠ 44) (u : Value) : KeepT e w (w.setCell ⟨p, k, none⟩ u) := by
 refine (KeepT.refl e w).setCell u (fun cur fz hh => ?_)
 have h' : w.heap[p]? = some (.cells v.cells 44 (0, 0)) := h
 rw [h'] at hh
 injection hh with hh
 injection hh with _ h2 _
 exact he h2.symm
theorem own_up {w : World} {B B' e size n : Nat} {v : Value} {xs : List Value} (h : w.ownsRow B' e size v n xs) (hB : B ≤ B') : w.ownsRow B e size v n xs := by
 refine ⟨h.1, ?_⟩
 rcases h.2 with h0 | ⟨g, cap, cur, h1, h2, r⟩
 ·exact .inl h0
 ·exact .inr ⟨g, cap, cur, h1, Nat.le_trans hB h2, r⟩
structure Mid (w wr : World) (v : Nv) (x : Nod) (na da xa : Option Addr) (nc dc xc : Nat) (X X' : List Xv) (i : Nat) : Prop where
 bk : Bk wr w.heap.size { v with na := na, nc := nc, da := da, dc := dc, xa := xa, xc := xc }
 rb : Bk wr (w.heap.size + 1) nv0
 bel : Below w.heap.size w wr
 names : wr.ownsRow w.heap.size 9 1 (.slice na v.nn nc) v.nn (sv x.names)
 data : wr.ownsRow w.heap.size 5 1 (.slice da v.dn dc) v.dn (bv x.data)
 row : wr.ownsRow (w.heap.size + 2) 95 2 (.slice xa v.xn xc) v.xn (xvs X')
 len : X'.length = v.xn
 old : ∀ j, i ≤ j → gX X' j = gX X j
 new : ∀ j, j < i → (gX X' j).s = (gX X j).s ∧ (gX X' j).vn = (gX X j).vn ∧ wr.ownsRow w.heap.size 5 1 (.slice (gX X' j).va (gX X' j).vn (gX X' j).vc) (gX X' j).vn (bv (gx x.xs j).2)
theorem own_set {w : World} {B g cap i : Nat} {X' : List Xv} {n : Nat} (h : w.ownsRow B 95 2 (.slice (some ⟨g, 0, none⟩) n cap) n (xvs X')) (hl : X'.length = n) (hi : i < n) (a : Option Addr) (m c : Nat) :
  (w.setCell ⟨g, i * 2 + 1, none⟩ (.slice a m c)).ownsRow B 95 2 (.slice (some ⟨g, 0, none⟩) n cap) n (xvs (X'.set i ⟨(gX X' i).s, a, m, c⟩)) := by
 have := h.stored (i * 2 + 1) (.slice a m c)
 rw [xvs_set X' i a m c (by omega)] at this
 rw [gX_lt X' i (by omega)]
 exact this.1
theorem keep_x {w : World} {B g cap n k : Nat} {xs : List Value} (h : w.ownsRow B 95 2 (.slice (some ⟨g, 0, none⟩) n cap) n xs) (e : TypeId) (he : e ≠ 95) (u : Value) : KeepT e w (w.setCell ⟨g, k, none⟩ u) := by
 refine (KeepT.refl e w).setCell u (fun cur fz hh => ?_)
 rcases h.2 with ⟨h0, _⟩ | ⟨g', cap', cur', h0, _, h1, _⟩
 ·simp at h0
 ·simp at h0
  obtain ⟨rfl, _⟩ := h0
  rw [h1] at hh
  injection hh with hh
  injection hh with _ h2 _
  exact he h2.symm
theorem gX_set (X : List Xv) (i j : Nat) (x : Xv) (hi : i < X.length) : gX (X.set i x) j = if j = i then x else gX X j := by
 unfold gX
 by_cases e : j = i
 ·subst e; simp [hi]
 ·rw [if_neg e]; simp [Ne.symm e]
theorem Mid.step {w wr w5 : World} {v : Nv} {x : Nod} {na da : Option Addr} {nc dc xc g i : Nat} {X X' : List Xv} (h : Mid w wr v x na da (some ⟨g, 0, none⟩) nc dc xc X X' i) (hi : i < v.xn) (hg : wr.drew.grownBy w5 none) (a : Option Addr) (m c : Nat)
  (ho : w5.ownsRow wr.drew.heap.size 5 1 (.slice a m c) m (bv (gx x.xs i).2)) (hm : m = (gX X i).vn) : Mid w (w5.setCell ⟨g, i * 2 + 1, none⟩ (.slice a m c)) v x na da (some ⟨g, 0, none⟩) nc dc xc X (X'.set i ⟨(gX X' i).s, a, m, c⟩) (i + 1) := by
 have hs := h.bel.size
 have hgB := (h.row.lt g rfl)
 have hg' : wr.grownBy w5 none := ⟨hg.os, hg.tape, hg.output, hg.size, hg.block⟩
 have row5 : w5.ownsRow (w.heap.size + 2) 95 2 (.slice (some ⟨g, 0, none⟩) v.xn xc) v.xn (xvs X') := (KeepT.grownN hg).owns (show wr.drew.ownsRow _ _ _ _ _ _ from h.row)
 have b5 : ∀ p, p < wr.heap.size → p ≠ g → (w5.setCell ⟨g, i * 2 + 1, none⟩ (.slice a m c)).heap[p]? = wr.heap[p]? := fun p hp hne => (set_other _ _ _ _ _ hne).trans (hg.block p hp (by simp))
 have kp : ∀ e, e ≠ 95 → KeepT e wr (w5.setCell ⟨g, i * 2 + 1, none⟩ (.slice a m c)) := fun e he => KeepT.trans (show KeepT e wr w5 from KeepT.grownN hg') (keep_x row5 e he _)
 refine ⟨h.bk.block (b5 _ (heap_lt h.bk) (by omega)), h.rb.block (b5 _ (heap_lt h.rb) (by omega)), ?_, (kp _ (by decide)).owns h.names, (kp _ (by decide)).owns h.data, own_set row5 h.len hi a m c, by rw [List.length_set]; exact h.len, fun j hj => ?_, fun j hj => ?_⟩
 ·have e1 : Below w.heap.size wr w5 := grownBy_below hg' hs
  exact (h.bel.trans e1).setCell (by show w.heap.size ≤ g; omega) _
 ·rw [gX_set _ _ _ _ (by rw [h.len]; exact hi), if_neg (by omega)]
  exact h.old j (by omega)
 ·rw [gX_set _ _ _ _ (by rw [h.len]; exact hi)]
  by_cases e : j = i
  ·subst e
   rw [if_pos rfl]
   refine ⟨by rw [h.old j (Nat.le_refl _)], hm, ?_⟩
   exact (keep_x row5 _ (by decide) _).owns (own_up ho hs)
  ·rw [if_neg e]
   obtain ⟨q1, q2, q3⟩ := h.new j (by omega)
   exact ⟨q1, q2, (kp _ (by decide)).owns q3⟩
theorem xsr_of {w : World} {B n c : Nat} {ao : Option Addr} {X : List Xv} {xs : List (ByteArray × List Int)} (h : w.ownsRow B 95 2 (.slice ao n c) n (xvs X)) (hl : xs.length = n) (hX : X.length = n) (hr : ∀ j, j < n → XRep w (gX X j) (gx xs j)) : XsR w ao n xs := by
 refine ⟨hl, ?_⟩
 by_cases e : n = 0
 ·exact .inl e
 ·obtain ⟨g, c', hv, _, hlt⟩ := h.form (by omega)
  obtain ⟨rfl, _, rfl⟩ : ao = some ⟨g, 0, none⟩ ∧ n = n ∧ c = c' := by simpa using hv
  refine .inr ⟨g, 0, rfl, hlt, fun i hi => ?_⟩
  obtain ⟨q1, q2, q3, q4, q5, q6⟩ := hr i hi
  have hg := xvs_get X i (by omega)
  refine ⟨?_, (gX X i).va, (gX X i).vn, (gX X i).vc, ?_, q2, q3, q4, q5, q6⟩
  ·rw [Nat.zero_add, h.cellAt _ (by omega), hg.1, ← gX_lt X i (by omega), q1]
  ·rw [Nat.zero_add, h.cellAt _ (by omega), hg.2, ← gX_lt X i (by omega)]
theorem Mid.fin {w wr : World} {v : Nv} {x : Nod} {na da xa : Option Addr} {nc dc xc i : Nat} {X X' : List Xv} (h : Mid w wr v x na da xa nc dc xc X X' i) (hr : Rep w v x) (hX : ∀ wr, Below w.heap.size w wr → ∀ i, i < v.xn → XRep wr (gX X i) (gx x.xs i)) (hi : i = v.xn)
  (u : Nv) (hu : u = { v with na := na, nc := nc, da := da, dc := dc, xa := xa, xc := xc }) : Rep (put10 wr (w.heap.size + 1) u) u x ∧ Abv (put10 wr (w.heap.size + 1) u) w.heap.size u ∧ Below w.heap.size w (put10 wr (w.heap.size + 1) u) := by
 have kp : ∀ e, e ≠ 44 → KeepT e wr (put10 wr (w.heap.size + 1) u) := fun e he => h.rb.put10_keepT u e he
 have hn := (kp _ (by decide)).owns h.names
 have hd := (kp _ (by decide)).owns h.data
 have hx := (kp _ (by decide)).owns h.row
 have hbel := put10_below h.bel (show w.heap.size ≤ w.heap.size + 1 by omega) u
 have hnew : ∀ j, j < v.xn → (gX X' j).s = (gX X j).s ∧ (gX X' j).vn = (gX X j).vn ∧ (put10 wr (w.heap.size + 1) u).ownsRow w.heap.size 5 1 (.slice (gX X' j).va (gX X' j).vn (gX X' j).vc) (gX X' j).vn (bv (gx x.xs j).2) := fun j hj => by
  obtain ⟨q1, q2, q3⟩ := h.new j (by omega)
  exact ⟨q1, q2, (kp _ (by decide)).owns q3⟩
 have hxr : ∀ j, j < v.xn → XRep (put10 wr (w.heap.size + 1) u) (gX X' j) (gx x.xs j) := fun j hj => by
  obtain ⟨q1, q2, q3⟩ := hnew j hj
  obtain ⟨t1, t2, _, _, _, t6⟩ := hX _ hbel j hj
  have hc := cap_owns q3
  exact ⟨by rw [q1]; exact t1, bs_of_owns q3 t2.bytes, hc.1, hc.2.1, hc.2.2, t6⟩
 have cn := cap_owns hn
 have cd := cap_owns hd
 have cx := cap_owns hx
 refine ⟨?_, ?_, hbel⟩
 ·rw [hu] at hn hd hx hxr ⊢
  exact { hr with names := rs_of_owns hn, nc := cn.1, ncm := cn.2.1, nnil := cn.2.2, data := bs_of_owns hd hr.data.bytes, dc := cd.1, dcm := cd.2.1, dnil := cd.2.2, xs := xsr_of hx hr.xs.1 h.len hxr, xc := cx.1, xcm := cx.2.1, xnil := cx.2.2 }
 ·have e1 : u.na = na := by rw [hu]
  have e2 : u.da = da := by rw [hu]
  have e3 : u.xa = xa := by rw [hu]
  have e4 : u.xn = v.xn := by rw [hu]
  refine ⟨by rw [e1]; exact ab_of_owns hn, by rw [e2]; exact ab_of_owns hd, by rw [e3]; exact ab_of_owns (own_up hx (by omega)), ?_⟩
  intro b off hxa j hj va vn vc hcell
  rw [e3] at hxa
  rw [e4] at hj
  subst hxa
  obtain ⟨g, c', hv, _, _⟩ := hx.form (by omega)
  obtain ⟨⟨rfl, rfl⟩, rfl⟩ : (b = g ∧ off = 0) ∧ xc = c' := by simpa using hv
  rw [Nat.zero_add, hx.cellAt _ (by omega), (xvs_get X' j (by rw [h.len]; exact hj)).2, ← gX_lt X' j (by rw [h.len]; exact hj)] at hcell
  have : va = (gX X' j).va := by simp at hcell; exact hcell.1.symm
  rw [this]
  exact ab_of_owns (hnew j hj).2.2
end Go.Proofs.Ytflohhefbbidcaa
namespace Go.Proofs.Ytflohhefbbidcaa
open Go.RowKit Go.Maps
open Nam Tre
namespace Tre
def ltn (a b : Nod) : Bool := less (nm a.names) (nm b.names)
end Tre
end Go.Proofs.Ytflohhefbbidcaa
namespace Go.Proofs.Ytflohhefbbidcaa
open Go.RowKit Go.Maps
open Nam Tre
namespace Tre
def ikeys (l : List Nod) : List Lit := l.map (fun n => .int .i64 n.ino)
theorem ikeys_length (l : List Nod) : (ikeys l).length = l.length := by simp [ikeys]
theorem ikeys_lit (l : List Nod) : ∀ k ∈ ikeys l, WideAt.IsKeyLit k := by
 intro k hk
 simp only [ikeys, List.mem_map] at hk
 obtain ⟨n, _, rfl⟩ := hk
 exact trivial
end Tre
end Go.Proofs.Ytflohhefbbidcaa
namespace Go.Proofs.Ytflohhefbbidcaa
set_option linter.unusedSectionVars false
open Go.RowKit Go.Maps
open Nam Tre
namespace Tre
def nst (ks : List Lit) : Nat → Nat × (Lit → Option Nat)
 | 0 => (0, fun _ => none)
 | i + 1 => if ((nst ks i).2 (ks.getD i (.bool false))).isSome = true then nst ks i else ((nst ks i).1 + 1, upd (nst ks i).2 (ks.getD i (.bool false)) ((nst ks i).1 + 1))
def nno (ks : List Lit) (i : Nat) : Nat := ((nst ks (i + 1)).2 (ks.getD i (.bool false))).getD 0
theorem nst_old {ks : List Lit} {i : Nat} (h : ((nst ks i).2 (ks.getD i (.bool false))).isSome = true) : nst ks (i + 1) = nst ks i := by rw [nst, if_pos h]
theorem nst_new {ks : List Lit} {i : Nat} (h : ¬ ((nst ks i).2 (ks.getD i (.bool false))).isSome = true) : nst ks (i + 1) = ((nst ks i).1 + 1, upd (nst ks i).2 (ks.getD i (.bool false)) ((nst ks i).1 + 1)) := by rw [nst, if_neg h]
theorem nst_le (ks : List Lit) : ∀ i, (nst ks i).1 ≤ i
 | 0 => Nat.le_refl _
 | i + 1 => by
  have := nst_le ks i
  by_cases h : ((nst ks i).2 (ks.getD i (.bool false))).isSome = true
  ·rw [nst_old h]; omega
  ·rw [nst_new h]; show _ + 1 ≤ _; omega
theorem getD_lit {ks : List Lit} (hk : ∀ k ∈ ks, WideAt.IsKeyLit k) {i : Nat} (h : i < ks.length) : ks.getD i (.bool false) = ks[i] ∧ WideAt.IsKeyLit ks[i] := ⟨by simp [h], hk _ (List.getElem_mem h)⟩
theorem nst_mem {ks : List Lit} (hk : ∀ k ∈ ks, WideAt.IsKeyLit k) : ∀ (i : Nat), i ≤ ks.length → ∀ k, ((nst ks i).2 k).isSome = true ↔ k ∈ ks.take i
 | 0, _, k => by simp [nst]
 | i + 1, hi, k => by
  have hi' : i < ks.length := by omega
  obtain ⟨hg, hl⟩ := getD_lit hk hi'
  have ih := nst_mem hk i (by omega)
  rw [List.take_succ_eq_append_getElem hi', List.mem_append, List.mem_singleton]
  by_cases h : ((nst ks i).2 (ks.getD i (.bool false))).isSome = true
  ·rw [nst_old h, ih]
   rw [hg, ih] at h
   constructor
   ·exact .inl
   ·rintro (q | q)
    ·exact q
    ·rw [q]; exact h
  ·rw [nst_new h, hg]
   by_cases e : k = ks[i]
   ·rw [e]; simp only [upd_same _ _ _ hl]; simp
   ·simp only [upd_other _ _ e]; rw [ih]; simp [e]
theorem nst_stay {ks : List Lit} (hk : ∀ k ∈ ks, WideAt.IsKeyLit k) {i : Nat} (hi : i < ks.length) {k : Lit} {z : Nat} (h : (nst ks i).2 k = some z) : (nst ks (i + 1)).2 k = some z := by
 by_cases h2 : ((nst ks i).2 (ks.getD i (.bool false))).isSome = true
 ·rw [nst_old h2]; exact h
 ·rw [nst_new h2]
  have : k ≠ ks.getD i (.bool false) := fun e => h2 (by rw [← e, h]; rfl)
  simp only [upd_other _ _ this]; exact h
theorem nst_far {ks : List Lit} (hk : ∀ k ∈ ks, WideAt.IsKeyLit k) {i : Nat} {k : Lit} {z : Nat} (h : (nst ks i).2 k = some z) : ∀ d, i + d ≤ ks.length → (nst ks (i + d)).2 k = some z
 | 0, _ => h
 | d + 1, hd => by
  have := nst_stay hk (i := i + d) (by omega) (nst_far hk h d (by omega))
  exact this
theorem nno_at {ks : List Lit} (hk : ∀ k ∈ ks, WideAt.IsKeyLit k) {i j : Nat} (hi : i ≤ ks.length) (hj : j < i) : (nst ks i).2 (ks.getD j (.bool false)) = some (nno ks j) := by
 have hm : ((nst ks (j + 1)).2 (ks.getD j (.bool false))).isSome = true := by
  rw [nst_mem hk (j + 1) (by omega), (getD_lit hk (show j < ks.length by omega)).1, List.take_succ_eq_append_getElem (show j < ks.length by omega)]
  exact List.mem_append.2 (.inr (List.mem_singleton.2 rfl))
 obtain ⟨z, hz⟩ := Option.isSome_iff_exists.1 hm
 have hn : nno ks j = z := by unfold nno; rw [hz]; rfl
 rw [hn]
 have := nst_far hk hz (i - (j + 1)) (by omega)
 rw [show j + 1 + (i - (j + 1)) = i by omega] at this
 exact this
theorem nno_old {ks : List Lit} (hk : ∀ k ∈ ks, WideAt.IsKeyLit k) {i j : Nat} (hi : i < ks.length) (hj : j < i) (e : ks[j] = ks[i]) : nno ks i = nno ks j := by
 have h1 := nno_at hk (i := i + 1) (j := i) (by omega) (by omega)
 have h2 := nno_at hk (i := i + 1) (j := j) (by omega) (by omega)
 rw [(getD_lit hk hi).1] at h1
 rw [(getD_lit hk (by omega)).1, e, h1] at h2
 exact Option.some.inj h2
theorem nno_new {ks : List Lit} (hk : ∀ k ∈ ks, WideAt.IsKeyLit k) {i : Nat} (hi : i < ks.length) (h : ks[i] ∉ ks.take i) : nno ks i = (nst ks i).1 + 1 ∧ (nst ks (i + 1)).1 = (nst ks i).1 + 1 := by
 obtain ⟨hg, hl⟩ := getD_lit hk hi
 have hne : ¬ ((nst ks i).2 (ks.getD i (.bool false))).isSome = true := by rw [nst_mem hk i (by omega), hg]; exact h
 unfold nno
 rw [nst_new hne, hg]
 simp only [upd_same _ _ _ hl]
 exact ⟨rfl, trivial⟩
theorem nst_same {ks : List Lit} (hk : ∀ k ∈ ks, WideAt.IsKeyLit k) {i : Nat} (hi : i < ks.length) (h : ks[i] ∈ ks.take i) : (nst ks (i + 1)).1 = (nst ks i).1 := by
 rw [nst_old (by rw [nst_mem hk i (by omega), (getD_lit hk hi).1]; exact h)]
theorem nst_range {ks : List Lit} (hk : ∀ k ∈ ks, WideAt.IsKeyLit k) : ∀ (i : Nat), i ≤ ks.length → ∀ k z, (nst ks i).2 k = some z → 1 ≤ z ∧ z ≤ (nst ks i).1
 | 0, _, k, z, h => by simp [nst] at h
 | i + 1, hi, k, z, h => by
  have hi' : i < ks.length := by omega
  obtain ⟨hg, hl⟩ := getD_lit hk hi'
  by_cases h2 : ((nst ks i).2 (ks.getD i (.bool false))).isSome = true
  ·rw [nst_old h2] at h ⊢; exact nst_range hk i (by omega) k z h
  ·rw [nst_new h2] at h ⊢
   by_cases e : k = ks.getD i (.bool false)
   ·have hs : upd (nst ks i).2 (ks.getD i (.bool false)) ((nst ks i).1 + 1) k = some ((nst ks i).1 + 1) := by rw [e]; exact upd_same _ _ _ (by rw [hg]; exact hl)
    rw [show (upd (nst ks i).2 (ks.getD i (.bool false)) ((nst ks i).1 + 1)) k = some z from h] at hs
    have := Option.some.inj hs
    subst this
    exact ⟨by omega, Nat.le_refl _⟩
   ·simp only [upd_other _ _ e] at h
    have := nst_range hk i (by omega) k z h
    exact ⟨this.1, Nat.le_succ_of_le this.2⟩
theorem nno_range {ks : List Lit} (hk : ∀ k ∈ ks, WideAt.IsKeyLit k) {i : Nat} (hi : i < ks.length) : 1 ≤ nno ks i ∧ nno ks i ≤ (nst ks (i + 1)).1 := nst_range hk (i + 1) (by omega) _ _ (nno_at hk (by omega) (by omega))
def numb (l : List Nod) : List Nod := l.mapIdx (fun i n => { n with ino := (nno (ikeys l) i : Int) })
theorem numb_length (l : List Nod) : (numb l).length = l.length := by simp [numb]
theorem numb_get (l : List Nod) (i : Nat) (h : i < l.length) : (numb l)[i]'(by rw [numb_length]; exact h) = { l[i] with ino := (nno (ikeys l) i : Int) } := by simp [numb]
end Tre
end Go.Proofs.Ytflohhefbbidcaa
namespace Go.Proofs.Ytflohhefbbidcaa
open Go.RowKit Go.Maps
open Nam Tre
end Go.Proofs.Ytflohhefbbidcaa
namespace Go.Proofs.Ytflohhefbbidcaa
open Go.RowKit Go.Maps
open Nam Tre Mrg
namespace Brn
end Brn
open Brn
theorem MpK.get {k : TypeId} {w : World} {b sz : Nat} {f : Lit → Option Nat} (h : MpK k w b sz f) (K : Keyed Try.prog k) {t : TypeId} (ht : Try.prog.underlying t = some (.map k 3)) {key : Value} {kl : Lit} (hkey : keyOf Try.prog k key = some kl) (hk : WideAt.IsKeyLit kl) :
  (Instr.lookup t (.map (some b)) key false).run Try.prog w = .ok (.int .i64 (((f kl).getD 0 : Nat) : Int)) w := by
 obtain ⟨D, h1, _, h3⟩ := h
 obtain ⟨e1, e2⟩ := h3 kl hk
 obtain ⟨v, ps, hr, hv⟩ := h1.lookup K ht (zeroInt7 w) (zd := .held (.int .i64 0)) (zp := []) rfl hkey
 cases hf : f kl with
 | none =>
  rw [hf] at e1
  rw [Maps.atKey_of_not_has e1] at hv
  simp [HV] at hv
  rw [hv.1] at hr
  exact hr
 | some z =>
  rw [e2 z hf] at hv
  simp [HV] at hv
  rw [hv.1] at hr
  exact hr
end Go.Proofs.Ytflohhefbbidcaa

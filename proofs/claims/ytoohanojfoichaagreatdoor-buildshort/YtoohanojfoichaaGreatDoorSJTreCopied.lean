/- What the proof stands on: TreCopied, TreLinks, with what the proof reaches of it. -/
import Derived.Test.YtoohanojfoichaaGreatDoorSTreCopy
import Derived.Test.YtoohanojfoichaaGreatDoorSJTreAlike
import Derived.Deep.RegionHeld3
import Derived.Deep.RegionLaw

/- Layer 7: the walk of copied. -/
namespace Go.Proofs.YtoohanojfoichaaGreatDoor
set_option linter.unusedVariables false
open Go.RowKit Go.Maps
open Nam Tre
open Lz (g)

/-- A node's lists lie from B on. -/
structure Abv (w : World) (B : Nat) (v : Nv) : Prop where
  na : Ab B v.na
  da : Ab B v.da
  xa : Ab B v.xa
  xs : ∀ b off, v.xa = some ⟨b, off, none⟩ → ∀ i, i < v.xn → ∀ va vn vc, w.cell? ⟨b, off + i * 2 + 1, none⟩ = some (.slice va vn vc) → Ab B va
/-- Lists that are not too long. -/
structure Lean1 (v : Nv) (x : Nod) : Prop where
  nn : v.nn ≤ 1000000
  dn : v.dn ≤ 1000000
  xn : v.xn ≤ 1000000
  xv : ∀ y ∈ x.xs, y.2.length ≤ 1000000
theorem grownBy_below {w w' : World} {B : Nat} (h : w.grownBy w' none) (hB : B ≤ w.heap.size) : Below B w w' := (Below.refl B w).grown h hB (fun k e => by cases e)
theorem KeepT.grownN {e : TypeId} {w w' : World} (hg : w.grownBy w' none) : KeepT e w w' := (KeepT.refl e w).grown hg (fun k hk => by cases hk)
theorem Bk.keepT {w : World} {p k : Nat} {v : Nv} (h : Bk w p v) (e : TypeId) (he : e ≠ 48) (u : Value) : KeepT e w (w.setCell ⟨p, k, none⟩ u) := by
  refine (KeepT.refl e w).setCell u (fun cur fz hh => ?_)
  have h' : w.heap[p]? = some (.cells v.cells 48 (0, 0)) := h
  rw [h'] at hh
  injection hh with hh
  injection hh with _ h2 _
  exact he h2.symm
/-- A step of the walk: a copy is laid down, and its place is stored in the node's block. -/
theorem own_up {w : World} {B B' e size n : Nat} {v : Value} {xs : List Value} (h : w.ownsRow B' e size v n xs) (hB : B ≤ B') : w.ownsRow B e size v n xs := by
  refine ⟨h.1, ?_⟩
  rcases h.2 with h0 | ⟨g, cap, cur, h1, h2, r⟩
  · exact .inl h0
  · exact .inr ⟨g, cap, cur, h1, Nat.le_trans hB h2, r⟩
/-- What stands when the three lists are copied, and the values of the first i attributes. -/
structure Mid (w wr : World) (v : Nv) (x : Nod) (na da xa : Option Addr) (nc dc xc : Nat) (X X' : List Xv) (i : Nat) : Prop where
  bk : Bk wr w.heap.size { v with na := na, nc := nc, da := da, dc := dc, xa := xa, xc := xc }
  rb : Bk wr (w.heap.size + 1) nv0
  bel : Below w.heap.size w wr
  names : wr.ownsRow w.heap.size 9 1 (.slice na v.nn nc) v.nn (sv x.names)
  data : wr.ownsRow w.heap.size 5 1 (.slice da v.dn dc) v.dn (bv x.data)
  row : wr.ownsRow (w.heap.size + 2) 127 2 (.slice xa v.xn xc) v.xn (xvs X')
  len : X'.length = v.xn
  old : ∀ j, i ≤ j → gX X' j = gX X j
  new : ∀ j, j < i → (gX X' j).s = (gX X j).s ∧ (gX X' j).vn = (gX X j).vn ∧ wr.ownsRow w.heap.size 5 1 (.slice (gX X' j).va (gX X' j).vn (gX X' j).vc) (gX X' j).vn (bv (gx x.xs j).2)
theorem own_set {w : World} {B g cap i : Nat} {X' : List Xv} {n : Nat} (h : w.ownsRow B 127 2 (.slice (some ⟨g, 0, none⟩) n cap) n (xvs X')) (hl : X'.length = n) (hi : i < n) (a : Option Addr) (m c : Nat) :
    (w.setCell ⟨g, i * 2 + 1, none⟩ (.slice a m c)).ownsRow B 127 2 (.slice (some ⟨g, 0, none⟩) n cap) n (xvs (X'.set i ⟨(gX X' i).s, a, m, c⟩)) := by
  have := h.stored (i * 2 + 1) (.slice a m c)
  rw [xvs_set X' i a m c (by omega)] at this
  rw [gX_lt X' i (by omega)]
  exact this.1
theorem keep_x {w : World} {B g cap n k : Nat} {xs : List Value} (h : w.ownsRow B 127 2 (.slice (some ⟨g, 0, none⟩) n cap) n xs) (e : TypeId) (he : e ≠ 127) (u : Value) : KeepT e w (w.setCell ⟨g, k, none⟩ u) := by
  refine (KeepT.refl e w).setCell u (fun cur fz hh => ?_)
  rcases h.2 with ⟨h0, _⟩ | ⟨g', cap', cur', h0, _, h1, _⟩
  · simp at h0
  · simp at h0
    obtain ⟨rfl, _⟩ := h0
    rw [h1] at hh
    injection hh with hh
    injection hh with _ h2 _
    exact he h2.symm
theorem gX_set (X : List Xv) (i j : Nat) (x : Xv) (hi : i < X.length) : gX (X.set i x) j = if j = i then x else gX X j := by
  unfold gX
  by_cases e : j = i
  · subst e; simp [hi]
  · rw [if_neg e]; simp [Ne.symm e]
/-- One attribute's value is copied. -/
theorem Mid.step {w wr w5 : World} {v : Nv} {x : Nod} {na da : Option Addr} {nc dc xc g i : Nat} {X X' : List Xv} (h : Mid w wr v x na da (some ⟨g, 0, none⟩) nc dc xc X X' i) (hi : i < v.xn) (hg : wr.drew.grownBy w5 none) (a : Option Addr) (m c : Nat)
    (ho : w5.ownsRow wr.drew.heap.size 5 1 (.slice a m c) m (bv (gx x.xs i).2)) (hm : m = (gX X i).vn) : Mid w (w5.setCell ⟨g, i * 2 + 1, none⟩ (.slice a m c)) v x na da (some ⟨g, 0, none⟩) nc dc xc X (X'.set i ⟨(gX X' i).s, a, m, c⟩) (i + 1) := by
  have hs := h.bel.size
  have hgB := (h.row.lt g rfl)
  have hg' : wr.grownBy w5 none := ⟨hg.os, hg.tape, hg.output, hg.size, hg.block⟩
  have row5 : w5.ownsRow (w.heap.size + 2) 127 2 (.slice (some ⟨g, 0, none⟩) v.xn xc) v.xn (xvs X') := (KeepT.grownN hg).owns (show wr.drew.ownsRow _ _ _ _ _ _ from h.row)
  have b5 : ∀ p, p < wr.heap.size → p ≠ g → (w5.setCell ⟨g, i * 2 + 1, none⟩ (.slice a m c)).heap[p]? = wr.heap[p]? := fun p hp hne => (set_other _ _ _ _ _ hne).trans (hg.block p hp (by simp))
  have kp : ∀ e, e ≠ 127 → KeepT e wr (w5.setCell ⟨g, i * 2 + 1, none⟩ (.slice a m c)) := fun e he => KeepT.trans (show KeepT e wr w5 from KeepT.grownN hg') (keep_x row5 e he _)
  refine ⟨h.bk.block (b5 _ (heap_lt h.bk) (by omega)), h.rb.block (b5 _ (heap_lt h.rb) (by omega)), ?_, (kp _ (by decide)).owns h.names, (kp _ (by decide)).owns h.data, own_set row5 h.len hi a m c, by rw [List.length_set]; exact h.len, fun j hj => ?_, fun j hj => ?_⟩
  · have e1 : Below w.heap.size wr w5 := grownBy_below hg' hs
    exact (h.bel.trans e1).setCell (by show w.heap.size ≤ g; omega) _
  · rw [gX_set _ _ _ _ (by rw [h.len]; exact hi), if_neg (by omega)]
    exact h.old j (by omega)
  · rw [gX_set _ _ _ _ (by rw [h.len]; exact hi)]
    by_cases e : j = i
    · subst e
      rw [if_pos rfl]
      refine ⟨by rw [h.old j (Nat.le_refl _)], hm, ?_⟩
      exact (keep_x row5 _ (by decide) _).owns (own_up ho hs)
    · rw [if_neg e]
      obtain ⟨q1, q2, q3⟩ := h.new j (by omega)
      exact ⟨q1, q2, (kp _ (by decide)).owns q3⟩
theorem xsr_of {w : World} {B n c : Nat} {ao : Option Addr} {X : List Xv} {xs : List (ByteArray × List Int)} (h : w.ownsRow B 127 2 (.slice ao n c) n (xvs X)) (hl : xs.length = n) (hX : X.length = n) (hr : ∀ j, j < n → XRep w (gX X j) (gx xs j)) : XsR w ao n xs := by
  refine ⟨hl, ?_⟩
  by_cases e : n = 0
  · exact .inl e
  · obtain ⟨g, c', hv, _, hlt⟩ := h.form (by omega)
    obtain ⟨rfl, _, rfl⟩ : ao = some ⟨g, 0, none⟩ ∧ n = n ∧ c = c' := by simpa using hv
    refine .inr ⟨g, 0, rfl, hlt, fun i hi => ?_⟩
    obtain ⟨q1, q2, q3, q4, q5, q6⟩ := hr i hi
    have hg := xvs_get X i (by omega)
    refine ⟨?_, (gX X i).va, (gX X i).vn, (gX X i).vc, ?_, q2, q3, q4, q5, q6⟩
    · rw [Nat.zero_add, h.cellAt _ (by omega), hg.1, ← gX_lt X i (by omega), q1]
    · rw [Nat.zero_add, h.cellAt _ (by omega), hg.2, ← gX_lt X i (by omega)]
/-- What stands at the end. -/
theorem Mid.fin {w wr : World} {v : Nv} {x : Nod} {na da xa : Option Addr} {nc dc xc i : Nat} {X X' : List Xv} (h : Mid w wr v x na da xa nc dc xc X X' i) (hr : Rep w v x) (hX : ∀ wr, Below w.heap.size w wr → ∀ i, i < v.xn → XRep wr (gX X i) (gx x.xs i)) (hi : i = v.xn)
    (u : Nv) (hu : u = { v with na := na, nc := nc, da := da, dc := dc, xa := xa, xc := xc }) : Rep (put10 wr (w.heap.size + 1) u) u x ∧ Abv (put10 wr (w.heap.size + 1) u) w.heap.size u ∧ Below w.heap.size w (put10 wr (w.heap.size + 1) u) := by
  have kp : ∀ e, e ≠ 48 → KeepT e wr (put10 wr (w.heap.size + 1) u) := fun e he => h.rb.put10_keepT u e he
  have hn := (kp _ (by decide)).owns h.names
  have hd := (kp _ (by decide)).owns h.data
  have hx := (kp _ (by decide)).owns h.row
  have hbel := put10_below h.bel (show w.heap.size ≤ w.heap.size + 1 by omega) u
  have hnew : ∀ j, j < v.xn → (gX X' j).s = (gX X j).s ∧ (gX X' j).vn = (gX X j).vn ∧ (put10 wr (w.heap.size + 1) u).ownsRow w.heap.size 5 1 (.slice (gX X' j).va (gX X' j).vn (gX X' j).vc) (gX X' j).vn (bv (gx x.xs j).2) := fun j hj => by
    obtain ⟨q1, q2, q3⟩ := h.new j (by omega)
    exact ⟨q1, q2, (kp _ (by decide)).owns q3⟩
  have hxr : ∀ j, j < v.xn → XRep (put10 wr (w.heap.size + 1) u) (gX X' j) (gx x.xs j) := fun j hj => by
    obtain ⟨q1, q2, q3⟩ := hnew j hj
    obtain ⟨t1, t2, _, _, _, t6⟩ := hX _ hbel j hj
    have hc := cap_owns q3
    exact ⟨by rw [q1]; exact t1, bs_of_owns q3 t2.bytes, hc.1, hc.2.1, hc.2.2, t6⟩
  have cn := cap_owns hn
  have cd := cap_owns hd
  have cx := cap_owns hx
  refine ⟨?_, ?_, hbel⟩
  · rw [hu] at hn hd hx hxr ⊢
    exact { hr with names := rs_of_owns hn, nc := cn.1, ncm := cn.2.1, nnil := cn.2.2, data := bs_of_owns hd hr.data.bytes, dc := cd.1, dcm := cd.2.1, dnil := cd.2.2, xs := xsr_of hx hr.xs.1 h.len hxr, xc := cx.1, xcm := cx.2.1, xnil := cx.2.2 }
  · have e1 : u.na = na := by rw [hu]
    have e2 : u.da = da := by rw [hu]
    have e3 : u.xa = xa := by rw [hu]
    have e4 : u.xn = v.xn := by rw [hu]
    refine ⟨by rw [e1]; exact ab_of_owns hn, by rw [e2]; exact ab_of_owns hd, by rw [e3]; exact ab_of_owns (own_up hx (by omega)), ?_⟩
    intro b off hxa j hj va vn vc hcell
    rw [e3] at hxa
    rw [e4] at hj
    subst hxa
    obtain ⟨g, c', hv, _, _⟩ := hx.form (by omega)
    obtain ⟨⟨rfl, rfl⟩, rfl⟩ : (b = g ∧ off = 0) ∧ xc = c' := by simpa using hv
    rw [Nat.zero_add, hx.cellAt _ (by omega), (xvs_get X' j (by rw [h.len]; exact hj)).2, ← gX_lt X' j (by rw [h.len]; exact hj)] at hcell
    have : va = (gX X' j).va := by simp at hcell; exact hcell.1.symm
    rw [this]
    exact ab_of_owns (hnew j hj).2.2
set_option maxRecDepth 100000 in
set_option maxHeartbeats 1000000 in
theorem copied_any (v : Nv) (x : Nod) (w : World) (hr : Rep w v x) (hL : Lean1 v x) :
    Calls Tryz.prog 31 #[.agg v.cells] w fun e w' => ∃ v', e = .returned (.agg v'.cells) ∧ Rep w' v' x ∧ Abv w' w.heap.size v' ∧ Below w.heap.size w w' := by
  obtain ⟨W0, hW0⟩ : ∃ W0, W0 = (w.alloc (.cells v.cells 48)).alloc (.cells #[.slice none 0 0, .int .i64 0, .int .i64 0, .int .i64 0, .int .i64 0, .int .i64 0, .slice none 0 0, .string ⟨#[]⟩, .slice none 0 0, .bool false] 48) := ⟨_, rfl⟩
  have b0 : Bk W0 w.heap.size v := by rw [hW0]; exact (bk_new w v).block (Below.heap_alloc _ _ _ (by simp))
  have r0 : Bk W0 (w.heap.size + 1) nv0 := by rw [hW0]; have := bk_new (w.alloc (.cells v.cells 48)) nv0; rw [World.size_alloc] at this; exact this
  have e0 : Below w.heap.size w W0 := by rw [hW0]; exact below_alloc2 w _ _
  have s0 : W0.heap.size = w.heap.size + 2 := by rw [hW0]; simp
  -- names
  obtain ⟨na, nc, w1, run1, own1, gr1⟩ := clone_strs W0 43 v.na v.nn v.nc x.names (hr.below e0).names hr.nnil hL.nn
  have z1 := gr1.size
  have b1 := b0.block (gr1.block _ (by omega) (by simp))
  obtain ⟨w1', hw1'⟩ : ∃ w1', w1' = w1.setCell ⟨w.heap.size, 0, none⟩ (.slice na v.nn nc) := ⟨_, rfl⟩
  have b1' : Bk w1' w.heap.size { v with na := na, nc := nc } := by rw [hw1']; exact b1.set0 na v.nn nc
  have k1s : KeepT 9 w1 w1' := by rw [hw1']; exact b1.keepT _ (by decide) _
  have z1' : w1'.heap.size = w1.heap.size := by rw [hw1']; simp
  have r1' : Bk w1' (w.heap.size + 1) nv0 := by rw [hw1']; exact (r0.block (gr1.block _ (by omega) (by simp))).block (set_other _ _ _ _ _ (by omega))
  have e1' : Below w.heap.size w w1' := by rw [hw1']; exact (e0.trans (grownBy_below gr1 (by omega))).setCell (Nat.le_refl _) _
  have own1' := k1s.owns (own_up own1 (show w.heap.size ≤ W0.heap.size by omega))
  -- data
  obtain ⟨da, dc, w2, run2, own2, gr2⟩ := clone_bytes w1' 25 v.da v.dn v.dc x.data (hr.below e1').data hr.dnil hL.dn
  have z2 := gr2.size
  have b2 := b1'.block (gr2.block _ (by omega) (by simp))
  obtain ⟨w2', hw2'⟩ : ∃ w2', w2' = w2.setCell ⟨w.heap.size, 6, none⟩ (.slice da v.dn dc) := ⟨_, rfl⟩
  have b2' : Bk w2' w.heap.size { v with na := na, nc := nc, da := da, dc := dc } := by rw [hw2']; exact b2.set6 da v.dn dc
  have z2' : w2'.heap.size = w2.heap.size := by rw [hw2']; simp
  have r2' : Bk w2' (w.heap.size + 1) nv0 := by rw [hw2']; exact (r1'.block (gr2.block _ (by omega) (by simp))).block (set_other _ _ _ _ _ (by omega))
  have e2' : Below w.heap.size w w2' := by rw [hw2']; exact (e1'.trans (grownBy_below gr2 (by omega))).setCell (Nat.le_refl _) _
  have own2' : w2'.ownsRow w.heap.size 5 1 (.slice da v.dn dc) v.dn (bv x.data) := by rw [hw2']; exact (b2.keepT _ (by decide) _).owns (own_up own2 (by omega))
  have own1'' : w2'.ownsRow w.heap.size 9 1 (.slice na v.nn nc) v.nn (sv x.names) := by rw [hw2']; exact (b2.keepT _ (by decide) _).owns ((KeepT.grownN gr2).owns own1')
  -- attributes
  obtain ⟨X, hXl, hXr, hXc0⟩ := hr.xs.xv
  have hXc : v.xn = 0 ∨ ∃ b off, v.xa = some ⟨b, off, none⟩ ∧ ∀ j u, (xvs X)[j]? = some u → w2'.cell? ⟨b, off + j, none⟩ = some u := by
    rcases hXc0 with h0 | ⟨b, off, h1, h2⟩
    · exact .inl h0
    · exact .inr ⟨b, off, h1, fun j u hu => (e2'.cell (p := ⟨b, off + j, none⟩) (World.block_lt_of_cell? w _ (h2 j u hu))).trans (h2 j u hu)⟩
  obtain ⟨xa, xc, w3, run3, own3, gr3⟩ := clone_xats w2' 46 v.xa v.xn v.xc X hXl hXc hr.xnil hL.xn
  have z3 := gr3.size
  have b3 := b2'.block (gr3.block _ (by omega) (by simp))
  obtain ⟨w3', hw3'⟩ : ∃ w3', w3' = w3.setCell ⟨w.heap.size, 8, none⟩ (.slice xa v.xn xc) := ⟨_, rfl⟩
  have b3' : Bk w3' w.heap.size { v with na := na, nc := nc, da := da, dc := dc, xa := xa, xc := xc } := by rw [hw3']; exact b3.set8 xa v.xn xc
  have z3' : w3'.heap.size = w3.heap.size := by rw [hw3']; simp
  have r3' : Bk w3' (w.heap.size + 1) nv0 := by rw [hw3']; exact (r2'.block (gr3.block _ (by omega) (by simp))).block (set_other _ _ _ _ _ (by omega))
  have e3' : Below w.heap.size w w3' := by rw [hw3']; exact (e2'.trans (grownBy_below gr3 (by omega))).setCell (Nat.le_refl _) _
  have M0 : Mid w w3' v x na da xa nc dc xc X X 0 := by
    refine ⟨b3', r3', e3', ?_, ?_, ?_, hXl, fun j _ => rfl, fun j hj => by omega⟩
    · rw [hw3']; exact (b3.keepT _ (by decide) _).owns ((KeepT.grownN gr3).owns own1'')
    · rw [hw3']; exact (b3.keepT _ (by decide) _).owns ((KeepT.grownN gr3).owns own2')
    · rw [hw3']; exact (b3.keepT _ (by decide) _).owns (own_up own3 (by omega))
  have HM0 := hide M0
  have HXR : Hid (∀ wr, Below w.heap.size w wr → ∀ i, i < v.xn → XRep wr (gX X i) (gx x.xs i)) := by
    intro wr hb i hi
    obtain ⟨q1, q2, q3⟩ := hXr i hi
    exact ⟨q1, q2.below hb, q3⟩
  obtain ⟨_, a0, a1, a2, a3, a4, a5, a6, a7, a8, a9⟩ := b1.box
  obtain ⟨_, c0, c1, c2, c3, c4, c5, c6, c7, c8, c9⟩ := b2.box
  obtain ⟨_, d0, d1, d2, d3, d4, d5, d6, d7, d8, d9⟩ := b3.box
  have f0 := b1.frozen 0
  have f6 := b2.frozen 6
  have f8 := b3.frozen 8
  have HW3 := hide hw3'
  rw [hW0] at run1
  rw [hw1'] at run2
  rw [hw2'] at run3
  simp only [Nv.cells] at run1
  have hxl : v.xn ≤ 1000000 := hL.xn
  have HL1 := hide hL
  have HR := hide hr
  clear hr b0 r0 e0 s0 own1 gr1 z1 b1 hw1' b1' k1s z1' r1' e1' own1' own2 gr2 z2 b2 hw2' b2' z2' r2' e2' own2' own1'' hXr hXc hXc0 own3 gr3 z3 b3 hw3' b3' z3' r3' e3' M0 hW0 hL
  simp only [Nv.cells]
  go_enter Tryz.func31, Tryz.ntmps31
  go_wp2_with (at_builtin; first
    | refine wpList_append_run rfl _ _ _ rfl _ _ _ rfl rfl run1 ?_
    | refine wpList_append_run rfl _ _ _ rfl _ _ _ rfl rfl run2 ?_
    | refine wpList_append_run rfl _ _ _ rfl _ _ _ rfl rfl run3 ?_)
  rw [← HW3.out]
  go_loopw [3, 19] (fun _ r wr => ∃ (i : Nat) (X' : List Xv), r = .int .i64 i ∧ i ≤ v.xn ∧ Mid w wr v x na da xa nc dc xc X X' i) (fun _ r _ => v.xn - (intOf r).toNat)
  case atStart => exact ⟨0, X, rfl, Nat.zero_le _, HM0.out⟩
  case round =>
    obtain ⟨i, X', rfl, hi0, hm⟩ := hrel
    have HM := hide hm
    by_cases hi : i < v.xn
    · have hd : decide ((i : Int) < v.xn) = true := by simpa using hi
      clear run1 run2 run3 a0 a1 a2 a3 a4 a5 a6 a7 a8 a9 c0 c1 c2 c3 c4 c5 c6 c7 c8 c9 d0 d1 d2 d3 d4 d5 d6 d7 d8 d9 f0 f6 f8 HW3 HM0
      obtain ⟨g, xc', hv, hgB, hgl⟩ := hm.row.form (by omega)
      obtain ⟨rfl, _, rfl⟩ : xa = some ⟨g, 0, none⟩ ∧ v.xn = v.xn ∧ xc = xc' := by simpa using hv
      have p8 := hm.bk.box.c8
      have hcv : wr.cell? ⟨g, i * 2 + 1, none⟩ = some (.slice (gX X i).va (gX X i).vn (gX X i).vc) := by
        rw [hm.row.cellAt _ (by omega), (xvs_get X' i (by rw [hm.len]; exact hi)).2, ← gX_lt X' i (by rw [hm.len]; exact hi), hm.old i (Nat.le_refl _)]
      obtain ⟨q1, q2, q3, q4, q5, q6⟩ := HXR.out wr hm.bel i hi
      have hvb : (gX X i).vn ≤ 1000000 := by
        rw [← q2.1]
        have hmem : gx x.xs i ∈ x.xs := by rw [gx_lt _ _ (by have := HR.out.xs.1; omega)]; exact List.getElem_mem _
        exact HL1.out.xv _ hmem
      obtain ⟨a5, k5, w5, run5, own5, gr5⟩ := clone_bytes wr.drew 25 (gX X i).va (gX X i).vn (gX X i).vc (gx x.xs i).2 q2 q5 hvb
      have HST := hide (hm.step hi gr5 a5 _ k5 own5 rfl)
      have m8 : w5.cell? ⟨w.heap.size, 8, none⟩ = some (.slice (some ⟨g, 0, none⟩) v.xn xc) := (hm.bk.block (gr5.block _ (heap_lt hm.bk) (by simp))).box.c8
      have row5 : w5.ownsRow (w.heap.size + 2) 127 2 (.slice (some ⟨g, 0, none⟩) v.xn xc) v.xn (xvs X') := (KeepT.grownN gr5).owns (show wr.drew.ownsRow _ _ _ _ _ _ from hm.row)
      have mcv : w5.cell? ⟨g, i * 2 + 1, none⟩ = some (.slice (gX X i).va (gX X i).vn (gX X i).vc) := by
        rw [row5.cellAt _ (by omega), (xvs_get X' i (by rw [hm.len]; exact hi)).2, ← gX_lt X' i (by rw [hm.len]; exact hi), hm.old i (Nat.le_refl _)]
      have mfz : w5.frozen? ⟨g, i * 2 + 1, none⟩ = false := row5.frozenAt _
      have hi1 : (i : Int) < v.xn := by omega
      clear hm own5 gr5 row5 hv q2
      go_wp2
      go_region_law ((refine step_append_run rfl _ _ _ rfl _ _ _ rfl rfl run5 ?_))
      all_goals (
        go_wp2
        exact ⟨⟨i + 1, _, by go_num, by omega, HST.out⟩, by simp [intOf]; omega⟩)
    · have hd : decide ((i : Int) < v.xn) = false := by simpa using hi
      clear run1 run2 run3 a0 a1 a2 a3 a4 a5 a6 a7 a8 a9 c0 c1 c2 c3 c4 c5 c6 c7 c8 c9 d0 d1 d2 d3 d4 d5 d6 d7 d8 d9 f0 f6 f8 HW3 HM0
      obtain ⟨_, p0, p1, p2, p3, p4, p5, p6, p7, p8, p9⟩ := hm.bk.box
      obtain ⟨_, t0, t1, t2, t3, t4, t5, t6, t7, t8, t9⟩ := hm.rb.box
      have z0 := hm.rb.frozen 0
      have z1 := hm.rb.frozen 1
      have z2 := hm.rb.frozen 2
      have z3 := hm.rb.frozen 3
      have z4 := hm.rb.frozen 4
      have z5 := hm.rb.frozen 5
      have z6 := hm.rb.frozen 6
      have z7 := hm.rb.frozen 7
      have z8 := hm.rb.frozen 8
      have z9 := hm.rb.frozen 9
      clear hm
      have HN : Hid (i = v.xn) := by show _ = _; omega
      go_wp2_with fail
      obtain ⟨u, hu⟩ : ∃ u : Nv, u = { v with na := na, nc := nc, da := da, dc := dc, xa := xa, xc := xc } := ⟨_, rfl⟩
      obtain ⟨w9, hw9⟩ : ∃ w9, w9 = put10 wr (w.heap.size + 1) u := ⟨_, rfl⟩
      have hb9 : Bk w9 (w.heap.size + 1) u := by rw [hw9]; exact HM.out.rb.put10 u
      have FIN : Hid (Rep w9 u x ∧ Abv w9 w.heap.size u ∧ Below w.heap.size w w9) := by
        rw [hw9]
        exact HM.out.fin HR.out HXR.out HN.out u hu
      obtain ⟨_, m0, m1, m2, m3, m4, m5, m6, m7, m8, m9⟩ := hb9.box
      have hw9' := hw9
      unfold put10 at hw9'
      rw [hu] at hw9' m0 m1 m2 m3 m4 m5 m6 m7 m8 m9
      simp only at hw9' m0 m1 m2 m3 m4 m5 m6 m7 m8 m9
      rw [← hw9']
      refine bodyPost_ret (v := .agg #[.slice na v.nn nc, .int .i64 v.ino, .int .i64 v.kind, .int .i64 v.mode, .int .i64 v.uid, .int .i64 v.gid, .slice da v.dn dc, .string v.tg, .slice xa v.xn xc, .bool v.op]) (by simp [results, Tryz.results31, go_sem, m0, m1, m2, m3, m4, m5, m6, m7, m8, m9]) rfl ?_
      exact ⟨u, by rw [hu], FIN.out.1, FIN.out.2.1, FIN.out.2.2⟩
end Go.Proofs.YtoohanojfoichaaGreatDoor

/- Layer 7: nodes of one Ino: linksAgree. -/
namespace Go.Proofs.YtoohanojfoichaaGreatDoor
set_option linter.unusedVariables false
open Go.RowKit Go.Maps
open Nam Tre

namespace Tre
/-- The places of keys, the first one of each, of the first i. -/
def mfirst (ks : List Lit) : Nat → Lit → Option Nat
  | 0 => fun _ => none
  | i + 1 => if (mfirst ks i (ks.getD i (.bool false))).isSome = true then mfirst ks i else upd (mfirst ks i) (ks.getD i (.bool false)) i
def fcnt (ks : List Lit) : Nat → Nat
  | 0 => 0
  | i + 1 => if (mfirst ks i (ks.getD i (.bool false))).isSome = true then fcnt ks i else fcnt ks i + 1
theorem mfirst_some {ks : List Lit} (hk : ∀ k ∈ ks, WideAt.IsKeyLit k) : ∀ (i : Nat), i ≤ ks.length → ∀ k j, mfirst ks i k = some j → j < i ∧ ks[j]? = some k
  | 0, _, k, j, h => by cases h
  | i + 1, hi, k, j, h => by
    have hg : ks.getD i (.bool false) = ks[i] := by simp [show i < ks.length by omega]
    rw [mfirst] at h
    split at h
    · obtain ⟨h1, h2⟩ := mfirst_some hk i (by omega) k j h
      exact ⟨by omega, h2⟩
    · by_cases e : k = ks.getD i (.bool false)
      · rw [e, upd_same _ _ _ (by rw [hg]; exact hk _ (List.getElem_mem _))] at h
        cases h
        exact ⟨by omega, by rw [e, hg, List.getElem?_eq_getElem]⟩
      · rw [upd_other _ _ e] at h
        obtain ⟨h1, h2⟩ := mfirst_some hk i (by omega) k j h
        exact ⟨by omega, h2⟩
theorem mfirst_mem {ks : List Lit} (hk : ∀ k ∈ ks, WideAt.IsKeyLit k) : ∀ (i : Nat), i ≤ ks.length → ∀ k, (mfirst ks i k).isSome = true ↔ k ∈ ks.take i
  | 0, _, k => by simp [mfirst]
  | i + 1, hi, k => by
    have hi' : i < ks.length := by omega
    have hg : ks.getD i (.bool false) = ks[i] := by simp [hi']
    rw [List.take_succ_eq_append_getElem hi', List.mem_append, List.mem_singleton, mfirst, hg]
    by_cases e : k = ks[i]
    · split
      · rename_i h; rw [e]; simp [h]
      · rw [e, upd_same _ _ _ (hk _ (List.getElem_mem _))]; simp
    · split
      · rw [mfirst_mem hk i (by omega) k]; simp [e]
      · rw [upd_other _ _ e, mfirst_mem hk i (by omega) k]; simp [e]
theorem fcnt_le {ks : List Lit} : ∀ (i : Nat), fcnt ks i ≤ i
  | 0 => Nat.le_refl _
  | i + 1 => by
    have := fcnt_le (ks := ks) i
    rw [fcnt]; split <;> omega
def ikeys (l : List Nod) : List Lit := l.map (fun n => .int .i64 n.ino)
theorem ikeys_length (l : List Nod) : (ikeys l).length = l.length := by simp [ikeys]
theorem ikeys_lit (l : List Nod) : ∀ k ∈ ikeys l, WideAt.IsKeyLit k := by
  intro k hk
  simp only [ikeys, List.mem_map] at hk
  obtain ⟨n, _, rfl⟩ := hk
  exact trivial
theorem pair_snoc (l : List Nod) (n : Nod) : (l ++ [n]).Pairwise Tre.one ↔ l.Pairwise Tre.one ∧ ∀ m ∈ l, one m n := by
  rw [List.pairwise_append]
  constructor
  · rintro ⟨h1, _, h3⟩; exact ⟨h1, fun m hm => h3 m hm n (by simp)⟩
  · rintro ⟨h1, h2⟩; exact ⟨h1, by simp, fun a ha b hb => by rw [List.mem_singleton] at hb; subst hb; exact h2 a ha⟩
/-- A new Ino. -/
theorem pair_new {l : List Nod} {n : Nod} (h : l.Pairwise Tre.one) (hn : (.int .i64 n.ino : Lit) ∉ ikeys l) : (l ++ [n]).Pairwise Tre.one := by
  rw [pair_snoc]
  refine ⟨h, fun m hm e => ?_⟩
  exact absurd (List.mem_map.2 ⟨m, hm, by rw [e]⟩) hn
/-- An Ino that was there: held against one of it. -/
theorem pair_old {l : List Nod} {n m : Nod} (h : l.Pairwise Tre.one) (hm : m ∈ l) (e : m.ino = n.ino) (hk : n.kind ≠ 1) (ha : alike m n = true) : (l ++ [n]).Pairwise Tre.one := by
  rw [pair_snoc]
  refine ⟨h, fun x hx ex => ⟨hk, ?_⟩⟩
  by_cases he : x = m
  · rw [he]; exact ha
  · have hxm : alike x m = true := by
      obtain ⟨i, hi, rfl⟩ := List.getElem_of_mem hx
      obtain ⟨j, hj, rfl⟩ := List.getElem_of_mem hm
      rw [List.pairwise_iff_getElem] at h
      rcases Nat.lt_trichotomy i j with k | k | k
      · exact (h i j hi hj k (ex.trans e.symm)).2
      · subst k; exact absurd rfl he
      · exact alike_symm (h j i hj hi k (e.trans ex.symm)).2
    exact alike_trans hxm ha
theorem pair_not {l r : List Nod} {n m : Nod} (hm : m ∈ l) (e : m.ino = n.ino) (hk : n.kind = 1 ∨ alike m n = false) : ¬ (l ++ n :: r).Pairwise Tre.one := by
  intro h
  rw [List.pairwise_append] at h
  have := h.2.2 m hm n (by simp) e
  rcases hk with hk | hk
  · exact this.1 hk
  · rw [hk] at this; exact absurd this.2 (by simp)
end Tre
theorem ikeys_at (L : List (Nv × Nod)) (i : Nat) (h : i < L.length) : (ikeys (nds L)).getD i (.bool false) = .int .i64 (gl L i).2.ino := by
  have : i < (ikeys (nds L)).length := by rw [ikeys_length, nds_length]; exact h
  rw [List.getD_eq_getElem?_getD, List.getElem?_eq_getElem this, Option.getD_some, gl_lt L i h]
  simp [ikeys, nds]
theorem keyedInt : Keyed Tryz.prog 3 := int_keyed Tryz.underlying3
theorem make_hintI (n : Nat) (w : World) : (Instr.makeMap 59 (some (.int .i64 (n : Int)))).run Tryz.prog w = .ok (.map (some w.heap.size)) (w.alloc (.map #[] 0)) := by
  simp [Instr.makeMap, run_underlying Tryz.underlying59, asInt, asIntOf, Result.andThen]
theorem mapUnderI : Tryz.prog.underlying 59 = some (.map 3 3) := Tryz.underlying59
set_option maxRecDepth 100000 in
theorem linksAgree_any (a : Option Addr) (n c : Nat) (L : List (Nv × Nod)) (w : World) (hl : Ns w a n L) (hc : n ≤ c) (hcm : c ≤ 9223372036854775807) (hn : n ≤ 100000) :
    Calls Tryz.prog 78 #[.slice a n c] w fun e w' => e = .returned (.bool (decide ((nds L).Pairwise Tre.one))) ∧ Below w.heap.size w w' := by
  have HL := hide hl
  have HLN := hide hl.1
  have hn' : (n : Int) ≤ 100000 := by omega
  have mk := make_hintI n
  clear hl
  go_enter Tryz.func78, Tryz.ntmps78
  go_wp2
  go_loopw [4, 5, 6, 7, 13, 18] (fun _ _ _ _ r _ wr => ∃ i : Nat, r = .int .i64 i ∧ i ≤ n ∧ Below w.heap.size w wr ∧ MpK 3 wr w.heap.size (fcnt (ikeys (nds L)) i) (mfirst (ikeys (nds L)) i) ∧ ((nds L).take i).Pairwise Tre.one) (fun _ _ _ _ r _ _ => n - (intOf r).toNat)
  case atStart => exact ⟨0, rfl, Nat.zero_le _, (Below.refl _ _).alloc (Nat.le_refl _) _, mpk_new _ w, by simp⟩
  case round =>
    obtain ⟨i, rfl, hi0, hbel, hmp, hpw⟩ := hrel
    have HB := hide hbel
    have HM := hide hmp
    have HPW := hide hpw
    by_cases hi : i < n
    · have hd : decide ((i : Int) < n) = true := by simpa using hi
      obtain ⟨ba, oa, rfl, hba, hca⟩ := (HL.out.below hbel).at (by omega)
      have HCA := hide hca
      obtain ⟨c0, c1, c2, c3, c4, c5, c6, c7, c8, c9⟩ := hca i hi
      have hr := HL.out.rep i hi
      have HR := hide hr
      have HK := hide (ikeys_at L i (by rw [HLN.out]; exact hi))
      have HNT := hide (nds_take L i (by rw [HLN.out]; exact hi))
      have bel : Hid (∀ o, Below wr.heap.size wr (wr.alloc o)) := fun o => (Below.refl _ _).alloc (Nat.le_refl _) _
      have hkey : keyOf Tryz.prog 3 (.int .i64 (gl L i).1.ino) = some (.int .i64 (gl L i).1.ino) := keyOf_int_mk Tryz.underlying3 hr.in64
      have hlk := fun o => (hmp.below (bel.out o)).look keyedInt mapUnderI hkey trivial
      have hsz := hmp.lt
      cases hf : mfirst (ikeys (nds L)) i (.int .i64 (gl L i).1.ino) with
      | none =>
        rw [hf] at hlk
        simp only [Option.getD_none, Option.isSome_none] at hlk
        have hst := fun o => (hmp.below (bel.out o)).store keyedInt mapUnderI hkey trivial (by have := fcnt_le (ks := ikeys (nds L)) i; omega) i
        have HST := hide hst
        have HF := hide hf
        clear hca hbel hmp hr mk hpw hf hkey hst
        obtain ⟨w2, hrun, hm2, hg2⟩ := HST.out (.cells (gl L i).1.cells 48)
        simp only [Nv.cells] at hrun
        rw [HF.out] at hm2
        have HM2 := hide hm2
        have e2 : Hid (Below w.heap.size w w2) := ((HB.out.alloc HB.out.size _).grown hg2 (by simp; omega) (fun k hk => by cases hk; exact Nat.le_refl _))
        have HN : Hid ((.int .i64 (gl L i).2.ino : Lit) ∉ (ikeys (nds L)).take i) := by
          show _ ∉ _
          rw [← mfirst_mem (ikeys_lit _) i (by rw [ikeys_length, nds_length, HLN.out]; omega), HR.out.ino, HF.out]
          simp
        clear hm2 hg2 HST
        go_wp2
        refine ⟨⟨i + 1, by go_num, by omega, e2.out, ?_, ?_⟩, by simp [intOf]; omega⟩
        · rw [fcnt, mfirst, HK.out, HR.out.ino, HF.out]
          exact HM2.out
        · rw [HNT.out]
          refine pair_new HPW.out ?_
          have := HN.out
          rw [ikeys, ← List.map_take] at this
          exact this
      | some j =>
        rw [hf] at hlk
        simp only [Option.getD_some, Option.isSome_some] at hlk
        obtain ⟨hj, hjk⟩ := mfirst_some (ikeys_lit _) i (by rw [ikeys_length, nds_length, HLN.out]; omega) _ _ hf
        obtain ⟨d0, d1, d2, d3, d4, d5, d6, d7, d8, d9⟩ := hca j (by omega)
        have HRj := hide (HL.out.rep j (by omega))
        have HIJ : Hid ((gl L j).2.ino = (gl L i).2.ino) := by
          show _ = _
          rw [ikeys, List.getElem?_map, List.getElem?_eq_getElem (by rw [nds_length, HLN.out]; omega)] at hjk
          have : (nds L)[j]'(by rw [nds_length, HLN.out]; omega) = (gl L j).2 := by rw [gl_lt L j (by rw [HLN.out]; omega)]; simp [nds]
          rw [this] at hjk
          simp at hjk
          rw [hjk, hr.ino]
        have HMJ : Hid ((gl L j).2 ∈ (nds L).take i) := by
          show _ ∈ _
          rw [List.mem_take_iff_getElem]
          refine ⟨j, by rw [nds_length, HLN.out]; omega, ?_⟩
          rw [gl_lt L j (by rw [HLN.out]; omega)]; simp [nds]
        have HSP : Hid (nds L = (nds L).take i ++ (gl L i).2 :: (nds L).drop (i + 1)) := by
          show _ = _
          conv => lhs; rw [← List.take_append_drop i (nds L), nds_drop L i (by rw [HLN.out]; exact hi)]
        by_cases hk : (gl L i).1.kind = 1
        · have hk1 : ((gl L i).1.kind == 1) = true := by simpa using hk
          have HNP : Hid (decide ((nds L).Pairwise Tre.one) = false) := by
            show _ = _
            rw [decide_eq_false_iff_not, HSP.out]
            exact pair_not HMJ.out HIJ.out (.inl (hr.kind.trans hk))
          clear hca hbel hmp hr mk hpw hf hkey hk d0 d1 d2 d3 d4 d5 d6 d7 d8 d9
          go_wp2
          go_quiet (fail)
          go_wp2
          go_ret
          exact ⟨ret_bool HNP.out.symm, (HB.out.alloc HB.out.size _).trans (drewN_below _ _)⟩
        · have hk1 : ((gl L i).1.kind == 1) = false := by simpa using hk
          have HKN := hide (fun e => hk (hr.kind.symm.trans e))
          have HF := hide hf
          clear hca hbel hr mk hpw hf hkey hk hmp
          go_wp2
          have q3 := boxed wr (gl L i).1
          have q4 := bel.out (.cells (gl L i).1.cells 48)
          simp only [Nv.cells] at q3 q4
          obtain ⟨W, hW⟩ : ∃ W, W = wr.alloc (.cells (gl L i).1.cells 48) := ⟨_, rfl⟩
          simp only [Nv.cells] at hW
          rw [← hW] at q3 q4 ⊢
          have HQ := hide (HB.out.trans (q4.mono HB.out.size))
          have HMW := hide (HM.out.below q4)
          obtain ⟨p0, p1, p2, p3, p4, p5, p6, p7, p8, p9⟩ := (HCA.out j (by omega)).below q4 hba
          obtain ⟨_, b0, b1, b2, b3, b4, b5, b6, b7, b8, b9⟩ := q3
          clear q4 hW d0 d1 d2 d3 d4 d5 d6 d7 d8 d9 c0 c1 c2 c3 c4 c5 c6 c7 c8 c9 hlk hjk
          have hj1 : (j : Int) < n := by omega
          obtain ⟨z, hz⟩ : ∃ z, alike (gl L j).2 (gl L i).2 = z := ⟨_, rfl⟩
          have HZ := hide hz
          have HK2 : Hid (Calls Tryz.prog 115 #[.agg (gl L j).1.cells, .agg (gl L i).1.cells] W.drew fun e w' => e = .returned (.bool z) ∧ Below W.heap.size W w') := by
            have := Alike_any (gl L j).1 (gl L i).1 (gl L j).2 (gl L i).2 W.drew (HRj.out.below (HQ.out.trans (drewN_below W 1))) (HR.out.below (HQ.out.trans (drewN_below W 1)))
            rw [HZ.out] at this
            exact this.mono fun e w' ⟨he, hb⟩ => ⟨he, ⟨hb.os, hb.tape, hb.output, hb.size, hb.block⟩⟩
          simp only [Nv.cells] at HK2
          clear hz
          go_region_law ((first
            | (go_simp; go_at_call 115; refine HK2.out.mono ?_; rintro r w5 ⟨rfl, hb5⟩; have HB5 := hide hb5; clear hb5; dsimp only)))
          all_goals (
            have e5 := hide (HQ.out.trans (HB5.out.mono HQ.out.size))
            have HM5 := hide (HMW.out.below HB5.out)
            clear HK2 p0 p1 p2 p3 p4 p5 p6 p7 p8 p9 b0 b1 b2 b3 b4 b5 b6 b7 b8 b9
            cases z with
            | false =>
              have HNP : Hid (decide ((nds L).Pairwise Tre.one) = false) := by
                show _ = _
                rw [decide_eq_false_iff_not, HSP.out]
                exact pair_not HMJ.out HIJ.out (.inr HZ.out)
              go_wp2
              go_ret
              exact ⟨ret_bool HNP.out.symm, e5.out⟩
            | true =>
              go_wp2
              refine ⟨⟨i + 1, by go_num, by omega, e5.out, ?_, ?_⟩, by simp [intOf]; omega⟩
              · rw [fcnt, mfirst, HK.out, HR.out.ino, HF.out]
                exact HM5.out
              · rw [HNT.out]
                exact pair_old HPW.out HMJ.out HIJ.out HKN.out HZ.out)
    · have hd : decide ((i : Int) < n) = false := by simpa using hi
      have HP : Hid (decide ((nds L).Pairwise Tre.one) = true) := by
        show _ = _
        rw [decide_eq_true_eq]
        rw [List.take_of_length_le (by rw [nds_length, HLN.out]; omega)] at hpw
        exact hpw
      clear hmp hbel HM mk hpw
      go_wp2
      go_ret
      exact ⟨ret_bool HP.out.symm, HB.out⟩
end Go.Proofs.YtoohanojfoichaaGreatDoor

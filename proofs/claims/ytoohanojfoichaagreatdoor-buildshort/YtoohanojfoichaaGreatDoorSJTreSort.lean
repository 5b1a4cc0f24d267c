/- What the proof stands on: TreSort, TreNum, TreInos, with what the proof reaches of it. -/
import Derived.Test.YtoohanojfoichaaGreatDoorSSort
import Derived.Test.YtoohanojfoichaaGreatDoorSJTreCopied

/- Layer 7: a row of nodes put in order by slices.SortFunc and byNames. -/
namespace Go.Proofs.YtoohanojfoichaaGreatDoor
set_option linter.unusedVariables false
open Go.RowKit Go.Maps
open Nam Tre

namespace Tre
/-- Whether a node stands ahead of another one. -/
def ltn (a b : Nod) : Bool := less (nm a.names) (nm b.names)
/-- byNames' answer. -/
def cmpn (a b : Nod) : Int := if ltn a b = true then -1 else if ltn b a = true then 1 else 0
theorem ltn_cmpn (a b : Nod) : decide (cmpn a b < 0) = ltn a b := by
  unfold cmpn
  cases h : ltn a b with
  | true => simp
  | false => cases h2 : ltn b a <;> simp
theorem less_ntrans (a b c : List (List UInt8)) (h : less a b = false) (k : less b c = false) : less a c = false := by
  cases h3 : less a c with
  | false => rfl
  | true =>
    by_cases e : a = b
    · subst e; rw [h3] at k; exact k
    · rcases less_total a b e with q | q
      · rw [q] at h; cases h
      · have := less_trans b a c q h3
        rw [this] at k; cases k
end Tre
set_option maxRecDepth 100000 in
theorem byNames_any (v u : Nv) (x y : Nod) (W : World) (hv : Rs W v.na v.nn x.names) (hu : Rs W u.na u.nn y.names) (h1 : v.nn ≤ 1000000) (h2 : u.nn ≤ 1000000) :
    Calls Tryz.prog 33 #[.agg v.cells, .agg u.cells] W fun e w' => e = .returned (.int .i64 (cmpn x y)) ∧ ∃ q os, w' = Go.Sort.grow (W.drewN q) os := by
  have C1 : Hid (∀ k, Calls Tryz.prog 81 #[.slice v.na v.nn v.nc, .slice u.na u.nn u.nc] (((W.alloc (.cells v.cells 48)).alloc (.cells u.cells 48)).drewN k) fun e w' => e = .returned (.bool (ltn x y)) ∧ ∃ q, w' = (((W.alloc (.cells v.cells 48)).alloc (.cells u.cells 48)).drewN k).drewN q) := fun k =>
    Less_any _ _ _ _ _ _ x.names y.names _ ((hv.below (below_alloc2 W _ _)).drewN k) ((hu.below (below_alloc2 W _ _)).drewN k) h1 h2
  have C2 : Hid (∀ k, Calls Tryz.prog 81 #[.slice u.na u.nn u.nc, .slice v.na v.nn v.nc] (((W.alloc (.cells v.cells 48)).alloc (.cells u.cells 48)).drewN k) fun e w' => e = .returned (.bool (ltn y x)) ∧ ∃ q, w' = (((W.alloc (.cells v.cells 48)).alloc (.cells u.cells 48)).drewN k).drewN q) := fun k =>
    Less_any _ _ _ _ _ _ y.names x.names _ ((hu.below (below_alloc2 W _ _)).drewN k) ((hv.below (below_alloc2 W _ _)).drewN k) h2 h1
  have GW : Hid (∀ k, ∃ q os, ((W.alloc (.cells v.cells 48)).alloc (.cells u.cells 48)).drewN k = Go.Sort.grow (W.drewN q) os) := fun k => ⟨k, _, by rw [Go.Sort.alloc_eq_grow, Go.Sort.alloc_eq_grow, Go.Sort.grow_grow]; rfl⟩
  have HC := hide (show cmpn x y = if ltn x y = true then -1 else if ltn y x = true then 1 else 0 from rfl)
  obtain ⟨a, ha⟩ : ∃ q, ltn x y = q := ⟨_, rfl⟩
  obtain ⟨b, hb⟩ : ∃ q, ltn y x = q := ⟨_, rfl⟩
  rw [ha] at C1 HC
  rw [hb] at C2 HC
  have C10 := hide (C1.out 0)
  clear hv hu ha hb C1
  simp only [Nv.cells] at *
  cases a with
  | true =>
    go_enter Tryz.func33, Tryz.ntmps33
    go_wp2_with (go_at_call 81; refine C10.out.mono ?_; rintro e w' ⟨rfl, q, rfl⟩)
    go_ret
    exact ⟨ret_int (by rw [HC.out]; rfl), GW.out _⟩
  | false =>
    go_enter Tryz.func33, Tryz.ntmps33
    go_wp2_with fail
    refine C10.out.mono ?_
    rintro e w' ⟨rfl, q, rfl⟩
    cases b with
    | true =>
      go_wp2_with fail
      refine (C2.out q).mono ?_
      rintro e w' ⟨rfl, q2, rfl⟩
      go_wp2
      go_ret
      exact ⟨ret_int (by rw [HC.out]; rfl), GW.out _⟩
    | false =>
      go_wp2_with fail
      refine (C2.out q).mono ?_
      rintro e w' ⟨rfl, q2, rfl⟩
      go_wp2
      go_ret
      exact ⟨ret_int (by rw [HC.out]; rfl), GW.out _⟩
/-- A node whose lists lie behind the row's block. -/
structure Good (w : World) (blk : Nat) (p : Nv × Nod) : Prop where
  rep : Rep w p.1 p.2
  abv : Abv w (blk + 1) p.1
  few : p.2.names.length ≤ 1000000
/-- Blocks that are there, but one, are as they were. -/
def But (blk : Nat) (w w' : World) : Prop := w.heap.size ≤ w'.heap.size ∧ ∀ i, i < w.heap.size → i ≠ blk → w'.heap[i]? = w.heap[i]?
theorem But.cell {blk : Nat} {w w' : World} (h : But blk w w') {b o : Nat} (hb : b < w.heap.size) (hne : b ≠ blk) : w'.cell? ⟨b, o, none⟩ = w.cell? ⟨b, o, none⟩ := World.cell?_of_block (h.2 b hb hne)
theorem But.rs {blk : Nat} {w w' : World} (h : But blk w w') {ao : Option Addr} {n : Nat} {l : List ByteArray} (hr : Rs w ao n l) (ha : Ab (blk + 1) ao) : Rs w' ao n l := by
  refine ⟨hr.1, ?_⟩
  rcases hr.2 with h0 | ⟨b, off, h1, h2, h3⟩
  · exact .inl h0
  · have hne : b ≠ blk := by have := ha _ h1; simp only at this; omega
    exact .inr ⟨b, off, h1, Nat.lt_of_lt_of_le h2 h.1, fun i hi => (h.cell h2 hne).trans (h3 i hi)⟩
theorem But.bs {blk : Nat} {w w' : World} (h : But blk w w') {ao : Option Addr} {n : Nat} {l : List Int} (hr : Bs w ao n l) (ha : Ab (blk + 1) ao) : Bs w' ao n l := by
  refine ⟨hr.1, hr.2.1, ?_⟩
  rcases hr.2.2 with h0 | ⟨b, off, h1, h2, h3⟩
  · exact .inl h0
  · have hne : b ≠ blk := by have := ha _ h1; simp only at this; omega
    exact .inr ⟨b, off, h1, Nat.lt_of_lt_of_le h2 h.1, fun i hi => (h.cell h2 hne).trans (h3 i hi)⟩
theorem Good.but {blk : Nat} {w w' : World} {p : Nv × Nod} (h : Good w blk p) (hb : But blk w w') : Good w' blk p := by
  have hx : XsR w' p.1.xa p.1.xn p.2.xs := by
    refine ⟨h.rep.xs.1, ?_⟩
    rcases h.rep.xs.2 with h0 | ⟨b, off, h1, h2, h3⟩
    · exact .inl h0
    · have hne : b ≠ blk := by have := h.abv.xa _ h1; simp only at this; omega
      refine .inr ⟨b, off, h1, Nat.lt_of_lt_of_le h2 hb.1, fun i hi => ?_⟩
      obtain ⟨c1, va, vn, vc, c2, c3, c4⟩ := h3 i hi
      exact ⟨(hb.cell h2 hne).trans c1, va, vn, vc, (hb.cell h2 hne).trans c2, hb.bs c3 (h.abv.xs b off h1 i hi va vn vc c2), c4⟩
  refine ⟨{ h.rep with names := hb.rs h.rep.names h.abv.na, data := hb.bs h.rep.data h.abv.da, xs := hx }, ⟨h.abv.na, h.abv.da, h.abv.xa, fun b off h1 i hi va vn vc hc => ?_⟩, h.few⟩
  rcases h.rep.xs.2 with h0 | ⟨b', off', h1', h2, _⟩
  · omega
  · rw [h1] at h1'
    obtain ⟨rfl, rfl⟩ : b = b' ∧ off = off' := by simpa using h1'
    have hne : b ≠ blk := by have := h.abv.xa _ h1; simp only at this; omega
    rw [hb.cell h2 hne] at hc
    exact h.abv.xs b off h1 i hi va vn vc hc
/-- Nodes' cells as the sort has them. -/
def encN {w : World} {blk : Nat} (x : { p : Nv × Nod // Good w blk p }) : List Value := x.val.1.cells.toList
theorem sort_but {w : World} {blk : Nat} [Inhabited { p : Nv × Nod // Good w blk p }] (dk : Array { p : Nv × Nod // Good w blk p }) (m : Nat) (os : Array Obj) : But blk w (sortWorldK encN 10 w blk 0 m dk os) := by
  unfold sortWorldK Go.Sort.putRowK
  refine ⟨by simp, fun i hi hne => ?_⟩
  rw [Go.Sort.heap_grow_old _ _ (by simpa using hi)]
  simp [Go.Sort.putRow, Go.Sort.mapBlock, Array.getElem?_modify, Ne.symm hne]
theorem swo_ltn {w : World} {blk : Nat} : Go.Sort.SWO (ltOf (fun x y : { p : Nv × Nod // Good w blk p } => cmpn x.val.2 y.val.2)) where
  irrefl x := by unfold ltOf; rw [ltn_cmpn]; exact less_irrefl _
  trans x y z h k := by unfold ltOf at *; rw [ltn_cmpn] at *; exact less_trans _ _ _ h k
  ntrans x y z h k := by unfold ltOf at *; rw [ltn_cmpn] at *; exact less_ntrans _ _ _ h k
theorem cmpLays {w : World} {blk n : Nat} [Inhabited { p : Nv × Nod // Good w blk p }] : CmpLays Tryz.prog 33 #[] (encN (w := w) (blk := blk)) 10 (fun x y => cmpn x.val.2 y.val.2) blk 0 n w := fun m os dk _ x y => by
  have hb := sort_but dk m os
  have hx := x.property.but hb
  have hy := y.property.but hb
  have h := byNames_any x.val.1 y.val.1 x.val.2 y.val.2 (sortWorldK encN 10 w blk 0 m dk os) hx.rep.names hy.rep.names (by rw [← hx.rep.names.1]; exact hx.few) (by rw [← hy.rep.names.1]; exact hy.few)
  exact h
theorem isAggN : ∀ w, (isAgg 48).run Tryz.prog w = .ok true w := Tryz.isAgg48
theorem sizeOfN : ∀ w, (Go.sizeOf 48).run Tryz.prog w = .ok 10 w := Tryz.sizeOf48
theorem nvs_flat (V : List Nv) (t : Nat) (h : t < V.length * 10) : (nvs V)[t]? = ((V[t / 10]'(by omega)).cells.toList)[t % 10]? := by
  have e : t = t / 10 * 10 + t % 10 := by omega
  conv => lhs; rw [e]
  exact nvs_get V (t / 10) (t % 10) (by omega) (by omega)
theorem enc_one (v : Nv) : ∀ u ∈ v.cells.toList, u.oneCell' = true := by
  intro u hu
  exact nvs_one [v] u (by simpa [nvs] using hu)
theorem arr_get {α : Type} [Inhabited α] (l : List α) (i : Nat) (h : i < l.length) : (l.toArray)[i]! = l[i] := by
  rw [getElem!_pos l.toArray i (by simpa using h)]; simp
theorem get_some {l : List Value} {i : Nat} (h : i < l.length) : l[i]? = some l[i]! := by
  rw [List.getElem?_eq_getElem h, getElem!_pos l i h]
set_option maxRecDepth 100000 in
/-- A row of nodes put in order. -/
theorem SortNodes_any (blk n cap B : Nat) (L : List (Nv × Nod)) (w : World) (hown : w.ownsRow B 48 10 (.slice (some ⟨blk, 0, none⟩) n cap) n (nvs (L.map (·.1)))) (hn : 0 < n) (hn2 : n ≤ 1000000) (hg : ∀ p ∈ L, Good w blk p) :
    Calls Tryz.prog 32 #[.slice (some ⟨blk, 0, none⟩) n cap, .func (.func 33) #[] #[]] w fun e w' => e = .returned (.tuple #[]) ∧ ∃ L' : List (Nv × Nod), L'.Perm L ∧ L'.Pairwise (fun p q => ltn q.2 p.2 = false) ∧
      w'.ownsRow B 48 10 (.slice (some ⟨blk, 0, none⟩) n cap) n (nvs (L'.map (·.1))) ∧ (∀ p ∈ L', Good w' blk p) ∧ But blk w w' ∧ w'.os = w.os ∧ w'.tape = w.tape ∧ w'.output = w.output := by
  have hLl : L.length = n := by have := hown.1; rw [nvs_length, List.length_map] at this; omega
  obtain ⟨l, hl, hll⟩ : ∃ l : List { p : Nv × Nod // Good w blk p }, l.map (·.val) = L ∧ l.length = n := by
    refine ⟨L.attach.map (fun q => ⟨q.1, hg q.1 q.2⟩), ?_, by simp [hLl]⟩
    rw [List.map_map]
    exact List.attach_map_subtype_val L
  haveI : Inhabited { p : Nv × Nod // Good w blk p } := ⟨l[0]'(by omega)⟩
  have hblk : blk < w.heap.size := (hown.lt blk rfl).2
  have hcellsL : L.map (·.1) = l.map (fun x => x.val.1) := by rw [← hl, List.map_map]; rfl
  have hH : Go.Sort.HoldsK encN 10 w blk 0 l.toArray := by
    intro j hj
    rw [Go.Sort.size_flatK] at hj
    simp only [List.size_toArray, hll] at hj
    rw [Go.Sort.get_flatK _ _ _ _ (by simpa [hll] using hj), Nat.zero_add]
    refine ⟨?_, hown.frozenAt j⟩
    rw [hown.cellAt j hj, hcellsL, nvs_flat _ j (by rw [List.length_map, hll]; exact hj), arr_get l (j / 10) (by omega)]
    simp only [List.getElem_map]
    exact get_some (by rw [cells_length]; omega)
  have hcon := AnyQ.slices_SortFunc sortNd 10 isAggN sizeOfN (encN (w := w) (blk := blk)) (fun x => cells_length x.val.1) (fun x v hv => enc_one x.val.1 v hv) (fun x y => cmpn x.val.2 y.val.2) swo_ltn 33 #[] blk 0 cap l.toArray w (enters_of Tryz.func33 (by kernel_rfl) rfl) cmpLays hH hblk (by simp [hll]; omega)
  have e1 : (l.toArray).size = n := by simp [hll]
  rw [e1] at hcon
  change Calls Tryz.prog 32 _ _ _ at hcon
  refine hcon.mono ?_
  rintro e w' ⟨rfl, d', m, os, hp, hs, rfl⟩
  obtain ⟨hp1, _, hp3⟩ := hp
  have hds : d'.size = n := by rw [hp1]; exact e1
  have hdl : d'.toList.length = n := by simpa using hds
  have hperm : d'.toList.Perm l := by
    have x1 : d'.extract 0 n = d' := by rw [← hds]; simp
    have x2 : l.toArray.extract 0 n = l.toArray := by rw [← e1]; simp
    rw [x1, x2] at hp3
    exact hp3
  have hbut := sort_but d' m os
  have hV : (d'.toList.map (·.val)).map (·.1) = d'.toList.map (fun x => x.val.1) := by rw [List.map_map]; rfl
  refine ⟨rfl, d'.toList.map (·.val), ?_, ?_, ?_, ?_, hbut, rfl, rfl, rfl⟩
  · rw [← hl]; exact hperm.map _
  · rw [List.pairwise_map, List.pairwise_iff_getElem]
    intro i j hi hj hij
    have := hs i j (Nat.zero_le _) hij (by omega)
    unfold ltOf at this
    rw [ltn_cmpn, getElem!_pos d' i (by omega), getElem!_pos d' j (by omega)] at this
    simpa using this
  · obtain ⟨g, cap', cur, hv, hb, hh, h1, h2, h3, h4⟩ : ∃ g cap' cur, (Value.slice (some ⟨blk, 0, none⟩) n cap) = .slice (some ⟨g, 0, none⟩) n cap' ∧ B ≤ g ∧ w.heap[g]? = some (.cells cur 48 (0, 0)) ∧ n ≤ cap' ∧ cap' ≤ maxLen ∧ cur.size = cap' * 10 ∧ cur.toList.take (n * 10) = nvs (L.map (·.1)) := by
      rcases hown.2 with ⟨h0, _⟩ | h0
      · simp at h0
      · exact h0
    obtain ⟨rfl, rfl⟩ : blk = g ∧ cap = cap' := by simpa using hv
    refine ⟨by rw [nvs_length, List.length_map, List.length_map, hdl], .inr ⟨blk, cap, Go.Sort.putCells id 0 (Go.Sort.flatK encN 10 d') cur, rfl, hb, ?_, h1, h2, by simp [Go.Sort.putCells, h3], ?_⟩⟩
    · unfold sortWorldK Go.Sort.putRowK
      rw [Go.Sort.heap_grow_old _ _ (by simpa using hblk)]
      simp [Go.Sort.putRow, Go.Sort.mapBlock, Array.getElem?_modify, hh, Go.Sort.onCells]
    · apply List.ext_getElem?
      intro t
      by_cases ht : t < n * 10
      · have htc : t < cur.size := by rw [h3]; have := Nat.mul_le_mul_right 10 h1; omega
        rw [List.getElem?_take_of_lt ht, hV, nvs_flat _ t (by rw [List.length_map, hdl]; exact ht)]
        have hfl : t < d'.size * 10 := by rw [hds]; exact ht
        simp only [Go.Sort.putCells, Array.getElem?_toList, Array.getElem?_mapIdx, Array.getElem?_eq_getElem htc, Option.map_some, Nat.zero_le, true_and, Nat.zero_add, Nat.sub_zero, Go.Sort.size_flatK, hfl, if_true, id]
        rw [Go.Sort.get_flatK _ _ _ _ hfl, getElem!_pos d' (t / 10) (by omega)]
        simp only [List.getElem_map, Array.getElem_toList]
        have hgs := get_some (l := encN d'[t / 10]) (i := t % 10) (by unfold encN; rw [cells_length]; omega)
        rw [← hgs]
        unfold encN
        simp
      · rw [List.getElem?_eq_none (by simp; omega), List.getElem?_eq_none (by rw [nvs_length, List.length_map, List.length_map, hdl]; omega)]
  · intro p hp
    simp only [List.mem_map] at hp
    obtain ⟨x, _, rfl⟩ := hp
    exact x.property.but hbut
end Go.Proofs.YtoohanojfoichaaGreatDoor

/- Layer 7: Inos as they come first. Nothing here speaks of one function of the program. -/
namespace Go.Proofs.YtoohanojfoichaaGreatDoor
set_option linter.unusedVariables false
set_option linter.unusedSectionVars false
open Go.RowKit Go.Maps
open Nam Tre

namespace Tre
/-- How many keys there are among the first i, and their numbers. -/
def nst (ks : List Lit) : Nat → Nat × (Lit → Option Nat)
  | 0 => (0, fun _ => none)
  | i + 1 => if ((nst ks i).2 (ks.getD i (.bool false))).isSome = true then nst ks i else ((nst ks i).1 + 1, upd (nst ks i).2 (ks.getD i (.bool false)) ((nst ks i).1 + 1))
/-- The number of the i-th. -/
def nno (ks : List Lit) (i : Nat) : Nat := ((nst ks (i + 1)).2 (ks.getD i (.bool false))).getD 0
theorem nst_old {ks : List Lit} {i : Nat} (h : ((nst ks i).2 (ks.getD i (.bool false))).isSome = true) : nst ks (i + 1) = nst ks i := by rw [nst, if_pos h]
theorem nst_new {ks : List Lit} {i : Nat} (h : ¬ ((nst ks i).2 (ks.getD i (.bool false))).isSome = true) : nst ks (i + 1) = ((nst ks i).1 + 1, upd (nst ks i).2 (ks.getD i (.bool false)) ((nst ks i).1 + 1)) := by rw [nst, if_neg h]
theorem nst_le (ks : List Lit) : ∀ i, (nst ks i).1 ≤ i
  | 0 => Nat.le_refl _
  | i + 1 => by
    have := nst_le ks i
    by_cases h : ((nst ks i).2 (ks.getD i (.bool false))).isSome = true
    · rw [nst_old h]; omega
    · rw [nst_new h]; show _ + 1 ≤ _; omega
theorem getD_lit {ks : List Lit} (hk : ∀ k ∈ ks, WideAt.IsKeyLit k) {i : Nat} (h : i < ks.length) : ks.getD i (.bool false) = ks[i] ∧ WideAt.IsKeyLit ks[i] := ⟨by simp [h], hk _ (List.getElem_mem h)⟩
theorem nst_mem {ks : List Lit} (hk : ∀ k ∈ ks, WideAt.IsKeyLit k) : ∀ (i : Nat), i ≤ ks.length → ∀ k, ((nst ks i).2 k).isSome = true ↔ k ∈ ks.take i
  | 0, _, k => by simp [nst]
  | i + 1, hi, k => by
    have hi' : i < ks.length := by omega
    obtain ⟨hg, hl⟩ := getD_lit hk hi'
    have ih := nst_mem hk i (by omega)
    rw [List.take_succ_eq_append_getElem hi', List.mem_append, List.mem_singleton]
    by_cases h : ((nst ks i).2 (ks.getD i (.bool false))).isSome = true
    · rw [nst_old h, ih]
      rw [hg, ih] at h
      constructor
      · exact .inl
      · rintro (q | q)
        · exact q
        · rw [q]; exact h
    · rw [nst_new h, hg]
      by_cases e : k = ks[i]
      · rw [e]; simp only [upd_same _ _ _ hl]; simp
      · simp only [upd_other _ _ e]; rw [ih]; simp [e]
theorem nst_stay {ks : List Lit} (hk : ∀ k ∈ ks, WideAt.IsKeyLit k) {i : Nat} (hi : i < ks.length) {k : Lit} {z : Nat} (h : (nst ks i).2 k = some z) : (nst ks (i + 1)).2 k = some z := by
  by_cases h2 : ((nst ks i).2 (ks.getD i (.bool false))).isSome = true
  · rw [nst_old h2]; exact h
  · rw [nst_new h2]
    have : k ≠ ks.getD i (.bool false) := fun e => h2 (by rw [← e, h]; rfl)
    simp only [upd_other _ _ this]; exact h
theorem nst_far {ks : List Lit} (hk : ∀ k ∈ ks, WideAt.IsKeyLit k) {i : Nat} {k : Lit} {z : Nat} (h : (nst ks i).2 k = some z) : ∀ d, i + d ≤ ks.length → (nst ks (i + d)).2 k = some z
  | 0, _ => h
  | d + 1, hd => by
    have := nst_stay hk (i := i + d) (by omega) (nst_far hk h d (by omega))
    exact this
/-- The number of a key stays. -/
theorem nno_at {ks : List Lit} (hk : ∀ k ∈ ks, WideAt.IsKeyLit k) {i j : Nat} (hi : i ≤ ks.length) (hj : j < i) : (nst ks i).2 (ks.getD j (.bool false)) = some (nno ks j) := by
  have hm : ((nst ks (j + 1)).2 (ks.getD j (.bool false))).isSome = true := by
    rw [nst_mem hk (j + 1) (by omega), (getD_lit hk (show j < ks.length by omega)).1, List.take_succ_eq_append_getElem (show j < ks.length by omega)]
    exact List.mem_append.2 (.inr (List.mem_singleton.2 rfl))
  obtain ⟨z, hz⟩ := Option.isSome_iff_exists.1 hm
  have hn : nno ks j = z := by unfold nno; rw [hz]; rfl
  rw [hn]
  have := nst_far hk hz (i - (j + 1)) (by omega)
  rw [show j + 1 + (i - (j + 1)) = i by omega] at this
  exact this
theorem nno_new {ks : List Lit} (hk : ∀ k ∈ ks, WideAt.IsKeyLit k) {i : Nat} (hi : i < ks.length) (h : ks[i] ∉ ks.take i) : nno ks i = (nst ks i).1 + 1 ∧ (nst ks (i + 1)).1 = (nst ks i).1 + 1 := by
  obtain ⟨hg, hl⟩ := getD_lit hk hi
  have hne : ¬ ((nst ks i).2 (ks.getD i (.bool false))).isSome = true := by rw [nst_mem hk i (by omega), hg]; exact h
  unfold nno
  rw [nst_new hne, hg]
  simp only [upd_same _ _ _ hl]
  exact ⟨rfl, trivial⟩
theorem nst_same {ks : List Lit} (hk : ∀ k ∈ ks, WideAt.IsKeyLit k) {i : Nat} (hi : i < ks.length) (h : ks[i] ∈ ks.take i) : (nst ks (i + 1)).1 = (nst ks i).1 := by
  rw [nst_old (by rw [nst_mem hk i (by omega), (getD_lit hk hi).1]; exact h)]
/-- Numbers are at least 1, and at most as many as there are keys. -/
theorem nst_range {ks : List Lit} (hk : ∀ k ∈ ks, WideAt.IsKeyLit k) : ∀ (i : Nat), i ≤ ks.length → ∀ k z, (nst ks i).2 k = some z → 1 ≤ z ∧ z ≤ (nst ks i).1
  | 0, _, k, z, h => by simp [nst] at h
  | i + 1, hi, k, z, h => by
    have hi' : i < ks.length := by omega
    obtain ⟨hg, hl⟩ := getD_lit hk hi'
    by_cases h2 : ((nst ks i).2 (ks.getD i (.bool false))).isSome = true
    · rw [nst_old h2] at h ⊢; exact nst_range hk i (by omega) k z h
    · rw [nst_new h2] at h ⊢
      by_cases e : k = ks.getD i (.bool false)
      · have hs : upd (nst ks i).2 (ks.getD i (.bool false)) ((nst ks i).1 + 1) k = some ((nst ks i).1 + 1) := by rw [e]; exact upd_same _ _ _ (by rw [hg]; exact hl)
        rw [show (upd (nst ks i).2 (ks.getD i (.bool false)) ((nst ks i).1 + 1)) k = some z from h] at hs
        have := Option.some.inj hs
        subst this
        exact ⟨by omega, Nat.le_refl _⟩
      · simp only [upd_other _ _ e] at h
        have := nst_range hk i (by omega) k z h
        exact ⟨this.1, Nat.le_succ_of_le this.2⟩
theorem nno_range {ks : List Lit} (hk : ∀ k ∈ ks, WideAt.IsKeyLit k) {i : Nat} (hi : i < ks.length) : 1 ≤ nno ks i ∧ nno ks i ≤ (nst ks (i + 1)).1 := nst_range hk (i + 1) (by omega) _ _ (nno_at hk (by omega) (by omega))
/-- Nodes with the numbers of their Inos. -/
def numb (l : List Nod) : List Nod := l.mapIdx (fun i n => { n with ino := (nno (ikeys l) i : Int) })
theorem numb_length (l : List Nod) : (numb l).length = l.length := by simp [numb]
theorem numb_get (l : List Nod) (i : Nat) (h : i < l.length) : (numb l)[i]'(by rw [numb_length]; exact h) = { l[i] with ino := (nno (ikeys l) i : Int) } := by simp [numb]
end Tre
end Go.Proofs.YtoohanojfoichaaGreatDoor

/- Layer 7: numberInos. -/
namespace Go.Proofs.YtoohanojfoichaaGreatDoor
set_option linter.unusedVariables false
open Go.RowKit Go.Maps
open Nam Tre

/-- A node with another Ino. -/
def rn (p : Nv × Nod) (z : Nat) : Nv × Nod := ({ p.1 with ino := (z : Int) }, { p.2 with ino := (z : Int) })
/-- The first i nodes numbered. -/
def rl (ks : List Lit) (L : List (Nv × Nod)) : Nat → List (Nv × Nod)
  | 0 => L
  | i + 1 => (rl ks L i).set i (rn (gl L i) (nno ks i))
theorem rl_length (ks : List Lit) (L : List (Nv × Nod)) : ∀ i, (rl ks L i).length = L.length
  | 0 => rfl
  | i + 1 => by rw [rl, List.length_set]; exact rl_length ks L i
theorem gl_set (L : List (Nv × Nod)) (i j : Nat) (p : Nv × Nod) (hi : i < L.length) : gl (L.set i p) j = if j = i then p else gl L j := by
  unfold gl
  by_cases e : j = i
  · subst e; simp [hi]
  · rw [if_neg e]; simp [Ne.symm e]
theorem rl_get (ks : List Lit) (L : List (Nv × Nod)) : ∀ i, i ≤ L.length → ∀ j, gl (rl ks L i) j = if j < i then rn (gl L j) (nno ks j) else gl L j
  | 0, _, j => by simp [rl]
  | i + 1, hi, j => by
    rw [rl, gl_set _ _ _ _ (by rw [rl_length]; omega), rl_get ks L i (by omega) j]
    by_cases e : j = i
    · subst e; rw [if_pos rfl, if_pos (by omega)]
    · rw [if_neg e]
      by_cases h : j < i
      · rw [if_pos h, if_pos (by omega)]
      · rw [if_neg h, if_neg (by omega)]
theorem rl_end (L : List (Nv × Nod)) : nds (rl (ikeys (nds L)) L L.length) = numb (nds L) := by
  apply List.ext_getElem
  · rw [nds_length, rl_length, numb_length, nds_length]
  · intro i h1 h2
    have hi : i < L.length := by rw [nds_length, rl_length] at h1; exact h1
    rw [numb_get _ _ (by rw [nds_length]; exact hi)]
    have e1 : (nds (rl (ikeys (nds L)) L L.length))[i] = (gl (rl (ikeys (nds L)) L L.length) i).2 := by rw [gl_lt _ _ (by rw [rl_length]; exact hi)]; simp [nds]
    have e2 : (nds L)[i]'(by rw [nds_length]; exact hi) = (gl L i).2 := by rw [gl_lt L i hi]; simp [nds]
    rw [e1, rl_get _ _ _ (Nat.le_refl _), if_pos hi, e2]
    rfl
theorem nvs_setIno (V : List Nv) (i : Nat) (z : Int) (h : i < V.length) : (nvs V).set (i * 10 + 1) (.int .i64 z) = nvs (V.set i { V[i] with ino := z }) := by
  induction V generalizing i with
  | nil => simp at h
  | cons v r ih =>
    have e : ∀ y l, nvs (y :: l) = y.cells.toList ++ nvs l := by simp [nvs]
    cases i with
    | zero => rw [e, List.set_cons_zero, e]; rfl
    | succ i =>
      rw [e, List.set_append_right _ _ (by rw [cells_length]; omega), cells_length, show (i + 1) * 10 + 1 - 10 = i * 10 + 1 by omega, ih i (by simpa using h), List.set_cons_succ, e]
      rfl
theorem map_set1 (L : List (Nv × Nod)) (i : Nat) (p : Nv × Nod) : (L.set i p).map (·.1) = (L.map (·.1)).set i p.1 := by simp [List.map_set]
theorem good_rn {w : World} {blk : Nat} {p : Nv × Nod} (h : Good w blk p) (z : Nat) (hz : z ≤ 1000000) : Good w blk (rn p z) :=
  ⟨{ h.rep with ino := rfl, in64 := (by show (Lit.int .i64 (z : Int)).wf = true; exact WalkArith.wf_i64 (by omega)) }, ⟨h.abv.na, h.abv.da, h.abv.xa, h.abv.xs⟩, h.few⟩
theorem But.of_below {blk : Nat} {w w' : World} (h : Below w.heap.size w w') : But blk w w' := ⟨h.size, fun i hi _ => h.block i hi⟩
/-- The row with its first i nodes numbered. -/
structure NI (w wr : World) (B blk n cap : Nat) (L : List (Nv × Nod)) (i : Nat) : Prop where
  row : wr.ownsRow B 48 10 (.slice (some ⟨blk, 0, none⟩) n cap) n (nvs ((rl (ikeys (nds L)) L i).map (·.1)))
  map : MpK 3 wr w.heap.size (nst (ikeys (nds L)) i).1 (nst (ikeys (nds L)) i).2
  but : But blk w wr
  bel : Below blk w wr
theorem MpK.look1 {k : TypeId} {w : World} {b sz : Nat} {f : Lit → Option Nat} (h : MpK k w b sz f) (K : Keyed Tryz.prog k) {t : TypeId} (ht : Tryz.prog.underlying t = some (.map k 3)) {key : Value} {kl : Lit} (hkey : keyOf Tryz.prog k key = some kl) (hk : WideAt.IsKeyLit kl) {z : Nat} (hz : f kl = some z) :
    (Instr.lookup t (.map (some b)) key false).run Tryz.prog w = .ok (.int .i64 (z : Int)) w := by
  obtain ⟨D, h1, _, h3⟩ := h
  obtain ⟨e1, e2⟩ := h3 kl hk
  obtain ⟨v, ps, hr, hv⟩ := h1.lookup K ht (zeroInt7 w) (zd := .held (.int .i64 0)) (zp := []) rfl hkey
  rw [e2 z hz] at hv
  simp [HV] at hv
  rw [hv.1] at hr
  exact hr
theorem NI.put {w wr w2 : World} {B blk n cap i : Nat} {L : List (Nv × Nod)} (h : NI w wr B blk n cap L i) (hL : L.length = n) (hi : i < n) (hb : blk < w.heap.size) (hg : wr.grownBy w2 (some w.heap.size)) (hm : MpK 3 w2 w.heap.size (nst (ikeys (nds L)) (i + 1)).1 (nst (ikeys (nds L)) (i + 1)).2) :
    NI w (w2.setCell ⟨blk, i * 10 + 1, none⟩ (.int .i64 (nno (ikeys (nds L)) i : Nat))) B blk n cap L (i + 1) := by
  have row2 := h.row.kept hg (.inr (by simp [Value.ownBlock]; omega))
  have hs := h.but.1
  refine ⟨?_, hm.same (set_other _ _ _ _ _ (by omega)), ⟨by simp; exact Nat.le_trans hs hg.size, fun j hj hne => ?_⟩, ?_⟩
  · have := (row2.stored (i * 10 + 1) (.int .i64 (nno (ikeys (nds L)) i : Nat))).1
    rw [nvs_setIno _ i _ (by rw [List.length_map, rl_length, hL]; exact hi)] at this
    rw [rl, map_set1]
    have e : ((rl (ikeys (nds L)) L i).map (·.1))[i]'(by rw [List.length_map, rl_length, hL]; exact hi) = (gl L i).1 := by
      have := rl_get (ikeys (nds L)) L i (by omega) i
      rw [if_neg (by omega), gl_lt _ _ (by rw [rl_length, hL]; exact hi)] at this
      simp [this]
    rw [e] at this
    exact this
  · rw [set_other _ _ _ _ _ hne, hg.block j (by omega) (by simp; omega)]
    exact h.but.2 j hj hne
  · exact (h.bel.grown hg (by omega) (fun k e => by cases e; omega)).setCell (Nat.le_refl _) _
set_option maxRecDepth 100000 in
set_option maxHeartbeats 1000000 in
theorem numberInos_any (blk n cap B : Nat) (L : List (Nv × Nod)) (w : World) (hown : w.ownsRow B 48 10 (.slice (some ⟨blk, 0, none⟩) n cap) n (nvs (L.map (·.1)))) (hn : n ≤ 100000) (hg : ∀ p ∈ L, Good w blk p) :
    Calls Tryz.prog 34 #[.slice (some ⟨blk, 0, none⟩) n cap] w fun e w' => e = .returned (.tuple #[]) ∧ NI w w' B blk n cap L n := by
  have hLl : L.length = n := by have := hown.1; rw [nvs_length, List.length_map] at this; omega
  have hblk : blk < w.heap.size := (hown.lt blk rfl).2
  have HLN := hide hLl
  have hcap := (cap_owns hown).1
  have hcapm := (cap_owns hown).2.1
  have N0 : Hid (NI w (w.alloc (.map #[] 0)) B blk n cap L 0) := ⟨hown.alloc _, mpk_new _ w, But.of_below ((Below.refl _ _).alloc (Nat.le_refl _) _), (Below.refl _ _).alloc (by omega) _⟩
  have mk := make_hintI n
  have HG := hide hg
  clear hown hg hLl
  go_enter Tryz.func34, Tryz.ntmps34
  go_wp2
  go_loopw [3, 4, 5, 6, 12, 20] (fun _ _ _ _ r _ wr => ∃ i : Nat, r = .int .i64 i ∧ i ≤ n ∧ NI w wr B blk n cap L i) (fun _ _ _ _ r _ _ => n - (intOf r).toNat)
  case atStart => exact ⟨0, rfl, Nat.zero_le _, N0.out⟩
  case round =>
    obtain ⟨i, rfl, hi0, hni⟩ := hrel
    have HN := hide hni
    by_cases hi : i < n
    · have hd : decide ((i : Int) < n) = true := by simpa using hi
      have hat := (sh_of_owns hni.row).at (by omega)
      obtain ⟨b', off', hbo, hb', hat⟩ := hat
      obtain ⟨rfl, rfl⟩ : blk = b' ∧ 0 = off' := by simpa using hbo
      have c1 := (hat i hi).c1
      rw [gv_map _ _ (by rw [rl_length, HLN.out]; exact hi), rl_get _ _ _ (by rw [HLN.out]; exact hi0), if_neg (by omega), Nat.zero_add] at c1
      have hkd : (ikeys (nds L)).getD i (.bool false) = .int .i64 (gl L i).1.ino := by rw [ikeys_at L i (by rw [HLN.out]; exact hi), (HG.out _ (gl_mem L i (by rw [HLN.out]; exact hi))).rep.ino]
      have hkey : keyOf Tryz.prog 3 (.int .i64 (gl L i).1.ino) = some (.int .i64 (gl L i).1.ino) := keyOf_int_mk Tryz.underlying3 (HG.out _ (gl_mem L i (by rw [HLN.out]; exact hi))).rep.in64
      have hlk := hni.map.look keyedInt mapUnderI hkey trivial
      have hfz := hni.row.frozenAt (i * 10 + 1)
      have hkl := ikeys_lit (nds L)
      have hil : i < (ikeys (nds L)).length := by rw [ikeys_length, nds_length, HLN.out]; exact hi
      have hi1 : (i : Int) < n := by omega
      have hlen := hni.map.len mapUnderI 3
      have hcl := nst_le (ikeys (nds L)) i
      cases hf : (nst (ikeys (nds L)) i).2 (.int .i64 (gl L i).1.ino) with
      | some z =>
        have hnst : nst (ikeys (nds L)) (i + 1) = nst (ikeys (nds L)) i := nst_old (by rw [hkd, hf]; rfl)
        have hz : nno (ikeys (nds L)) i = z := by
          unfold nno
          rw [hnst, hkd, hf]; rfl
        have HP := hide (hni.put HLN.out hi hblk (World.grownBy.refl wr _) (by rw [hnst]; exact hni.map))
        rw [hz] at HP
        have hl1 := hni.map.look1 keyedInt mapUnderI hkey trivial hf
        rw [hf] at hlk
        simp only [Option.getD_some, Option.isSome_some] at hlk
        clear hni hat hbo hkd hkey hf hnst hz hkl
        go_wp2
        exact ⟨⟨i + 1, by go_num, by omega, HP.out⟩, by simp [intOf]; omega⟩
      | none =>
        have hnst : nst (ikeys (nds L)) (i + 1) = ((nst (ikeys (nds L)) i).1 + 1, upd (nst (ikeys (nds L)) i).2 (.int .i64 (gl L i).1.ino) ((nst (ikeys (nds L)) i).1 + 1)) := by
          rw [nst_new (by rw [hkd, hf]; simp), hkd]
        obtain ⟨w2, hrun, hm2, hg2⟩ := hni.map.store keyedInt mapUnderI hkey trivial (by omega) ((nst (ikeys (nds L)) i).1 + 1)
        rw [hf] at hm2
        have hm3 : MpK 3 w2 w.heap.size (nst (ikeys (nds L)) (i + 1)).1 (nst (ikeys (nds L)) (i + 1)).2 := by rw [hnst]; exact hm2
        have hz : nno (ikeys (nds L)) i = (nst (ikeys (nds L)) i).1 + 1 := by
          unfold nno
          rw [hnst, hkd]
          simp only [upd_same _ _ _ (show WideAt.IsKeyLit (.int .i64 (gl L i).1.ino) from trivial)]; rfl
        have HP := hide (hni.put HLN.out hi hblk hg2 hm3)
        rw [hz] at HP
        have hl1 := hm2.look1 keyedInt mapUnderI hkey trivial (upd_same _ _ _ trivial)
        have row2 := hni.row.kept hg2 (.inr (by simp [Value.ownBlock]; omega))
        have hfz2 := row2.frozenAt (i * 10 + 1)
        have c12 : w2.cell? ⟨blk, i * 10 + 1, none⟩ = some (.int .i64 (gl L i).1.ino) := by rw [World.cell?_of_block (hg2.block blk hb' (by simp; omega))]; exact c1
        rw [hf] at hlk
        simp only [Option.getD_none, Option.isSome_none] at hlk
        have hcc : ((((nst (ikeys (nds L)) i).1 + 1 : Nat)) : Int) = ((nst (ikeys (nds L)) i).1 : Int) + 1 := by omega
        rw [hcc] at hrun hl1 HP
        generalize (nst (ikeys (nds L)) i).1 = cn at *
        clear hni hat hbo hkd hkey hf hnst hz hkl hm2 hm3 row2 hg2 hcc
        go_wp2
        exact ⟨⟨i + 1, by go_num, by omega, HP.out⟩, by simp [intOf]; omega⟩
    · have hd : decide ((i : Int) < n) = false := by simpa using hi
      obtain rfl : i = n := by omega
      go_wp2
      go_end0
      exact ⟨rfl, HN.out⟩
end Go.Proofs.YtoohanojfoichaaGreatDoor

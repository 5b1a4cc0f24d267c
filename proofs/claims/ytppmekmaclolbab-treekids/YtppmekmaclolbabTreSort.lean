/- Layer 7: a row of nodes put in order by slices.SortFunc and byNames. -/
import Derived.Test.YtppmekmaclolbabSort
import Derived.Test.YtppmekmaclolbabTreCopied
import Derived.Test.YtppmekmaclolbabNamCmp
namespace Go.Proofs.Ytppmekmaclolbab
set_option linter.unusedVariables false
open Go.RowKit Go.Maps
open Nam Tre

namespace Tre
/-- Whether a node stands ahead of another one. -/
def ltn (a b : Nod) : Bool := less (nm a.names) (nm b.names)
/-- byNames' answer. -/
def cmpn (a b : Nod) : Int := if ltn a b = true then -1 else if ltn b a = true then 1 else 0
theorem ltn_cmpn (a b : Nod) : decide (cmpn a b < 0) = ltn a b := by
  unfold cmpn
  cases h : ltn a b with
  | true => simp
  | false => cases h2 : ltn b a <;> simp
theorem less_ntrans (a b c : List (List UInt8)) (h : less a b = false) (k : less b c = false) : less a c = false := by
  cases h3 : less a c with
  | false => rfl
  | true =>
    by_cases e : a = b
    · subst e; rw [h3] at k; exact k
    · rcases less_total a b e with q | q
      · rw [q] at h; cases h
      · have := less_trans b a c q h3
        rw [this] at k; cases k
end Tre
set_option maxRecDepth 100000 in
theorem byNames_any (v u : Nv) (x y : Nod) (W : World) (hv : Rs W v.na v.nn x.names) (hu : Rs W u.na u.nn y.names) (h1 : v.nn ≤ 1000000) (h2 : u.nn ≤ 1000000) :
    Calls Try.prog 12 #[.agg v.cells, .agg u.cells] W fun e w' => e = .returned (.int .i64 (cmpn x y)) ∧ ∃ q os, w' = Go.Sort.grow (W.drewN q) os := by
  have C1 : Hid (∀ k, Calls Try.prog 32 #[.slice v.na v.nn v.nc, .slice u.na u.nn u.nc] (((W.alloc (.cells v.cells 36)).alloc (.cells u.cells 36)).drewN k) fun e w' => e = .returned (.bool (ltn x y)) ∧ ∃ q, w' = (((W.alloc (.cells v.cells 36)).alloc (.cells u.cells 36)).drewN k).drewN q) := fun k =>
    Less_any _ _ _ _ _ _ x.names y.names _ ((hv.below (below_alloc2 W _ _)).drewN k) ((hu.below (below_alloc2 W _ _)).drewN k) h1 h2
  have C2 : Hid (∀ k, Calls Try.prog 32 #[.slice u.na u.nn u.nc, .slice v.na v.nn v.nc] (((W.alloc (.cells v.cells 36)).alloc (.cells u.cells 36)).drewN k) fun e w' => e = .returned (.bool (ltn y x)) ∧ ∃ q, w' = (((W.alloc (.cells v.cells 36)).alloc (.cells u.cells 36)).drewN k).drewN q) := fun k =>
    Less_any _ _ _ _ _ _ y.names x.names _ ((hu.below (below_alloc2 W _ _)).drewN k) ((hv.below (below_alloc2 W _ _)).drewN k) h2 h1
  have GW : Hid (∀ k, ∃ q os, ((W.alloc (.cells v.cells 36)).alloc (.cells u.cells 36)).drewN k = Go.Sort.grow (W.drewN q) os) := fun k => ⟨k, _, by rw [Go.Sort.alloc_eq_grow, Go.Sort.alloc_eq_grow, Go.Sort.grow_grow]; rfl⟩
  have HC := hide (show cmpn x y = if ltn x y = true then -1 else if ltn y x = true then 1 else 0 from rfl)
  obtain ⟨a, ha⟩ : ∃ q, ltn x y = q := ⟨_, rfl⟩
  obtain ⟨b, hb⟩ : ∃ q, ltn y x = q := ⟨_, rfl⟩
  rw [ha] at C1 HC
  rw [hb] at C2 HC
  have C10 := hide (C1.out 0)
  clear hv hu ha hb C1
  simp only [Nv.cells] at *
  cases a with
  | true =>
    go_enter Try.func12, Try.ntmps12
    go_wp2_with (go_at_call 32; refine C10.out.mono ?_; rintro e w' ⟨rfl, q, rfl⟩)
    go_ret
    exact ⟨ret_int (by rw [HC.out]; rfl), GW.out _⟩
  | false =>
    go_enter Try.func12, Try.ntmps12
    go_wp2_with fail
    refine C10.out.mono ?_
    rintro e w' ⟨rfl, q, rfl⟩
    cases b with
    | true =>
      go_wp2_with fail
      refine (C2.out q).mono ?_
      rintro e w' ⟨rfl, q2, rfl⟩
      go_wp2
      go_ret
      exact ⟨ret_int (by rw [HC.out]; rfl), GW.out _⟩
    | false =>
      go_wp2_with fail
      refine (C2.out q).mono ?_
      rintro e w' ⟨rfl, q2, rfl⟩
      go_wp2
      go_ret
      exact ⟨ret_int (by rw [HC.out]; rfl), GW.out _⟩
/-- A node whose lists lie behind the row's block. -/
structure Good (w : World) (blk : Nat) (p : Nv × Nod) : Prop where
  rep : Rep w p.1 p.2
  abv : Abv w (blk + 1) p.1
  few : p.2.names.length ≤ 1000000
/-- Blocks that are there, but one, are as they were. -/
def But (blk : Nat) (w w' : World) : Prop := w.heap.size ≤ w'.heap.size ∧ ∀ i, i < w.heap.size → i ≠ blk → w'.heap[i]? = w.heap[i]?
theorem But.cell {blk : Nat} {w w' : World} (h : But blk w w') {b o : Nat} (hb : b < w.heap.size) (hne : b ≠ blk) : w'.cell? ⟨b, o, none⟩ = w.cell? ⟨b, o, none⟩ := World.cell?_of_block (h.2 b hb hne)
theorem But.rs {blk : Nat} {w w' : World} (h : But blk w w') {ao : Option Addr} {n : Nat} {l : List ByteArray} (hr : Rs w ao n l) (ha : Ab (blk + 1) ao) : Rs w' ao n l := by
  refine ⟨hr.1, ?_⟩
  rcases hr.2 with h0 | ⟨b, off, h1, h2, h3⟩
  · exact .inl h0
  · have hne : b ≠ blk := by have := ha _ h1; simp only at this; omega
    exact .inr ⟨b, off, h1, Nat.lt_of_lt_of_le h2 h.1, fun i hi => (h.cell h2 hne).trans (h3 i hi)⟩
theorem But.bs {blk : Nat} {w w' : World} (h : But blk w w') {ao : Option Addr} {n : Nat} {l : List Int} (hr : Bs w ao n l) (ha : Ab (blk + 1) ao) : Bs w' ao n l := by
  refine ⟨hr.1, hr.2.1, ?_⟩
  rcases hr.2.2 with h0 | ⟨b, off, h1, h2, h3⟩
  · exact .inl h0
  · have hne : b ≠ blk := by have := ha _ h1; simp only at this; omega
    exact .inr ⟨b, off, h1, Nat.lt_of_lt_of_le h2 h.1, fun i hi => (h.cell h2 hne).trans (h3 i hi)⟩
theorem Good.but {blk : Nat} {w w' : World} {p : Nv × Nod} (h : Good w blk p) (hb : But blk w w') : Good w' blk p := by
  have hx : XsR w' p.1.xa p.1.xn p.2.xs := by
    refine ⟨h.rep.xs.1, ?_⟩
    rcases h.rep.xs.2 with h0 | ⟨b, off, h1, h2, h3⟩
    · exact .inl h0
    · have hne : b ≠ blk := by have := h.abv.xa _ h1; simp only at this; omega
      refine .inr ⟨b, off, h1, Nat.lt_of_lt_of_le h2 hb.1, fun i hi => ?_⟩
      obtain ⟨c1, va, vn, vc, c2, c3, c4⟩ := h3 i hi
      exact ⟨(hb.cell h2 hne).trans c1, va, vn, vc, (hb.cell h2 hne).trans c2, hb.bs c3 (h.abv.xs b off h1 i hi va vn vc c2), c4⟩
  refine ⟨{ h.rep with names := hb.rs h.rep.names h.abv.na, data := hb.bs h.rep.data h.abv.da, xs := hx }, ⟨h.abv.na, h.abv.da, h.abv.xa, fun b off h1 i hi va vn vc hc => ?_⟩, h.few⟩
  rcases h.rep.xs.2 with h0 | ⟨b', off', h1', h2, _⟩
  · omega
  · rw [h1] at h1'
    obtain ⟨rfl, rfl⟩ : b = b' ∧ off = off' := by simpa using h1'
    have hne : b ≠ blk := by have := h.abv.xa _ h1; simp only at this; omega
    rw [hb.cell h2 hne] at hc
    exact h.abv.xs b off h1 i hi va vn vc hc
/-- Nodes' cells as the sort has them. -/
def encN {w : World} {blk : Nat} (x : { p : Nv × Nod // Good w blk p }) : List Value := x.val.1.cells.toList
theorem sort_but {w : World} {blk : Nat} [Inhabited { p : Nv × Nod // Good w blk p }] (dk : Array { p : Nv × Nod // Good w blk p }) (m : Nat) (os : Array Obj) : But blk w (sortWorldK encN 10 w blk 0 m dk os) := by
  unfold sortWorldK Go.Sort.putRowK
  refine ⟨by simp, fun i hi hne => ?_⟩
  rw [Go.Sort.heap_grow_old _ _ (by simpa using hi)]
  simp [Go.Sort.putRow, Go.Sort.mapBlock, Array.getElem?_modify, Ne.symm hne]
theorem swo_ltn {w : World} {blk : Nat} : Go.Sort.SWO (ltOf (fun x y : { p : Nv × Nod // Good w blk p } => cmpn x.val.2 y.val.2)) where
  irrefl x := by unfold ltOf; rw [ltn_cmpn]; exact less_irrefl _
  trans x y z h k := by unfold ltOf at *; rw [ltn_cmpn] at *; exact less_trans _ _ _ h k
  ntrans x y z h k := by unfold ltOf at *; rw [ltn_cmpn] at *; exact less_ntrans _ _ _ h k
theorem cmpLays {w : World} {blk n : Nat} [Inhabited { p : Nv × Nod // Good w blk p }] : CmpLays Try.prog 12 #[] (encN (w := w) (blk := blk)) 10 (fun x y => cmpn x.val.2 y.val.2) blk 0 n w := fun m os dk _ x y => by
  have hb := sort_but dk m os
  have hx := x.property.but hb
  have hy := y.property.but hb
  have h := byNames_any x.val.1 y.val.1 x.val.2 y.val.2 (sortWorldK encN 10 w blk 0 m dk os) hx.rep.names hy.rep.names (by rw [← hx.rep.names.1]; exact hx.few) (by rw [← hy.rep.names.1]; exact hy.few)
  exact h
theorem isAggN : ∀ w, (isAgg 36).run Try.prog w = .ok true w := Try.isAgg36
theorem sizeOfN : ∀ w, (Go.sizeOf 36).run Try.prog w = .ok 10 w := Try.sizeOf36
theorem nvs_flat (V : List Nv) (t : Nat) (h : t < V.length * 10) : (nvs V)[t]? = ((V[t / 10]'(by omega)).cells.toList)[t % 10]? := by
  have e : t = t / 10 * 10 + t % 10 := by omega
  conv => lhs; rw [e]
  exact nvs_get V (t / 10) (t % 10) (by omega) (by omega)
theorem enc_one (v : Nv) : ∀ u ∈ v.cells.toList, u.oneCell' = true := by
  intro u hu
  exact nvs_one [v] u (by simpa [nvs] using hu)
theorem arr_get {α : Type} [Inhabited α] (l : List α) (i : Nat) (h : i < l.length) : (l.toArray)[i]! = l[i] := by
  rw [getElem!_pos l.toArray i (by simpa using h)]; simp
theorem get_some {l : List Value} {i : Nat} (h : i < l.length) : l[i]? = some l[i]! := by
  rw [List.getElem?_eq_getElem h, getElem!_pos l i h]
set_option maxRecDepth 100000 in
/-- A row of nodes put in order. -/
theorem SortNodes_any (blk n cap B : Nat) (L : List (Nv × Nod)) (w : World) (hown : w.ownsRow B 36 10 (.slice (some ⟨blk, 0, none⟩) n cap) n (nvs (L.map (·.1)))) (hn : 0 < n) (hn2 : n ≤ 1000000) (hg : ∀ p ∈ L, Good w blk p) :
    Calls Try.prog 11 #[.slice (some ⟨blk, 0, none⟩) n cap, .func (.func 12) #[] #[]] w fun e w' => e = .returned (.tuple #[]) ∧ ∃ L' : List (Nv × Nod), L'.Perm L ∧ L'.Pairwise (fun p q => ltn q.2 p.2 = false) ∧
      w'.ownsRow B 36 10 (.slice (some ⟨blk, 0, none⟩) n cap) n (nvs (L'.map (·.1))) ∧ (∀ p ∈ L', Good w' blk p) ∧ But blk w w' ∧ w'.os = w.os ∧ w'.tape = w.tape ∧ w'.output = w.output := by
  have hLl : L.length = n := by have := hown.1; rw [nvs_length, List.length_map] at this; omega
  obtain ⟨l, hl, hll⟩ : ∃ l : List { p : Nv × Nod // Good w blk p }, l.map (·.val) = L ∧ l.length = n := by
    refine ⟨L.attach.map (fun q => ⟨q.1, hg q.1 q.2⟩), ?_, by simp [hLl]⟩
    rw [List.map_map]
    exact List.attach_map_subtype_val L
  haveI : Inhabited { p : Nv × Nod // Good w blk p } := ⟨l[0]'(by omega)⟩
  have hblk : blk < w.heap.size := (hown.lt blk rfl).2
  have hcellsL : L.map (·.1) = l.map (fun x => x.val.1) := by rw [← hl, List.map_map]; rfl
  have hH : Go.Sort.HoldsK encN 10 w blk 0 l.toArray := by
    intro j hj
    rw [Go.Sort.size_flatK] at hj
    simp only [List.size_toArray, hll] at hj
    rw [Go.Sort.get_flatK _ _ _ _ (by simpa [hll] using hj), Nat.zero_add]
    refine ⟨?_, hown.frozenAt j⟩
    rw [hown.cellAt j hj, hcellsL, nvs_flat _ j (by rw [List.length_map, hll]; exact hj), arr_get l (j / 10) (by omega)]
    simp only [List.getElem_map]
    exact get_some (by rw [cells_length]; omega)
  have hcon := AnyQ.slices_SortFunc sortNd 10 isAggN sizeOfN (encN (w := w) (blk := blk)) (fun x => cells_length x.val.1) (fun x v hv => enc_one x.val.1 v hv) (fun x y => cmpn x.val.2 y.val.2) swo_ltn 12 #[] blk 0 cap l.toArray w (enters_of Try.func12 (by kernel_rfl) rfl) cmpLays hH hblk (by simp [hll]; omega)
  have e1 : (l.toArray).size = n := by simp [hll]
  rw [e1] at hcon
  change Calls Try.prog 11 _ _ _ at hcon
  refine hcon.mono ?_
  rintro e w' ⟨rfl, d', m, os, hp, hs, rfl⟩
  obtain ⟨hp1, _, hp3⟩ := hp
  have hds : d'.size = n := by rw [hp1]; exact e1
  have hdl : d'.toList.length = n := by simpa using hds
  have hperm : d'.toList.Perm l := by
    have x1 : d'.extract 0 n = d' := by rw [← hds]; simp
    have x2 : l.toArray.extract 0 n = l.toArray := by rw [← e1]; simp
    rw [x1, x2] at hp3
    exact hp3
  have hbut := sort_but d' m os
  have hV : (d'.toList.map (·.val)).map (·.1) = d'.toList.map (fun x => x.val.1) := by rw [List.map_map]; rfl
  refine ⟨rfl, d'.toList.map (·.val), ?_, ?_, ?_, ?_, hbut, rfl, rfl, rfl⟩
  · rw [← hl]; exact hperm.map _
  · rw [List.pairwise_map, List.pairwise_iff_getElem]
    intro i j hi hj hij
    have := hs i j (Nat.zero_le _) hij (by omega)
    unfold ltOf at this
    rw [ltn_cmpn, getElem!_pos d' i (by omega), getElem!_pos d' j (by omega)] at this
    simpa using this
  · obtain ⟨g, cap', cur, hv, hb, hh, h1, h2, h3, h4⟩ : ∃ g cap' cur, (Value.slice (some ⟨blk, 0, none⟩) n cap) = .slice (some ⟨g, 0, none⟩) n cap' ∧ B ≤ g ∧ w.heap[g]? = some (.cells cur 36 (0, 0)) ∧ n ≤ cap' ∧ cap' ≤ maxLen ∧ cur.size = cap' * 10 ∧ cur.toList.take (n * 10) = nvs (L.map (·.1)) := by
      rcases hown.2 with ⟨h0, _⟩ | h0
      · simp at h0
      · exact h0
    obtain ⟨rfl, rfl⟩ : blk = g ∧ cap = cap' := by simpa using hv
    refine ⟨by rw [nvs_length, List.length_map, List.length_map, hdl], .inr ⟨blk, cap, Go.Sort.putCells id 0 (Go.Sort.flatK encN 10 d') cur, rfl, hb, ?_, h1, h2, by simp [Go.Sort.putCells, h3], ?_⟩⟩
    · unfold sortWorldK Go.Sort.putRowK
      rw [Go.Sort.heap_grow_old _ _ (by simpa using hblk)]
      simp [Go.Sort.putRow, Go.Sort.mapBlock, Array.getElem?_modify, hh, Go.Sort.onCells]
    · apply List.ext_getElem?
      intro t
      by_cases ht : t < n * 10
      · have htc : t < cur.size := by rw [h3]; have := Nat.mul_le_mul_right 10 h1; omega
        rw [List.getElem?_take_of_lt ht, hV, nvs_flat _ t (by rw [List.length_map, hdl]; exact ht)]
        have hfl : t < d'.size * 10 := by rw [hds]; exact ht
        simp only [Go.Sort.putCells, Array.getElem?_toList, Array.getElem?_mapIdx, Array.getElem?_eq_getElem htc, Option.map_some, Nat.zero_le, true_and, Nat.zero_add, Nat.sub_zero, Go.Sort.size_flatK, hfl, if_true, id]
        rw [Go.Sort.get_flatK _ _ _ _ hfl, getElem!_pos d' (t / 10) (by omega)]
        simp only [List.getElem_map, Array.getElem_toList]
        have hgs := get_some (l := encN d'[t / 10]) (i := t % 10) (by unfold encN; rw [cells_length]; omega)
        rw [← hgs]
        unfold encN
        simp
      · rw [List.getElem?_eq_none (by simp; omega), List.getElem?_eq_none (by rw [nvs_length, List.length_map, List.length_map, hdl]; omega)]
  · intro p hp
    simp only [List.mem_map] at hp
    obtain ⟨x, _, rfl⟩ := hp
    exact x.property.but hbut
end Go.Proofs.Ytppmekmaclolbab

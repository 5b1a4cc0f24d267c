import Derived.Test.YtbmeapehgajbkaaGreatGJTreLinks
import Derived.Test.YtbmeapehgajbkaaGreatGSort
set_option linter.unusedVariables false
namespace Go.Proofs.YtbmeapehgajbkaaGreat
open Go.RowKit Go.Maps
open Nam Tre
namespace Tre
def ltn (a b : Nod) : Bool := less (nm a.names) (nm b.names)
theorem less_ntrans (a b c : List (List UInt8)) (h : less a b = false) (k : less b c = false) : less a c = false := by
 cases h3 : less a c with
 | false => rfl
 | true =>
  by_cases e : a = b
  ·subst e; rw [h3] at k; exact k
  ·rcases less_total a b e with q | q
   ·rw [q] at h; cases h
   ·have := less_trans b a c q h3
    rw [this] at k; cases k
end Tre
theorem isAggN : ∀ w, (isAgg 44).run Tryz.prog w = .ok true w := Tryz.isAgg44
theorem sizeOfN : ∀ w, (Go.sizeOf 44).run Tryz.prog w = .ok 10 w := Tryz.sizeOf44
theorem nvs_flat (V : List Nv) (t : Nat) (h : t < V.length * 10) : (nvs V)[t]? = ((V[t / 10]'(by omega)).cells.toList)[t % 10]? := by
 have e : t = t / 10 * 10 + t % 10 := by omega
 conv => lhs; rw [e]
 exact nvs_get V (t / 10) (t % 10) (by omega) (by omega)
theorem enc_one (v : Nv) : ∀ u ∈ v.cells.toList, u.oneCell' = true := by
 intro u hu
 exact nvs_one [v] u (by simpa [nvs] using hu)
theorem arr_get {α : Type} [Inhabited α] (l : List α) (i : Nat) (h : i < l.length) : (l.toArray)[i]! = l[i] := by
 rw [getElem!_pos l.toArray i (by simpa using h)]; simp
theorem get_some {l : List Value} {i : Nat} (h : i < l.length) : l[i]? = some l[i]! := by
 rw [List.getElem?_eq_getElem h, getElem!_pos l i h]
end Go.Proofs.YtbmeapehgajbkaaGreat
namespace Go.Proofs.YtbmeapehgajbkaaGreat
open Go.RowKit Go.Maps
open Nam Tre
def GoodB (W0 : World) (p : Nv × Nod) : Prop := Rep W0 p.1 p.2 ∧ p.2.names.length ≤ 1000000
def encB {W0 : World} (x : { p : Nv × Nod // GoodB W0 p }) : List Value := x.val.1.cells.toList
def cmpB (a b : Nod) : Int := cmp (nm a.names) (nm b.names)
theorem ltn_cmpB (a b : Nod) : decide (cmpB a b < 0) = ltn a b := cmp_less _ _
set_option maxRecDepth 100000 in
theorem fill1_any (v u : Nv) (x y : Nod) (W : World) (hv : Rs W v.na v.nn x.names) (hu : Rs W u.na u.nn y.names) (h1 : v.nn ≤ 1000000) (h2 : u.nn ≤ 1000000) :
  Calls Tryz.prog 19 #[.agg v.cells, .agg u.cells] W fun e w' => e = .returned (.int .i64 (cmpB x y)) ∧ ∃ q os, w' = Go.Sort.grow (W.drewN q) os := by
 have C1 : Hid (∀ k, Calls Tryz.prog 20 #[.slice v.na v.nn v.nc, .slice u.na u.nn u.nc] (((W.alloc (.cells v.cells 44)).alloc (.cells u.cells 44)).drewN k) fun e w' => e = .returned (.int .i64 (cmpB x y)) ∧ ∃ q, w' = (((W.alloc (.cells v.cells 44)).alloc (.cells u.cells 44)).drewN k).drewN q) := fun k =>
  Compare_any _ _ _ _ _ _ x.names y.names _ ((hv.below (below_alloc2 W _ _)).drewN k) ((hu.below (below_alloc2 W _ _)).drewN k) h1 h2
 have GW : Hid (∀ k, ∃ q os, ((W.alloc (.cells v.cells 44)).alloc (.cells u.cells 44)).drewN k = Go.Sort.grow (W.drewN q) os) := fun k => ⟨k, _, by rw [Go.Sort.alloc_eq_grow, Go.Sort.alloc_eq_grow, Go.Sort.grow_grow]; rfl⟩
 have C10 := hide (C1.out 0)
 generalize cmpB x y = z at *
 clear hv hu C1
 simp only [Nv.cells] at *
 go_enter Tryz.func19, Tryz.ntmps19
 go_wp2_with (go_at_call 20; refine C10.out.mono ?_; rintro e w' ⟨rfl, q, rfl⟩)
 go_ret
 exact ⟨rfl, GW.out _⟩
theorem sort_belB {W0 w : World} {blk : Nat} [Inhabited { p : Nv × Nod // GoodB W0 p }] (hb : Below W0.heap.size W0 w) (hk : W0.heap.size ≤ blk) (dk : Array { p : Nv × Nod // GoodB W0 p }) (m : Nat) (os : Array Obj) : Below W0.heap.size W0 (sortWorldK encB 10 w blk 0 m dk os) := by
 have h : w.heap.size ≤ (sortWorldK encB 10 w blk 0 m dk os).heap.size ∧ ∀ i, i < w.heap.size → i ≠ blk → (sortWorldK encB 10 w blk 0 m dk os).heap[i]? = w.heap[i]? := by
  unfold sortWorldK Go.Sort.putRowK
  refine ⟨by simp, fun i hi hne => ?_⟩
  rw [Go.Sort.heap_grow_old _ _ (by simpa using hi)]
  simp [Go.Sort.putRow, Go.Sort.mapBlock, Array.getElem?_modify, Ne.symm hne]
 refine ⟨hb.os, hb.tape, hb.output, Nat.le_trans hb.size h.1, fun i hi => ?_⟩
 rw [h.2 i (Nat.lt_of_lt_of_le hi hb.size) (by omega)]
 exact hb.block i hi
theorem swo_ltB {W0 : World} : Go.Sort.SWO (ltOf (fun x y : { p : Nv × Nod // GoodB W0 p } => cmpB x.val.2 y.val.2)) where
 irrefl x := by unfold ltOf; rw [ltn_cmpB]; exact less_irrefl _
 trans x y z h k := by unfold ltOf at *; rw [ltn_cmpB] at *; exact less_trans _ _ _ h k
 ntrans x y z h k := by unfold ltOf at *; rw [ltn_cmpB] at *; exact less_ntrans _ _ _ h k
theorem cmpLaysB {W0 w : World} {blk n : Nat} [Inhabited { p : Nv × Nod // GoodB W0 p }] (hb : Below W0.heap.size W0 w) (hk : W0.heap.size ≤ blk) : CmpLays Tryz.prog 19 #[] (encB (W0 := W0)) 10 (fun x y => cmpB x.val.2 y.val.2) blk 0 n w := fun m os dk _ x y => by
 have hbw := sort_belB hb hk dk m os
 have hx := x.property.1.below hbw
 have hy := y.property.1.below hbw
 have h := fill1_any x.val.1 y.val.1 x.val.2 y.val.2 (sortWorldK encB 10 w blk 0 m dk os) hx.names hy.names (by rw [← hx.names.1]; exact x.property.2) (by rw [← hy.names.1]; exact y.property.2)
 exact h
set_option maxRecDepth 100000 in
theorem SortB_any (W0 : World) (blk n cap B : Nat) (L : List (Nv × Nod)) (w : World) (hb0 : Below W0.heap.size W0 w) (hk0 : W0.heap.size ≤ blk) (hown : w.ownsRow B 44 10 (.slice (some ⟨blk, 0, none⟩) n cap) n (nvs (L.map (·.1)))) (hn : 0 < n) (hn2 : n ≤ 1000000) (hg : ∀ p ∈ L, GoodB W0 p) :
  Calls Tryz.prog 18 #[.slice (some ⟨blk, 0, none⟩) n cap, .func (.func 19) #[] #[]] w fun e w' => e = .returned (.tuple #[]) ∧ ∃ L' : List (Nv × Nod), L'.Perm L ∧ L'.Pairwise (fun p q => ltn q.2 p.2 = false) ∧
   w'.ownsRow B 44 10 (.slice (some ⟨blk, 0, none⟩) n cap) n (nvs (L'.map (·.1))) ∧ (∀ p ∈ L', GoodB W0 p) ∧ Below W0.heap.size W0 w' ∧ w.heap.size ≤ w'.heap.size ∧ (∀ i, i < w.heap.size → i ≠ blk → w'.heap[i]? = w.heap[i]?) ∧ w'.os = w.os ∧ w'.tape = w.tape ∧ w'.output = w.output := by
 have hLl : L.length = n := by have := hown.1; rw [nvs_length, List.length_map] at this; omega
 obtain ⟨l, hl, hll⟩ : ∃ l : List { p : Nv × Nod // GoodB W0 p }, l.map (·.val) = L ∧ l.length = n := by
  refine ⟨L.attach.map (fun q => ⟨q.1, hg q.1 q.2⟩), ?_, by simp [hLl]⟩
  rw [List.map_map]
  exact List.attach_map_subtype_val L
 haveI : Inhabited { p : Nv × Nod // GoodB W0 p } := ⟨l[0]'(by omega)⟩
 have hblk : blk < w.heap.size := (hown.lt blk rfl).2
 have hcellsL : L.map (·.1) = l.map (fun x => x.val.1) := by rw [← hl, List.map_map]; rfl
 have hH : Go.Sort.HoldsK encB 10 w blk 0 l.toArray := by
  intro j hj
  rw [Go.Sort.size_flatK] at hj
  simp only [List.size_toArray, hll] at hj
  rw [Go.Sort.get_flatK _ _ _ _ (by simpa [hll] using hj), Nat.zero_add]
  refine ⟨?_, hown.frozenAt j⟩
  rw [hown.cellAt j hj, hcellsL, nvs_flat _ j (by rw [List.length_map, hll]; exact hj), arr_get l (j / 10) (by omega)]
  simp only [List.getElem_map]
  exact get_some (by rw [cells_length]; omega)
 have hcon := AnyQ.slices_SortFunc sortNd 10 isAggN sizeOfN (encB (W0 := W0)) (fun x => cells_length x.val.1) (fun x v hv => enc_one x.val.1 v hv) (fun x y => cmpB x.val.2 y.val.2) swo_ltB 19 #[] blk 0 cap l.toArray w (enters_of Tryz.func19 (by kernel_rfl) rfl) (cmpLaysB hb0 hk0) hH hblk (by simp [hll]; omega)
 have e1 : (l.toArray).size = n := by simp [hll]
 rw [e1] at hcon
 change Calls Tryz.prog 18 _ _ _ at hcon
 refine hcon.mono ?_
 rintro e w' ⟨rfl, d', m, os, hp, hs, rfl⟩
 obtain ⟨hp1, _, hp3⟩ := hp
 have hds : d'.size = n := by rw [hp1]; exact e1
 have hdl : d'.toList.length = n := by simpa using hds
 have hperm : d'.toList.Perm l := by
  have x1 : d'.extract 0 n = d' := by rw [← hds]; simp
  have x2 : l.toArray.extract 0 n = l.toArray := by rw [← e1]; simp
  rw [x1, x2] at hp3
  exact hp3
 have hbut : w.heap.size ≤ (sortWorldK encB 10 w blk 0 m d' os).heap.size ∧ ∀ i, i < w.heap.size → i ≠ blk → (sortWorldK encB 10 w blk 0 m d' os).heap[i]? = w.heap[i]? := by
  unfold sortWorldK Go.Sort.putRowK
  refine ⟨by simp, fun i hi hne => ?_⟩
  rw [Go.Sort.heap_grow_old _ _ (by simpa using hi)]
  simp [Go.Sort.putRow, Go.Sort.mapBlock, Array.getElem?_modify, Ne.symm hne]
 have hV : (d'.toList.map (·.val)).map (·.1) = d'.toList.map (fun x => x.val.1) := by rw [List.map_map]; rfl
 refine ⟨rfl, d'.toList.map (·.val), ?_, ?_, ?_, ?_, sort_belB hb0 hk0 d' m os, hbut.1, hbut.2, rfl, rfl, rfl⟩
 ·rw [← hl]; exact hperm.map _
 ·rw [List.pairwise_map, List.pairwise_iff_getElem]
  intro i j hi hj hij
  have := hs i j (Nat.zero_le _) hij (by omega)
  unfold ltOf at this
  rw [ltn_cmpB, getElem!_pos d' i (by omega), getElem!_pos d' j (by omega)] at this
  simpa using this
 ·obtain ⟨g, cap', cur, hv, hb, hh, h1, h2, h3, h4⟩ : ∃ g cap' cur, (Value.slice (some ⟨blk, 0, none⟩) n cap) = .slice (some ⟨g, 0, none⟩) n cap' ∧ B ≤ g ∧ w.heap[g]? = some (.cells cur 44 (0, 0)) ∧ n ≤ cap' ∧ cap' ≤ maxLen ∧ cur.size = cap' * 10 ∧ cur.toList.take (n * 10) = nvs (L.map (·.1)) := by
   rcases hown.2 with ⟨h0, _⟩ | h0
   ·simp at h0
   ·exact h0
  obtain ⟨rfl, rfl⟩ : blk = g ∧ cap = cap' := by simpa using hv
  refine ⟨by rw [nvs_length, List.length_map, List.length_map, hdl], .inr ⟨blk, cap, Go.Sort.putCells id 0 (Go.Sort.flatK encB 10 d') cur, rfl, hb, ?_, h1, h2, by simp [Go.Sort.putCells, h3], ?_⟩⟩
  ·unfold sortWorldK Go.Sort.putRowK
   rw [Go.Sort.heap_grow_old _ _ (by simpa using hblk)]
   simp [Go.Sort.putRow, Go.Sort.mapBlock, Array.getElem?_modify, hh, Go.Sort.onCells]
  ·apply List.ext_getElem?
   intro t
   by_cases ht : t < n * 10
   ·have htc : t < cur.size := by rw [h3]; have := Nat.mul_le_mul_right 10 h1; omega
    rw [List.getElem?_take_of_lt ht, hV, nvs_flat _ t (by rw [List.length_map, hdl]; exact ht)]
    have hfl : t < d'.size * 10 := by rw [hds]; exact ht
    simp only [Go.Sort.putCells, Array.getElem?_toList, Array.getElem?_mapIdx, Array.getElem?_eq_getElem htc, Option.map_some, Nat.zero_le, true_and, Nat.zero_add, Nat.sub_zero, Go.Sort.size_flatK, hfl, if_true, id]
    rw [Go.Sort.get_flatK _ _ _ _ hfl, getElem!_pos d' (t / 10) (by omega)]
    simp only [List.getElem_map, Array.getElem_toList]
    have hgs := get_some (l := encB d'[t / 10]) (i := t % 10) (by unfold encB; rw [cells_length]; omega)
    rw [← hgs]
    unfold encB
    simp
   ·rw [List.getElem?_eq_none (by simp; omega), List.getElem?_eq_none (by rw [nvs_length, List.length_map, List.length_map, hdl]; omega)]
 ·intro p hp
  simp only [List.mem_map] at hp
  obtain ⟨x, _, rfl⟩ := hp
  exact x.property
end Go.Proofs.YtbmeapehgajbkaaGreat
namespace Go.Proofs.YtbmeapehgajbkaaGreat
set_option linter.unusedSectionVars false
open Go.RowKit Go.Maps
open Nam Tre
namespace Tre
end Tre
end Go.Proofs.YtbmeapehgajbkaaGreat
namespace Go.Proofs.YtbmeapehgajbkaaGreat
open Go.RowKit Go.Maps
open Nam Tre
end Go.Proofs.YtbmeapehgajbkaaGreat

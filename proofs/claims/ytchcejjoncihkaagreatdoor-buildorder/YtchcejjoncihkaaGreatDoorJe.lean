/- What the proof stands on, part 5 of 7: the texts BldOwner, DirRow, DirLeaf, DirPut, BldList, InoMay, InoKind, InoPut, BldKind, BldWrite, Keys, TabIDs, SupMay, SupBlock, SupPut, each with what the proof reaches of it. -/
import Derived.Test.YtchcejjoncihkaaGreatDoorJd
import Derived.Deep.MidRow
import Derived.Deep.SlicePairs
import Derived.Deep.RegionHeld3
import Derived.Laws.CopyOwn
import Derived.OwnWalk
import Derived.Deep.WholeRow
import Derived.Laws.Tables
import Derived.Lib.Strings
import Derived.Lib.Slices
import Derived.Lib.Walk
import Derived.Lib.Bytealg
import Derived.Test.YtchcejjoncihkaaGreatDoorRows
import Derived.Shelf.SlIterI.Nil
import Derived.Shelf.SortM.Plain
import Derived.Shelf.SortM.SortNone
import Derived.Ground.GgzProg
import Derived.Ground.SlgmProg
import Derived.Shelf.SlGeneric
import Derived.RangeFuncNested
import Derived.RangeFuncBound
import Derived.RangeFuncCalls
import Derived.RangeFuncLeaves
import Derived.Shelf.Abstract
import Derived.Shelf.RegionOpen
import Derived.WalkKit
import Derived.OwnWalkIn
import Derived.TacticsInMore
import Derived.LoopNIn
import Derived.LoopIn
import Derived.Maps.OwnIn
import Derived.Shelf.SlIterI.Stops
import Derived.Shelf.AbstractIn
import Derived.Deep.RegionLaw

/- Layer 14: the place of an owner among the owners: slices.BinarySearch of ints, and owner. -/
namespace Go.Proofs.YtchcejjoncihkaaGreatDoor
set_option linter.unusedVariables false
open Go.RowKit Go.Maps
open Lz (g)
open Crc (ent)
open Frm Mtr Tre Nam Tab Bld

theorem g_idx {l : List Int} {x : Int} (h : x ∈ l) : l.idxOf x < l.length ∧ g l (l.idxOf x) = x := by
  have h1 := List.idxOf_lt_length_iff.2 h
  refine ⟨h1, ?_⟩
  rw [Lz.g_lt l _ h1]
  exact List.getElem_idxOf h1
theorem g_rise {l : List Int} (h : l.Pairwise (· < ·)) {i j : Nat} (hij : i < j) (hj : j < l.length) : g l i < g l j := by
  rw [Lz.g_lt l i (by omega), Lz.g_lt l j hj]
  exact List.pairwise_iff_getElem.1 h i j (by omega) hj hij
set_option maxRecDepth 100000 in
theorem bsearch_any (a : Option Addr) (n c : Nat) (l : List Int) (x : Int) (w : World) (h : Zs w a n l) (hn : n ≤ 1000) (hr : l.Pairwise (· < ·)) (hx : x ∈ l) :
    Calls Tryz.prog 119 #[.slice a n c, .int .i64 x] w fun e w' => e = .returned (.tuple #[.int .i64 ((l.idxOf x : Nat) : Int), .bool true]) ∧ w' = w := by
  obtain ⟨hp1, hp2⟩ := g_idx hx
  have hl := h.1
  have HLT : Hid (∀ t, t < n → decide (g l t < x) = decide (t < l.idxOf x)) := fun t ht => by
    rw [decide_eq_decide]
    rcases Nat.lt_trichotomy t (l.idxOf x) with c | c | c
    · have := g_rise hr c hp1; rw [hp2] at this; exact ⟨fun _ => c, fun _ => this⟩
    · rw [c, hp2]; exact ⟨fun h => by omega, fun h => by omega⟩
    · have := g_rise hr c (by omega); rw [hp2] at this; exact ⟨fun h => by omega, fun h => by omega⟩
  obtain ⟨b, off, rfl, hb, hc⟩ := h.at (by omega)
  obtain ⟨p, hp⟩ : ∃ p, p = l.idxOf x := ⟨_, rfl⟩
  rw [← hp] at hp1 hp2 HLT ⊢
  have hpn : p < n := by omega
  have cp : w.cell? ⟨b, off + p, none⟩ = some (.int .i64 x) := by rw [← hp2]; exact hc p hpn
  have HC := hide hc
  have HLe : Hid (∀ (y : Int) w', Calls Tryz.prog 139 #[.int .i64 y, .int .i64 x] w' fun e w2 => e = .returned (.bool (decide (y < x))) ∧ w2 = w') := fun y w' => iLess_any _ _ _
  clear h hr hx hp hp1 hp2 hl hc
  go_enter Tryz.func119, Tryz.ntmps119
  go_wp2
  go_loopw [7, 8, 9] (fun r7 r8 _ wr => ∃ i j : Nat, r7 = .int .i64 i ∧ r8 = .int .i64 j ∧ i ≤ p ∧ p ≤ j ∧ j ≤ n ∧ wr = w) (fun r7 r8 _ _ => (intOf r8).toNat - (intOf r7).toNat)
  case atStart => exact ⟨0, n, rfl, rfl, by omega, by omega, Nat.le_refl _, rfl⟩
  case round =>
    obtain ⟨i, j, rfl, rfl, hip, hpj, hjn, rfl⟩ := hrel
    by_cases hlt : i < j
    · have hd : decide ((i : Int) < j) = true := by simpa using hlt
      obtain ⟨t, ht⟩ : ∃ t, t = (i + j) / 2 := ⟨_, rfl⟩
      have vh : ((i : Int) + j) / 2 = (t : Int) := by omega
      have t1 : i ≤ t := by omega
      have t2 : t < j := by omega
      have c1 := HC.out t (by omega)
      have i1 : (t : Int) < n := by omega
      have HD := hide (HLT.out t (by omega))
      generalize g l t = y at *
      clear ht
      by_cases hz : t < p
      · have hdz : decide (y < x) = true := by rw [HD.out]; simpa using hz
        go_wp2_with (go_at_call 139; refine (HLe.out _ _).mono ?_; rintro e w' ⟨rfl, rfl⟩)
        exact ⟨⟨t + 1, j, by go_num, rfl, by omega, hpj, hjn, trivial⟩, by simp [intOf]; omega⟩
      · have hdz : decide (y < x) = false := by rw [HD.out]; simpa using hz
        go_wp2_with (go_at_call 139; refine (HLe.out _ _).mono ?_; rintro e w' ⟨rfl, rfl⟩)
        exact ⟨⟨i, t, rfl, rfl, hip, by omega, by omega, trivial⟩, by simp [intOf]; omega⟩
    · have hd : decide ((i : Int) < j) = false := by simpa using hlt
      obtain rfl : i = p := by omega
      have i1 : (i : Int) < n := by omega
      have hdn : decide ((i : Int) < n) = true := by simpa using i1
      go_wp2
      go_ret2
      exact ⟨rfl, rfl⟩
set_option maxRecDepth 100000 in
theorem owner_any (x : Cx) (W0 : World) (O : Nat → Prop) (s : Ws) (y : Int) (w : World) (hs : Sta x W0) (h : RS x W0 w O s) (hy : y ∈ x.own) :
    Calls Tryz.prog 59 #[.pointer (some ⟨x.rp, 0, none⟩), .int .i64 y] w fun e w' => e = .returned (.int .i64 ((x.own.idxOf y : Nat) : Int)) ∧ w' = w := by
  have hz : Zs w x.oa x.on x.own := by obtain ⟨oi, od, ox, h1, h2⟩ := h; exact h2.ow
  have H := hide (bsearch_any x.oa x.on x.oc x.own y w hz (by have := hs.on8; omega) hs.asc hy)
  have c2 : w.cell? ⟨x.rp, 2, none⟩ = some (.slice x.oa x.on x.oc) := by simp [World.cell?, h.rc, rcv]
  clear hz hs h
  go_enter Tryz.func59, Tryz.ntmps59
  go_wp2_with (go_at_call 119; refine H.out.mono ?_; rintro e w' ⟨rfl, rfl⟩)
  go_ret
  exact ⟨rfl, rfl⟩
end Go.Proofs.YtchcejjoncihkaaGreatDoor

/- Layer 10: entries in memory: one, a row of them that came in, a row of the call's own. Nothing here speaks of one function of the program. -/
namespace Go.Proofs.YtchcejjoncihkaaGreatDoor
set_option linter.unusedVariables false
set_option maxRecDepth 100000
open Go.RowKit Go.Maps Go.ChangeShapes Go.WideShapes Go.ChangeAt
open Nam Cur Dir

namespace Dir
/-- An entry's cells. -/
def ev (E : Ent) : Array Value := #[.string E.name, .int .i64 E.kind, .int .i64 E.ref]
theorem infoRecs : (Tryz.prog.info? 134).map (fun i => (i.zero, i.size, i.bytes)) = some (some (.agg (ev z0)), 3, 32) := by kernel_rfl
/-- Entries' cells, one behind the other. -/
def evs (Ks : List Ent) : List Value := (Ks.map fun K => (ev K).toList).flatten
theorem evs_append (A B : List Ent) : evs (A ++ B) = evs A ++ evs B := by simp [evs]
theorem evs_length (Ks : List Ent) : (evs Ks).length = Ks.length * 3 := by
  induction Ks with
  | nil => rfl
  | cons K Ks ih =>
    have e : evs (K :: Ks) = (ev K).toList ++ evs Ks := by simp [evs]
    rw [e, List.length_append, ih, List.length_cons]
    have : (ev K).toList.length = 3 := rfl
    omega
theorem evs_get (Ks : List Ent) (j c : Nat) (h : j < Ks.length) (hc : c < 3) : (evs Ks)[j * 3 + c]? = (ev Ks[j]).toList[c]? := by
  have e : evs Ks = evs (Ks.take j) ++ ((ev Ks[j]).toList ++ evs (Ks.drop (j + 1))) := by
    have h1 : evs Ks = evs (Ks.take j ++ (Ks[j] :: Ks.drop (j + 1))) := by rw [List.getElem_cons_drop, List.take_append_drop]
    rw [h1, evs_append]
    unfold evs
    rw [List.map_cons, List.flatten_cons]
  have hl : (evs (Ks.take j)).length = j * 3 := by rw [evs_length, List.length_take, Nat.min_eq_left (by omega)]
  have hl2 : (ev Ks[j]).toList.length = 3 := rfl
  rw [e, List.getElem?_append_right (by omega), hl, List.getElem?_append_left (by omega)]
  congr 1
  omega
theorem range_below {w w' : World} {b o B : Nat} {cs : List Value} (h : w.rangeAt b o cs) (hb : Below B w w') (hlt : b < B) : w'.rangeAt b o cs := fun j v hv => (hb.cell (p := ⟨b, o + j, none⟩) hlt).trans (h j v hv)
/-- The slice at ao, n long, holds the entries L. -/
def Es (w : World) (ao : Option Addr) (n : Nat) (L : List Ent) : Prop :=
  L.length = n ∧ (n = 0 ∨ ∃ b off, ao = some ⟨b, off, none⟩ ∧ b < w.heap.size ∧ ∀ i, i < n → w.rangeAt b (off + i * 3) (ev (gl L i)).toList)
theorem Es.below {w w' : World} {ao : Option Addr} {n : Nat} {L : List Ent} (h : Es w ao n L) (hb : Below w.heap.size w w') : Es w' ao n L := by
  refine ⟨h.1, ?_⟩
  rcases h.2 with h0 | ⟨b, off, h1, h2, h3⟩
  · exact .inl h0
  · exact .inr ⟨b, off, h1, Nat.lt_of_lt_of_le h2 hb.size, fun i hi => range_below (h3 i hi) hb h2⟩
/-- The cells, where there is one. -/
theorem Es.at {w : World} {ao : Option Addr} {n : Nat} {L : List Ent} (h : Es w ao n L) (hn : 0 < n) : ∃ b off, ao = some ⟨b, off, none⟩ ∧ b < w.heap.size ∧ ∀ i, i < n → w.rangeAt b (off + i * 3) (ev (gl L i)).toList := by
  rcases h.2 with h0 | h0
  · omega
  · exact h0
/-- An entry's cells, one by one. -/
theorem range_cells {w : World} {b o : Nat} {K : Ent} (h : w.rangeAt b o (ev K).toList) : w.cell? ⟨b, o, none⟩ = some (.string K.name) ∧ w.cell? ⟨b, o + 1, none⟩ = some (.int .i64 K.kind) ∧ w.cell? ⟨b, o + 2, none⟩ = some (.int .i64 K.ref) :=
  ⟨h 0 _ rfl, h 1 _ rfl, h 2 _ rfl⟩
theorem es_of_owns {w : World} {B n c : Nat} {ao : Option Addr} {L : List Ent} (h : w.ownsRow B 134 3 (.slice ao n c) n (evs L)) : Es w ao n L := by
  have hlen : L.length = n := by have := h.1; rw [evs_length] at this; omega
  refine ⟨hlen, ?_⟩
  by_cases e : n = 0
  · exact .inl e
  · obtain ⟨gb, c', hv, _, hlt⟩ := h.form (by omega)
    obtain ⟨rfl, _, rfl⟩ : ao = some ⟨gb, 0, none⟩ ∧ n = n ∧ c = c' := by simpa using hv
    refine .inr ⟨gb, 0, rfl, hlt, fun i hi => ?_⟩
    rw [gl_lt L i (by omega), Nat.zero_add]
    intro j v hv
    have hj : j < 3 := by
      have := (List.getElem?_eq_some_iff.1 hv).1
      have e : (ev L[i]).toList.length = 3 := rfl
      omega
    rw [h.cellAt (i * 3 + j) (by omega), evs_get L i j (by omega) hj, hv]
theorem cap_own {w : World} {B e size n c : Nat} {ao : Option Addr} {vs : List Value} (h : w.ownsRow B e size (.slice ao n c) n vs) : n ≤ c ∧ c ≤ 9223372036854775807 ∧ (ao = none → c = 0) := by
  rcases h.2 with ⟨hv, h0⟩ | ⟨g, cap, cur, hv, _, _, h1, h2, _⟩
  · simp at hv
    obtain ⟨rfl, rfl, rfl⟩ := hv
    exact ⟨by omega, by omega, fun _ => rfl⟩
  · simp at hv
    obtain ⟨rfl, rfl⟩ := hv
    refine ⟨h1, ?_, fun h => by simp at h⟩
    unfold maxLen at h2; omega
end Dir
end Go.Proofs.YtchcejjoncihkaaGreatDoor

/- Layer 10: whether an entry may stand in a list, by the program: isKind, mayBe, newList and the function that it hands out; few. -/
namespace Go.Proofs.YtchcejjoncihkaaGreatDoor
set_option linter.unusedVariables false
set_option maxRecDepth 100000
open Go.RowKit Go.Maps
open Nam Cur Dir

theorem isKind_any (k : Int) (w : World) : Calls Tryz.prog 252 #[.int .i64 k] w fun e w' => e = .returned (.bool (decide (1 ≤ k ∧ k ≤ 3))) ∧ w' = w := by
  go_enter Tryz.func252, Tryz.ntmps252
  go_wp2
  all_goals
    go_ret
    refine ⟨ret_bool ?_, rfl⟩
    rw [Bool.eq_iff_iff, decide_eq_true_eq]
    simp_all
    try omega
theorem dMayBe_any (E : Ent) (w : World) : Calls Tryz.prog 242 #[.agg (ev E)] w fun e w' => e = .returned (.bool (ok E)) ∧ Below w.heap.size w w' := by
  obtain ⟨z, hz⟩ : ∃ z, valid E.name.toList = z := ⟨_, rfl⟩
  have HO : Hid (ok E = decide (z = 0 ∧ (1 ≤ E.kind ∧ E.kind ≤ 3) ∧ 0 ≤ E.ref ∧ E.ref ≤ 4294967295)) := by show ok E = _; unfold ok; rw [hz]
  have HZ := hide hz
  clear hz
  obtain ⟨w1, hw1⟩ : ∃ w1, w1 = w.alloc (.cells (ev E) 134) := ⟨_, rfl⟩
  have h1 : w1.heap[w.heap.size]? = some (.cells (ev E) 134 (0, 0)) := by rw [hw1]; exact heap_new rfl
  have HB1 : Hid (Below w.heap.size w w1) := by rw [hw1]; exact below_one _ _
  have HW1 := hide hw1
  have HC1 : Hid (∀ w2, Below w1.heap.size w1 w2 → ∀ k, w2.cell? ⟨w.heap.size, k, none⟩ = (ev E)[k]?) := fun w2 hb k => by
    rw [hb.cell (p := ⟨w.heap.size, k, none⟩) (heap_lt h1)]; exact cell_of_row _ _ _ _ _ _ h1
  clear h1 hw1
  unfold ev at HW1 HC1 ⊢
  go_enter Tryz.func242, Tryz.ntmps242
  go_wp2_with fail
  rw [← HW1.out]
  refine (Valid_any E.name w1).mono ?_
  rintro e w2 ⟨rfl, hb2⟩
  rw [HZ.out]
  have c1 : w2.cell? ⟨w.heap.size, 1, none⟩ = some (.int .i64 E.kind) := HC1.out w2 hb2 1
  have c2 : w2.cell? ⟨w.heap.size, 2, none⟩ = some (.int .i64 E.ref) := HC1.out w2 hb2 2
  have HB2 := hide (HB1.out.trans (hb2.mono HB1.out.size))
  clear hb2
  go_wp2_with (go_at_call 252; refine (isKind_any _ _).mono ?_; rintro e w' ⟨rfl, rfl⟩)
  all_goals
    go_ret
    refine ⟨ret_bool ?_, HB2.out⟩
    rw [HO.out, Bool.eq_iff_iff, decide_eq_true_eq]
    simp_all
    try omega
namespace Dir
/-- The variable of newList at the block q: the last name. -/
def Cl (w : World) (q : Nat) (s : ByteArray) : Prop := w.heap[q]? = some (.cells #[.string s] 9 (0, 0))
theorem Cl.cell {w : World} {q : Nat} {s : ByteArray} (h : Cl w q s) : w.cell? ⟨q, 0, none⟩ = some (.string s) := cell_of_row _ _ _ _ _ _ h
theorem Cl.free {w : World} {q : Nat} {s : ByteArray} (h : Cl w q s) (k : Nat) : w.frozen? ⟨q, k, none⟩ = false := by unfold Cl at h; simp [World.frozen?, h]
theorem Cl.lt {w : World} {q : Nat} {s : ByteArray} (h : Cl w q s) : q < w.heap.size := heap_lt h
theorem Cl.fr {S : Nat → Prop} {w w' : World} {q : Nat} {s : ByteArray} (h : Cl w q s) (hf : Fr S w w') (hn : ¬ S q) : Cl w' q s := (hf.block _ h.lt hn).trans h
theorem Cl.below {w w' : World} {q : Nat} {s : ByteArray} (h : Cl w q s) (hb : Below w.heap.size w w') : Cl w' q s := (hb.block _ h.lt).trans h
theorem Cl.set {w : World} {q : Nat} {s : ByteArray} (h : Cl w q s) (t : ByteArray) : Cl (w.setCell ⟨q, 0, none⟩ (.string t)) q t := by unfold Cl at *; rw [heap_setCell_self h]; rfl
end Dir
theorem newList_any (w : World) : Calls Tryz.prog 220 #[] w fun e w' => ∃ q, e = .returned (.func (.func 241) #[] #[.pointer (some ⟨q, 0, none⟩)]) ∧ Cl w' q em ∧ w.heap.size ≤ q ∧ Below w.heap.size w w' := by
  go_enter Tryz.func220, Tryz.ntmps220
  go_wp2
  go_ret
  exact ⟨w.heap.size, rfl, heap_new rfl, Nat.le_refl _, below_one _ _⟩
theorem goesOn_any (E : Ent) (q : Nat) (s : ByteArray) (w : World) (h : Cl w q s) : Calls Tryz.prog 241 #[.agg (ev E), .pointer (some ⟨q, 0, none⟩)] w fun e w' => e = .returned (.bool (nx s E)) ∧ Cl w' q E.name ∧ Fr (One q) w w' := by
  obtain ⟨b, hb⟩ : ∃ b, Op.bytesLess s.toList E.name.toList = b := ⟨_, rfl⟩
  have HE : Hid (nx s E = (b && ok E)) := by show nx s E = _; unfold nx; rw [hb]
  have HB := hide hb
  obtain ⟨w2, hw2⟩ : ∃ w2, w2 = (w.setCell ⟨q, 0, none⟩ (.string E.name)).alloc (.cells (ev E) 134) := ⟨_, rfl⟩
  have hq := h.lt
  have HC2 : Hid (Cl w2 q E.name) := by rw [hw2]; exact (h.set E.name).below (below_one _ _)
  have HF2 : Hid (Fr (One q) w w2) := by rw [hw2]; exact ((Fr.refl (One q) w).set (p := ⟨q, 0, none⟩) _ (fun _ => rfl)).alloc _
  have HW2 := hide hw2
  have c0 : w.cell? ⟨q, 0, none⟩ = some (.string s) := h.cell
  have f0 : w.frozen? ⟨q, 0, none⟩ = false := h.free 0
  have HM := hide (dMayBe_any E w2)
  clear hw2 h
  unfold ev at HM HW2 ⊢
  cases b with
  | false =>
    go_enter Tryz.func241, Tryz.ntmps241
    go_wp2_with fail
    rw [← HW2.out]
    go_ret
    exact ⟨ret_bool HE.out.symm, HC2.out, HF2.out⟩
  | true =>
    go_enter Tryz.func241, Tryz.ntmps241
    go_wp2_with fail
    rw [← HW2.out]
    refine HM.out.mono ?_
    rintro e w3 ⟨rfl, hb3⟩
    have HC3 := hide (HC2.out.below hb3)
    have HF3 := hide (HF2.out.then (Fr.of_below hb3))
    clear hb3
    go_wp2
    go_ret
    exact ⟨ret_bool HE.out.symm, HC3.out, HF3.out⟩
end Go.Proofs.YtchcejjoncihkaaGreatDoor

/- Layer 10: Put, by the program. -/
namespace Go.Proofs.YtchcejjoncihkaaGreatDoor
set_option linter.unusedVariables false
set_option maxRecDepth 100000
open Go.RowKit Go.Maps
open Nam Cur Cap Dir

namespace Dir
theorem WrP.fr {S : Nat → Prop} {w w' : World} {p B : Nat} {v : Value} {s : St} (h : WrP w p B v s) (hf : Fr S w w') (hp : ¬ S p) (hv : ∀ k, v.ownBlock = some k → ¬ S k) : WrP w' p B v s := by
  obtain ⟨ao, n, c, rfl, h1, h2, h3⟩ := h
  exact ⟨ao, n, c, rfl, h1.fr hf hp, owns_fr h2 hf hv, h3⟩
/-- A writer at p and newList's variable at q, since w0. -/
structure PW (w0 : World) (p q : Nat) (zs : List Int) (s : ByteArray) (w : World) : Prop where
  wr : ∃ v, WrP w p w0.heap.size v (zs, 0)
  cl : Cl w q s
  bel : Below w0.heap.size w0 w
  hp : w0.heap.size ≤ p
  hq : w0.heap.size ≤ q
theorem PW.below {w0 w w' : World} {p q : Nat} {zs : List Int} {s : ByteArray} (h : PW w0 p q zs s w) (hb : Below w.heap.size w w') : PW w0 p q zs s w' := by
  obtain ⟨v, hv⟩ := h.wr
  exact ⟨⟨v, hv.below hb⟩, h.cl.below hb, h.bel.trans (hb.mono h.bel.size), h.hp, h.hq⟩
/-- The same with an entry at x. -/
structure PX (w0 : World) (p q x : Nat) (E : Ent) (zs : List Int) (s : ByteArray) (w : World) : Prop where
  pw : PW w0 p q zs s w
  ob : w.heap[x]? = some (.cells (ev E) 134 (0, 0))
theorem PX.cell {w0 w : World} {p q x : Nat} {E : Ent} {zs : List Int} {s : ByteArray} (h : PX w0 p q x E zs s w) (k : Nat) : w.cell? ⟨x, k, none⟩ = (ev E)[k]? := cell_of_row _ _ _ _ _ _ h.ob
theorem PW.new {w0 w w' : World} {p q : Nat} {zs : List Int} {s : ByteArray} (h : PW w0 p q zs s w) (E : Ent) (hw : w' = w.alloc (.cells (ev E) 134)) : PX w0 p q w.heap.size E zs s w' := by
  subst hw
  exact ⟨h.below (below_one _ _), heap_new rfl⟩
theorem PX.goes {w0 w w' : World} {p q x : Nat} {E : Ent} {zs : List Int} {s t : ByteArray} (h : PX w0 p q x E zs s w) (hc : Cl w' q t) (hf : Fr (One q) w w') : PX w0 p q x E zs t w' := by
  obtain ⟨v, hv⟩ := h.pw.wr
  obtain ⟨ao, n, c, rfl, hd, ho, h3⟩ := id hv
  have n1 : p ≠ q := ne_obj hd h.pw.cl (by decide)
  have n2 : x ≠ q := ne_obj h.ob h.pw.cl (by decide)
  refine ⟨⟨⟨_, WrP.fr hv hf n1 (fun k hk hx => ?_)⟩, hc, h.pw.bel.trans (hf.one_below h.pw.bel.size h.pw.hq), h.pw.hp, h.pw.hq⟩, (hf.block _ (heap_lt h.ob) n2).trans h.ob⟩
  obtain ⟨cur, hcur⟩ := owns_obj ho hk
  have : k = q := hx
  exact ne_obj hcur h.pw.cl (by decide) this
theorem PX.wrote {w0 w w' : World} {p q x : Nat} {E : Ent} {zs zs' : List Int} {s : ByteArray} {v : Value} (h : PX w0 p q x E zs s w) (hv : WrP w p w0.heap.size v (zs, 0)) (hD : WrDone w w' p w0.heap.size v (zs', 0)) : PX w0 p q x E zs' s w' := by
  obtain ⟨v', h1, hf, h3⟩ := hD
  have hb := hv.base
  obtain ⟨ao, n, c, rfl, hd, ho, _⟩ := hv
  have n1 : q ≠ p := ne_obj h.pw.cl hd (by decide)
  have n2 : x ≠ p := ne_obj h.ob hd (by decide)
  have n3 : ∀ k, (Value.slice ao n c).ownBlock = some k → q ≠ k ∧ x ≠ k := fun k hk => by
    obtain ⟨cur, hcur⟩ := owns_obj ho hk
    exact ⟨ne_obj h.pw.cl hcur (by decide), ne_obj h.ob hcur (by decide)⟩
  refine ⟨⟨⟨v', h1⟩, h.pw.cl.fr hf (fun hx => ?_), h.pw.bel.trans (hf.two_below h.pw.bel.size h.pw.hp hb), h.pw.hp, h.pw.hq⟩, (hf.block _ (heap_lt h.ob) (fun hx => ?_)).trans h.ob⟩
  · rcases hx with hx | hx
    · exact n1 hx
    · exact (n3 _ hx).1 rfl
  · rcases hx with hx | hx
    · exact n2 hx
    · exact (n3 _ hx).2 rfl
end Dir
theorem px_num (w0 : World) (p q x : Nat) (E : Ent) (zs : List Int) (s : ByteArray) (y m : Int) (n : Nat) (w : World) (h : PX w0 p q x E zs s w) (hl : zs.length ≤ 900000) (hm : m = (n : Int)) (h1 : 1 ≤ n) (h4 : n ≤ 4) (h0 : 0 ≤ y) (hx : y < 256 ^ n) :
    Calls Tryz.prog 91 #[.pointer (some ⟨p, 0, none⟩), .int .i64 y, .int .i64 m] w fun r w' => r = .returned (.tuple #[]) ∧ PX w0 p q x E (zs ++ by' n y) s w' := by
  obtain ⟨v, hv⟩ := h.pw.wr
  have h5 : (256 : Int) ^ n ≤ 256 ^ 4 := pow256 h4
  refine (wNum_any p w0.heap.size v y m (zs, 0) w hv h.pw.bel.size (by simp; omega) (by omega) (by omega)).mono ?_
  rintro r w' ⟨rfl, hD⟩
  rw [wNum_ok zs m n y hm h1 h4 h0 hx] at hD
  exact ⟨rfl, h.wrote hv hD⟩
theorem px_text (w0 : World) (p q x : Nat) (E : Ent) (zs : List Int) (s t : ByteArray) (w : World) (h : PX w0 p q x E zs s w) (hl : zs.length ≤ 900000) (ht : t.size ≤ 255) :
    Calls Tryz.prog 176 #[.pointer (some ⟨p, 0, none⟩), .string t] w fun r w' => r = .returned (.tuple #[]) ∧ PX w0 p q x E (zs ++ ((t.size : Int) :: sb t)) s w' := by
  obtain ⟨v, hv⟩ := h.pw.wr
  refine (wText_any p w0.heap.size v t (zs, 0) w hv h.pw.bel.size (by simp; omega) (by omega)).mono ?_
  rintro r w' ⟨rfl, hD⟩
  rw [wTxt_ok zs t ht] at hD
  exact ⟨rfl, h.wrote hv hD⟩
/-- What Put answers. -/
def DPuts (L : List Ent) (w : World) (r : Ending) (w' : World) : Prop :=
  (may L = true ∧ ∃ ao c, r = .returned (.tuple #[.slice ao (putB L).length c, .int .i64 0]) ∧ New w w' ao (putB L).length c (putB L)) ∨
  (may L = false ∧ r = .returned (.tuple #[.slice none 0 0, .int .i64 1]) ∧ Below w.heap.size w w')
set_option maxHeartbeats 8000000 in
theorem dPut_any (a : Option Addr) (n c : Nat) (L : List Ent) (w : World) (hl : Es w a n L) (hc : n ≤ c) (hcm : c ≤ 9223372036854775807) (hn : n ≤ 3000) :
    Calls Tryz.prog 173 #[.slice a n c] w fun r w' => DPuts L w r w' := by
  obtain ⟨w1, hw1⟩ : ∃ w1, w1 = w.alloc (.cells #[.slice none 0 0, .int .i64 0] 156) := ⟨_, rfl⟩
  have HL := hide hl
  have HLN := hide hl.1
  have HB1 : Hid (Below w.heap.size w w1) := by rw [hw1]; exact below_one _ _
  have HWr : Hid (WrP w1 w.heap.size w.heap.size (.slice none 0 0) ([], 0)) := by rw [hw1]; exact WrP.new w w.heap.size
  have HW1 := hide hw1
  clear hl hw1
  go_enter Tryz.func173, Tryz.ntmps173
  go_wp2_with fail
  rw [← HW1.out]
  refine (newList_any w1).mono ?_
  rintro r w2 ⟨q, rfl, hC2, hq, hb2⟩
  have HP0 : Hid (PW w w.heap.size q [] em w2) := ⟨⟨_, HWr.out.below hb2⟩, hC2, HB1.out.trans (hb2.mono HB1.out.size), Nat.le_refl _, Nat.le_trans HB1.out.size hq⟩
  clear hC2 hb2 hq HW1 HWr
  go_wp2_with fail
  go_loopw [7, 11] (fun _ r wr => ∃ i : Nat, r = .int .i64 i ∧ i ≤ n ∧ PW w w.heap.size q (putB (L.take i)) (pv L i) wr ∧ may L = rise (pv L i) (L.drop i) ∧ (∀ E ∈ L.take i, fit E)) (fun _ r _ => n - (intOf r).toNat)
  case atStart => exact ⟨0, rfl, Nat.zero_le _, HP0.out, rfl, by simp⟩
  case round =>
    clear HP0
    obtain ⟨i, rfl, hi0, hP, hinv, hfit⟩ := hrel
    have HI := hide hinv
    have HP := hide hP
    have HFt := hide hfit
    have hzl : (putB (L.take i)).length ≤ 783000 := by
      have := putB_length hfit
      have h2 : (L.take i).length ≤ i := by simp; omega
      omega
    obtain ⟨zs, hzs⟩ : ∃ zs, zs = putB (L.take i) := ⟨_, rfl⟩
    rw [← hzs] at HP hzl
    have HZ := hide hzs
    clear hinv hfit hP hzs
    by_cases hi : i < n
    · have hd : decide ((i : Int) < n) = true := by simpa using hi
      obtain ⟨ba, oa, rfl, hba, hca⟩ := (HL.out.below HP.out.bel).at (by omega)
      have hx := hca i hi
      obtain ⟨E, hE⟩ : ∃ E, E = gl L i := ⟨_, rfl⟩
      rw [← hE] at hx
      have HEE := hide hE
      obtain ⟨c0, c1, c2⟩ := range_cells hx
      obtain ⟨wx, hwx⟩ : ∃ wx, wx = wr.alloc (.cells (ev E) 134) := ⟨_, rfl⟩
      have HX := hide (HP.out.new E hwx)
      have HWX := hide hwx
      have HG := hide (goesOn_any E q (pv L i) wx HX.out.pw.cl)
      have HR : Hid (rise (pv L i) (L.drop i) = (nx (pv L i) E && rise E.name (L.drop (i + 1)))) := by
        have := rise_drop L i (by rw [HLN.out]; exact hi)
        rw [pv_succ, ← hE] at this
        exact this
      clear hca hx hwx hE
      unfold ev at HWX HG
      go_wp2_with fail
      rw [← HWX.out]
      refine HG.out.mono ?_
      rintro r w3 ⟨rfl, hC3, hF3⟩
      have HX3 := hide (HX.out.goes hC3 hF3)
      obtain ⟨b, hb⟩ : ∃ b, nx (pv L i) E = b := ⟨_, rfl⟩
      rw [hb] at HR ⊢
      have HN := hide hb
      clear hC3 hF3 HG HX HWX c0 c1 c2 hb
      cases b with
      | false =>
        go_wp2
        go_ret2
        exact .inr ⟨by rw [HI.out, HR.out]; rfl, rfl, HX3.out.pw.bel⟩
      | true =>
        have hok : ok E = true := by
          have := HN.out
          unfold nx at this
          rw [Bool.and_eq_true] at this
          exact this.2
        have hft := ok_fit hok
        have HFE := hide hft
        obtain ⟨f1, ⟨f2, f3⟩, f4, f5⟩ := hft
        have c0 : w3.cell? ⟨wr.heap.size, 0, none⟩ = some (.string E.name) := HX3.out.cell 0
        clear hok
        go_wp2_with fail
        refine (px_text w w.heap.size q wr.heap.size E zs E.name E.name w3 HX3.out (by omega) f1).mono ?_
        rintro r w4 ⟨rfl, hX4⟩
        have HX4 := hide hX4
        have c1 : w4.cell? ⟨wr.heap.size, 1, none⟩ = some (.int .i64 E.kind) := hX4.cell 1
        obtain ⟨z4, hz4⟩ : ∃ z4, z4 = zs ++ ((E.name.size : Int) :: sb E.name) := ⟨_, rfl⟩
        have hl4 : z4.length ≤ 784000 := by rw [hz4]; simp [sb_length]; omega
        rw [← hz4] at HX4
        have HZ4 := hide hz4
        clear hX4 hz4 c0 HX3
        go_wp2_with fail
        refine (px_num w w.heap.size q wr.heap.size E z4 E.name E.kind 1 1 w4 HX4.out (by omega) rfl (by omega) (by omega) f2 (by omega)).mono ?_
        rintro r w5 ⟨rfl, hX5⟩
        have HX5 := hide hX5
        have c2 : w5.cell? ⟨wr.heap.size, 2, none⟩ = some (.int .i64 E.ref) := hX5.cell 2
        obtain ⟨z5, hz5⟩ : ∃ z5, z5 = z4 ++ by' 1 E.kind := ⟨_, rfl⟩
        have hl5 : z5.length ≤ 785000 := by rw [hz5]; simp [by_length]; omega
        rw [← hz5] at HX5
        have HZ5 := hide hz5
        clear hX5 hz5 c1 HX4
        go_wp2_with fail
        refine (px_num w w.heap.size q wr.heap.size E z5 E.name E.ref 4 4 w5 HX5.out (by omega) rfl (by omega) (by omega) f4 (by omega)).mono ?_
        rintro r w6 ⟨rfl, hX6⟩
        have HX6 := hide hX6
        clear hX6 c2 HX5
        go_wp2
        refine ⟨⟨i + 1, by go_num, by omega, ?_, ?_, ?_⟩, by simp [intOf]; omega⟩
        · have := HX6.out.pw
          rw [HZ5.out, HZ4.out, HZ.out] at this
          rw [pv_succ, ← HEE.out, take_gl L i (by rw [HLN.out]; exact hi), putB_append, putB_one, ← HEE.out]
          unfold entB
          simpa using this
        · rw [HI.out, HR.out, pv_succ, ← HEE.out]; rfl
        · intro X hX
          rw [take_gl L i (by rw [HLN.out]; exact hi), ← HEE.out] at hX
          rcases List.mem_append.1 hX with h | h
          · exact HFt.out X h
          · simp at h; rw [h]; exact HFE.out
    · have hd : decide ((i : Int) < n) = false := by simpa using hi
      have hin : i = n := by omega
      have HM : Hid (may L = true) := by
        show may L = true
        rw [HI.out, List.drop_eq_nil_of_le (by rw [HLN.out]; omega)]; rfl
      have HZL : Hid (zs = putB L) := by show zs = _; rw [HZ.out, List.take_of_length_le (by rw [HLN.out]; omega)]
      obtain ⟨v, hv⟩ := HP.out.wr
      have HV := hide hv
      have HBr := hide HP.out.bel
      clear hv
      go_wp2_with fail
      refine (DoneNew_any w.heap.size w.heap.size v (zs, 0) wr HV.out (by simp; omega)).mono ?_
      rintro r w3 ⟨ao, c3, rfl, hN⟩
      have HN := hide hN
      obtain ⟨ao0, n0, c0, _, hd0, _⟩ := HV.out.below hN.bel
      have HD0 := hide hd0
      clear hN hd0
      go_wp2_with fail
      refine (Err_any 156 w.heap.size n0 c0 ao0 0 w3 HD0.out).mono ?_
      rintro r w' ⟨rfl, rfl⟩
      go_wp2
      go_ret2
      refine .inl ⟨HM.out, ao, c3, ?_, ?_⟩
      · rw [← HZL.out]; rfl
      · rw [← HZL.out]; exact HN.out.from HBr.out
end Go.Proofs.YtchcejjoncihkaaGreatDoor

/- Layer 14: the list of a directory: what is in it is written, one behind the other. -/
namespace Go.Proofs.YtchcejjoncihkaaGreatDoor
set_option linter.unusedVariables false
open Go.RowKit Go.Maps
open Lz (g)
open Crc (ent)
open Frm Mtr Tre Nam Tab Bld

theorem kids_eq {L : List (Nv × Nod)} (h : CanP L) {k : List ByteArray} {K : List Nat} (hK : IsKids L k K) : K = kidsN (nds L) k := by
  refine Stb.srd_one Nat.lt_irrefl (fun _ _ _ => Nat.lt_trans) K _ (kids_rise h hK) ?_ fun x => ?_
  · unfold kidsN; exact List.Pairwise.filter _ List.pairwise_lt_range
  · rw [hK.mem, kidsN_mem, nds_length]
    refine and_congr_right fun hx => ?_
    unfold kid kidN
    rw [gn_nds L x hx]
/-- What write answers, of what is being written. -/
def WAns (x : Cx) (W0 : World) (O : Nat → Prop) (q : Ws × Nat) (w : World) (e : Ending) (w' : World) : Prop :=
  e = .returned (.int .i64 (q.2 : Int)) ∧ ∃ O', RS x W0 w' O' q.1 ∧ Fr O w w' ∧ Gr O O' w
/-- The contract of write, for nodes that are deep enough. -/
def WrC (x : Cx) (W0 : World) (f : Nat) : Prop := ∀ (i : Nat) (O : Nat → Prop) (s : Ws) (w : World), i < x.n → RS x W0 w O s → WI (nds x.L) s → 17 ≤ f + (gn (nds x.L) i).names.length →
  Calls Tryz.prog 21 #[.pointer (some ⟨x.rp, 0, none⟩), .int .i64 (i : Int)] w (WAns x W0 O (wr (nds x.L) x.own x.fm f i s) w)
/-- An entry is appended to a row of the call's own, in a region that draws. -/
theorem step_append_ent (w : World) {ops : Array Oper} {o : Oper} {a : Act} {K : Act → World → Prop} {Q : Exit → Act → World → Prop} {E : Prop} (hgd : o.guard = none) (s x : Operand)
    (ho : o.op = .call { callee := .builtin .append, args := #[s, x], argTypes := #[132, 132] })
    (base : Nat) (vo : Option Addr) (n vc : Nat) (xs : List Dir.Ent) (hs : a.eval s = .slice vo n vc) (hown : w.ownsRow base 134 3 (.slice vo n vc) n (Dir.evs xs))
    (gb : Nat) (e : Dir.Ent) (hx : a.eval x = .slice (some ⟨gb, 0, none⟩) 1 1) (hb : w.heap[gb]? = some (.cells (Dir.ev e) 134 (0, 0))) (hbd : n ≤ 100000000) (hbase : base ≤ w.heap.size)
    (h : ∀ g cap w', w'.ownsRow base 134 3 (.slice (some ⟨g, 0, none⟩) (n + 1) cap) (n + 1) (Dir.evs (xs ++ [e])) → w.grownBy w' (Value.slice vo n vc).ownBlock → ((Value.slice vo n vc).ownBlock = some g ∨ g = w.heap.size) → g < w'.heap.size → K (a.put o.dst (.slice (some ⟨g, 0, none⟩) (n + 1) cap)) w') :
    if Region.wanted o (yielded ops a.tmps) = true then Oper.wp Tryz.prog o a w K Q else E := by
  obtain ⟨i0, hi, hz0, hz1, hz2⟩ := info_parts Dir.infoRecs
  refine step_append_lies (P := Tryz.prog) (w := w) hgd s x 132 ho base 134 i0 (.agg (Dir.ev Dir.z0)) 3 32 Tryz.underlying132 hi hz0 hz1 hz2 rfl (by decide) (.slice vo n vc) n (Dir.evs xs) hs hown ⟨gb, 0, none⟩ 1 1 (Dir.evs [e]) hx (by rw [Dir.evs_length]; rfl) ?_ ?_ (by omega) (by unfold maxLen; omega) (by omega) hbase w.heap.size rfl ?_
  · intro j u hu
    have hj : j < 3 := by have := (List.getElem?_eq_some_iff.1 hu).1; rw [Dir.evs_length] at this; exact this
    rw [Addr.add_lit, Nat.zero_add]
    simp only [World.cell?, hb]
    have e1 : Dir.evs [e] = (Dir.ev e).toList := by simp [Dir.evs]
    rw [e1] at hu
    rw [← hu]
    simp
  · intro u hu
    have e1 : Dir.evs [e] = (Dir.ev e).toList := by simp [Dir.evs]
    rw [e1] at hu
    simp [Dir.ev] at hu
    rcases hu with rfl | rfl | rfl <;> rfl
  · intro g cap w' h1 h2 h3 h4
    rw [← Dir.evs_append] at h1
    exact h g cap w' h1 h2 h3 h4
/-- What was written of the first j nodes within a directory, and their entries. -/
def kz (x : Cx) (f m : Nat) (s : Ws) (K : List Nat) (j : Nat) : Ws × List Dir.Ent := kids (nds x.L) (wr (nds x.L) x.own x.fm f) m (K.take j) (s, [])
theorem kz_succ (x : Cx) (f m : Nat) (s : Ws) (K : List Nat) (j : Nat) (h : j < K.length) :
    kz x f m s K (j + 1) = ((wr (nds x.L) x.own x.fm f (fn0 K j) (kz x f m s K j).1).1, (kz x f m s K j).2 ++ [ent1 (nds x.L) m (fn0 K j) (wr (nds x.L) x.own x.fm f (fn0 K j) (kz x f m s K j).1).2]) := by
  have e : fn0 K j = K[j] := by simp [fn0, h]
  unfold kz
  rw [List.take_succ_eq_append_getElem h, kids_append, ← e]
  rfl
/-- The records and a row of entries, since the world w1. -/
structure LJ (x : Cx) (W0 : World) (O : Nat → Prop) (w1 w : World) (O' : Nat → Prop) (Z : Ws × List Dir.Ent) (eo : Option Addr) (j ec : Nat) : Prop where
  rs : RS x W0 w O' Z.1
  fr : Fr O w1 w
  gr : Gr O O' w1
  ow : w.ownsRow w1.heap.size 134 3 (.slice eo j ec) j (Dir.evs Z.2)
  no : ∀ k, (Value.slice eo j ec).ownBlock = some k → ¬ O' k
  st : ∀ k, Stc x W0 k → k < w1.heap.size
section
variable {x : Cx} {W0 w1 w w' : World} {O O' : Nat → Prop} {Z : Ws × List Dir.Ent} {eo : Option Addr} {j ec : Nat}
theorem LJ.below (h : LJ x W0 O w1 w O' Z eo j ec) (hb : Below w.heap.size w w') : LJ x W0 O w1 w' O' Z eo j ec :=
  ⟨h.rs.below hb, h.fr.then (Fr.of_below hb), h.gr, owns_below h.ow hb, h.no, h.st⟩
/-- A node is written. -/
theorem LJ.wrote (h : LJ x W0 O w1 w O' Z eo j ec) {q : Ws × Nat} {e : Ending} (hw : WAns x W0 O' q w e w') : e = .returned (.int .i64 (q.2 : Int)) ∧ ∃ O'', LJ x W0 O w1 w' O'' (q.1, Z.2) eo j ec ∧ Fr O' w w' := by
  obtain ⟨h1, O'', k1, k2, k3⟩ := hw
  refine ⟨h1, O'', ⟨k1, h.fr.gr h.gr k2, h.gr.trans k3 h.fr.size, owns_fr h.ow k2 h.no, fun k hk ho => ?_, h.st⟩, k2⟩
  rcases k3 k ho with ho | ho
  · exact h.no k hk ho
  · have := (h.ow.lt k hk).2; omega
/-- An entry is appended. -/
theorem LJ.put (h : LJ x W0 O w1 w O' Z eo j ec) {g cap : Nat} {E : Dir.Ent} (ho : w'.ownsRow w1.heap.size 134 3 (.slice (some ⟨g, 0, none⟩) (j + 1) cap) (j + 1) (Dir.evs (Z.2 ++ [E]))) (hg : w.grownBy w' (Value.slice eo j ec).ownBlock) (hl : (Value.slice eo j ec).ownBlock = some g ∨ g = w.heap.size) :
    LJ x W0 O w1 w' O' (Z.1, Z.2 ++ [E]) (some ⟨g, 0, none⟩) (j + 1) cap := by
  have hf : Fr (fun k => (Value.slice eo j ec).ownBlock = some k) w w' := Fr.of_grown hg (fun k hk => hk)
  have hn : ∀ k, (Value.slice eo j ec).ownBlock = some k → w1.heap.size ≤ k := fun k hk => (h.ow.lt k hk).1
  refine ⟨h.rs.fr hf (fun k hk => ⟨fun hs => ?_, h.no k hk⟩), h.fr.trans hf (fun i hi hx => by have := hn i hx; omega), h.gr, ho, fun k hk hx => ?_, h.st⟩
  · have h1 := hn k hk
    have := h.st k hs
    omega
  · have hk' : k = g := by simpa [Value.ownBlock] using hk.symm
    subst hk'
    rcases hl with hl | hl
    · exact h.no _ hl hx
    · have := h.rs.olt hx; omega
end
/-- What list answers. -/
def LAns (x : Cx) (W0 : World) (O : Nat → Prop) (Z : Ws × List Dir.Ent) (w : World) (e : Ending) (w' : World) : Prop :=
  ∃ ao c O', e = .returned (.slice ao (dp Z.2).length c) ∧ Bs w' ao (dp Z.2).length (dp Z.2) ∧ (ao = none → c = 0) ∧ (∀ a, ao = some a → ¬ O' a.block) ∧ RS x W0 w' O' Z.1 ∧ Fr O w w' ∧ Gr O O' w
set_option maxRecDepth 100000 in
set_option maxHeartbeats 4000000 in
theorem list_any (x : Cx) (W0 : World) (f : Nat) (O : Nat → Prop) (s : Ws) (b : Option Addr) (m d : Nat) (k : List ByteArray) (w : World) (hs : Sta x W0) (hW : WrC x W0 f) (h : RS x W0 w O s) (hI : WI (nds x.L) s) (hf : 16 ≤ f + m) (hr : Rs w b m k) (hmd : m ≤ d) (hdm : d ≤ 9223372036854775807) (Z : Ws × List Dir.Ent) (hZ : Z = kids (nds x.L) (wr (nds x.L) x.own x.fm f) m (kidsN (nds x.L) k) (s, [])) :
    Calls Tryz.prog 118 #[.pointer (some ⟨x.rp, 0, none⟩), .slice b m d] w (LAns x W0 O Z w) := by
  have hml := hr.1
  have hns := hs.ns.below h.bel
  have HK := hide (Kids_new x.a x.n x.c x.L b m d k w hns hs.nc hs.ncm hr (by omega) (fun p hp => by have := hs.deep p.2 (List.mem_map.2 ⟨p, hp, rfl⟩); omega) (by have := hs.n40; omega))
  have c0 : w.cell? ⟨x.rp, 0, none⟩ = some (.slice x.a x.n x.c) := by simp [World.cell?, h.rc, rcv]
  have H := hide h
  have HS := hide hs
  have HW := hide hW
  have HI := hide hI
  have HZ := hide hZ
  have hn40 := hs.n40
  clear hns h hs hW hI hr hZ
  go_enter Tryz.func118, Tryz.ntmps118
  go_wp2_with fail
  refine HK.out.mono ?_
  rintro r w1 ⟨ao, kn, kc, K, rfl, hKi, hk60, hkc, hkm, hIK, hb1, hnew⟩
  have HKe := hide (kids_eq HS.out.can hIK)
  have hKl := hKi.1
  have HKi := hide hKi
  have HMem := hide hIK.mem
  have HB1 := hide hb1
  have HJ0 : Hid (LJ x W0 O w1 w1 O (kz x f m s K 0) none 0 0) := ⟨H.out.below hb1, Fr.refl _ _, Gr.refl _ _, World.ownsRow_nil _ _ _ _, fun k hk => by simp [Value.ownBlock] at hk, fun k hk => (H.out.below hb1).slt hk⟩
  have HNew : Hid (0 < kn → ∀ p, ao = some p → ¬ O p.block) := fun h0 p hp ho => by have := hnew h0 p hp; have := H.out.olt ho; omega
  clear hKi hIK hb1 hnew HK c0
  go_wp2_with fail
  go_loopw [5, 7, 8, 18] (fun r5 _ _ r18 wr => ∃ (j : Nat) (O' : Nat → Prop) (eo : Option Addr) (ec : Nat), r18 = .int .i64 j ∧ j ≤ kn ∧ r5 = .slice eo j ec ∧ LJ x W0 O w1 wr O' (kz x f m s K j) eo j ec ∧ WI (nds x.L) (kz x f m s K j).1) (fun _ _ _ r18 _ => kn - (intOf r18).toNat)
  case atStart => exact ⟨0, O, none, 0, rfl, Nat.zero_le _, rfl, HJ0.out, HI.out⟩
  case round =>
    obtain ⟨j, O2, eo, ec, rfl, hjn, rfl, hJ, hWI⟩ := hrel
    by_cases hlt : j < kn
    · have hd : decide ((j : Int) < kn) = true := by simpa using hlt
      obtain ⟨q, hq⟩ : ∃ q, q = fn0 K j := ⟨_, rfl⟩
      have hqK : q ∈ K := by rw [hq]; simp [fn0, show j < K.length by omega]
      obtain ⟨hqL, hqk⟩ := (HMem.out q).1 hqK
      have hqn : q < x.n := by have := HS.out.ns.1; omega
      have hg := gn_nds x.L q hqL
      have hqk2 : (gn (nds x.L) q).names.length = m + 1 := by
        unfold kid at hqk; simp only [Bool.and_eq_true, decide_eq_true_eq] at hqk; rw [hg, hqk.1, hml]
      obtain ⟨kb, hka, hkb, hkcell⟩ : ∃ kb, ao = some ⟨kb, 0, none⟩ ∧ kb < w1.heap.size ∧ ∀ i, i < kn → w1.cell? ⟨kb, i, none⟩ = some (.int .i64 (fn0 K i : Int)) := by
        rcases HKi.out.2 with h0 | h0
        · omega
        · exact h0
      subst hka
      have ck : wr.cell? ⟨kb, j, none⟩ = some (.int .i64 (q : Int)) := by rw [hq]; exact (hJ.fr.cell (q := ⟨kb, j, none⟩) hkb (HNew.out (by omega) ⟨kb, 0, none⟩ rfl)).trans (hkcell j hlt)
      have cr0 : wr.cell? ⟨x.rp, 0, none⟩ = some (.slice x.a x.n x.c) := by simp [World.cell?, hJ.rs.rc, rcv]
      have hNs := HS.out.ns.below hJ.rs.bel
      have hRp := hNs.rep q hqn
      obtain ⟨nb, noff, hxa, hnb, hcells⟩ := hNs.at (by omega)
      obtain ⟨d0, d1, d2, d3, d4, d5, d6, d7, d8, d9⟩ := hcells q hqn
      have hZs := kz_succ x f m s K j (by omega)
      rw [← hq] at hZs
      have HZs := hide hZs
      have HWI2 := hide (wr_inv (own := x.own) (fm := x.fm) HS.out.uno f q (kz x f m s K j).1 (by rw [nds_length]; exact hqL) hWI)
      have HJ := hide hJ
      have HWI := hide hWI
      rw [hxa]
      rw [hxa] at cr0
      rw [hg] at hqk2
      obtain ⟨v, hv⟩ : ∃ v, v = (gl x.L q).1 := ⟨_, rfl⟩
      obtain ⟨nd, hnd⟩ : ∃ nd, nd = (gl x.L q).2 := ⟨_, rfl⟩
      rw [← hv] at d0 d1 d2 d3 d4 d5 d6 d7 d8 d9 hRp
      rw [← hnd] at hRp hqk2 hg
      have hNm := hRp.names
      have hnl := hNm.1
      have hN0 := (HS.out.ns.rep q hqn).names
      rw [← hv, ← hnd] at hN0
      obtain ⟨sb, so, hsa, hsb, hsc⟩ := hN0.at (by omega)
      have cs : wr.cell? ⟨sb, so + m, none⟩ = some (.string (gs nd.names m)) := (hJ.rs.bel.cell (p := ⟨sb, so + m, none⟩) hsb).trans (hsc m (by omega))
      have i1 : (m : Int) < (v.nn : Int) := by omega
      have i2 : (q : Int) < (x.n : Int) := by omega
      have HG := hide hg
      have hkd := hRp.kind
      have HSa := hide hsa
      clear hsa
      clear hJ hWI hZs hcells hNs hRp hNm hN0 hsc hkcell hv hnd hg hq hqK hqk hnl
      go_wp2_with fail
      obtain ⟨wB, hwB⟩ : ∃ wB, wB = wr.alloc (.cells v.cells 37) := ⟨_, rfl⟩
      have eB : wr.alloc (Obj.cells #[.slice v.na v.nn v.nc, .int .i64 v.ino, .int .i64 v.kind, .int .i64 v.mode, .int .i64 v.uid, .int .i64 v.gid, .slice v.da v.dn v.dc, .string v.tg, .slice v.xa v.xn v.xc, .bool v.op] 37) = wB := by rw [hwB]; rfl
      rw [eB]
      have hbB : Below wr.heap.size wr wB := by rw [hwB]; exact (Below.refl _ wr).alloc (Nat.le_refl _) _
      have hJB := HJ.out.below hbB
      have hp8 : wB.heap[wr.heap.size]? = some (.cells v.cells 37 (0, 0)) := by rw [hwB]; exact heap_alloc_new _ _
      have hpl := heap_lt hp8
      obtain ⟨p8, hp⟩ : ∃ p8, p8 = wr.heap.size := ⟨_, rfl⟩
      rw [← hp] at hp8 hpl ⊢
      obtain ⟨qq, hqq⟩ : ∃ qq, qq = Bld.wr (nds x.L) x.own x.fm f q (kz x f m s K j).1 := ⟨_, rfl⟩
      obtain ⟨nmx, hnm⟩ : ∃ nmx, nmx = gs nd.names m := ⟨_, rfl⟩
      rw [← hnm] at cs
      have HE : Hid (kz x f m s K (j + 1) = (qq.1, (kz x f m s K j).2 ++ [⟨nmx, v.kind, (qq.2 : Int)⟩])) := by
        show _ = _
        rw [HZs.out, ← hqq]
        unfold ent1
        rw [HG.out, ← hnm, hkd]
      have HLk : Hid (∀ wX, Fr (fun k => O2 k ∨ (Value.slice eo j ec).ownBlock = some k) wB wX → wX.cell? ⟨p8, 0, none⟩ = some (.slice (some ⟨sb, so, none⟩) v.nn v.nc) ∧ wX.cell? ⟨p8, 2, none⟩ = some (.int .i64 v.kind) ∧ wX.cell? ⟨sb, so + m, none⟩ = some (.string nmx)) := fun wX hX => by
        have n1 : ¬ (O2 p8 ∨ (Value.slice eo j ec).ownBlock = some p8) := by
          rintro (ho | ho)
          · have := HJ.out.rs.olt ho; omega
          · have := (HJ.out.ow.lt _ ho).2; omega
        have hsS : Stc x W0 sb := .inl hsb
        have n2 : ¬ (O2 sb ∨ (Value.slice eo j ec).ownBlock = some sb) := by
          rintro (ho | ho)
          · exact HJ.out.rs.off ho hsS
          · have := (HJ.out.ow.lt _ ho).1; have := HJ.out.st sb hsS; omega
        have hsl : sb < wB.heap.size := Nat.lt_of_lt_of_le (HJ.out.rs.slt hsS) hbB.size
        refine ⟨(hX.cell (q := ⟨p8, 0, none⟩) hpl n1).trans ?_, (hX.cell (q := ⟨p8, 2, none⟩) hpl n1).trans ?_, (hX.cell (q := ⟨sb, so + m, none⟩) hsl n2).trans ((hbB.cell (p := ⟨sb, so + m, none⟩) (HJ.out.rs.slt hsS)).trans cs)⟩
        · rw [← HSa.out]; simp [World.cell?, hp8, Nv.cells]
        · simp [World.cell?, hp8, Nv.cells]
      have HJD : Hid (LJ x W0 O w1 wB.drew O2 (kz x f m s K j) eo j ec) := hJB.below (show Below _ wB wB.drew from drewN_below wB 1)
      have HWr := hide (HW.out q O2 (kz x f m s K j).1 wB.drew hqn HJD.out.rs HWI.out (by rw [HG.out, hqk2]; omega))
      rw [← hqq] at HWr HWI2
      have HF0 : Hid (Fr (fun k => O2 k ∨ (Value.slice eo j ec).ownBlock = some k) wB wB.drew) := (Fr.refl _ _).drew
      generalize kz x f m s K j = Zj at *
      clear hwB eB hbB hJB hp8 hqq hnm HZs HG hkd cs d0 d1 d2 d3 d4 d5 d6 d7 d8 d9 HJ HWI ck cr0 hp
      go_region_held3 (fun wX => wX.cell? ⟨p8, 0, none⟩ = some (.slice (some ⟨sb, so, none⟩) v.nn v.nc) ∧ wX.cell? ⟨p8, 2, none⟩ = some (.int .i64 v.kind) ∧ wX.cell? ⟨sb, so + m, none⟩ = some (.string nmx)) (exact HLk.out _ (by first | exact HF0.out | exact HF4.out | exact HF2.out.alloc _ | exact HF2.out))
        ((first
          | (go_at_call 21; refine HWr.out.mono ?_; rintro r w2 hA; obtain ⟨rfl, O3, hJ2, hF2⟩ := HJD.out.wrote hA; have HJ2 := hide hJ2; have HF2 : Hid (Fr (fun k => O2 k ∨ (Value.slice eo j ec).ownBlock = some k) wB w2) := (hF2.mono (fun i _ hi => .inl hi)).undrew; clear hA hJ2 hF2)
          | (have hJ3 := HJ2.out.below ((Below.refl _ w2).alloc (Nat.le_refl _) (.cells (Dir.ev ⟨nmx, v.kind, (qq.2 : Int)⟩) 134)); refine step_append_ent (w2.alloc (.cells (Dir.ev ⟨nmx, v.kind, (qq.2 : Int)⟩) 134)) (by rfl) (.tmp 29) (.tmp 42) (by rfl) w1.heap.size eo j ec Zj.2 (by rfl) hJ3.ow w2.heap.size ⟨nmx, v.kind, (qq.2 : Int)⟩ (by rfl) (heap_alloc_new _ _) (by omega) (hJ3.fr.size) ?_; intro g4 c4 w4 h1 h2 h3 h4; have HJ4 := hide (hJ3.put h1 h2 h3); have HF4 : Hid (Fr (fun k => O2 k ∨ (Value.slice eo j ec).ownBlock = some k) wB w4) := (HF2.out.alloc _).then (Fr.of_grown h2 (fun k hk => .inr hk)); clear hJ3 h1 h2 h3 h4)))
      rename_i hHd
      clear hHd HF0 HF2 HF4 HLk HWr HJD HJ2
      have hw1 : IntKind.i64.wrap ((j : Int) + 1) = (j : Int) + 1 := by rw [IntKind.wrap_i64]; omega
      go_wp2
      refine ⟨⟨j + 1, O3, some ⟨g4, 0, none⟩, c4, by go_num, by omega, rfl, ?_, ?_⟩, by simp [intOf]; omega⟩
      · rw [HE.out]; exact HJ4.out
      · rw [HE.out]; exact HWI2.out
    · obtain rfl : j = kn := by omega
      have hd : decide ((j : Int) < (j : Int)) = false := by simp
      have eZ : kz x f m s K j = Z := by
        rw [HZ.out, ← HKe.out]; unfold kz; rw [List.take_of_length_le (by omega)]
      rw [eZ] at hJ
      obtain ⟨p1, p2, p3⟩ := Dir.cap_own hJ.ow
      have HP := hide (dPut_any eo j ec Z.2 wr (Dir.es_of_owns hJ.ow) p1 p2 (by omega))
      have HJ := hide hJ
      clear hJ hWI eZ HZ HKe HKi
      go_wp2_with fail
      refine HP.out.mono ?_
      rintro r w2 (⟨hm, ao2, c2, rfl, hN⟩ | ⟨hm, rfl, hb2⟩)
      · have HX : Hid (LAns x W0 O Z w (.returned (.slice ao2 (Dir.putB Z.2).length c2)) w2) := by
          have e : dp Z.2 = Dir.putB Z.2 := by unfold dp; rw [if_pos hm]
          refine ⟨ao2, c2, O2, by rw [e], by rw [e]; exact hN.bs, hN.nil, fun a ha ho => ?_, HJ.out.rs.below hN.bel, ((Fr.of_below HB1.out).then HJ.out.fr).then (Fr.of_below hN.bel), fun k hk => (HJ.out.gr k hk).imp id (fun h => Nat.le_trans HB1.out.size h)⟩
          have := (hN.own a ha).1; have := HJ.out.rs.olt ho; omega
        clear hN HP HJ
        generalize (Dir.putB Z.2).length = pl at *
        go_wp2
        go_ret
        exact HX.out
      · have HX : Hid (LAns x W0 O Z w (.returned (.slice none 0 0)) w2) := by
          have e : dp Z.2 = [] := by unfold dp; rw [if_neg (by rw [hm]; simp)]
          refine ⟨none, 0, O2, by rw [e]; rfl, by rw [e]; exact ⟨rfl, fun i => by simp [g], .inl rfl⟩, fun _ => rfl, fun a ha ho => by simp at ha, HJ.out.rs.below hb2, ((Fr.of_below HB1.out).then HJ.out.fr).then (Fr.of_below hb2), fun k hk => (HJ.out.gr k hk).imp id (fun h => Nat.le_trans HB1.out.size h)⟩
        clear HP HJ hb2
        go_wp2
        go_ret
        exact HX.out
end Go.Proofs.YtchcejjoncihkaaGreatDoor

/- Layer 9: whether a record may be, by the program. -/
namespace Go.Proofs.YtchcejjoncihkaaGreatDoor
set_option linter.unusedVariables false
open Go.RowKit Go.Maps
open Cur
open Ino

namespace Ino
theorem below_eq {w w' : World} (h : w' = w) : Below w.heap.size w w' := by subst h; exact Below.refl _ _
/-- A record's cells. -/
def iv (s : Rec) : Array Value := #[.int .i64 s.kind, .int .i64 s.mode, .int .i64 s.uid, .int .i64 s.gid, .int .i64 s.links, .int .i64 s.xattr, .int .i64 s.start, .int .i64 s.size, .int .i64 s.frag, .int .i64 s.off, .string s.target]
theorem infoRec : (Tryz.prog.info? 84).map (·.size) = some 11 := by kernel_rfl
theorem load_rec {w : World} {b t : Nat} {cs : Array Value} {fr : Nat × Nat} (h : w.heap[b]? = some (.cells cs t fr)) (hs : cs.size = 11) : (loadVar 84 ⟨b, 0, none⟩).run Tryz.prog w = .ok (.agg cs) w :=
  run_loadVar_row w b t 84 cs fr _ h Tryz.underlying84 rfl (by rw [hs]; exact infoRec)
/-- A whole record loaded, also behind a test. -/
theorem wpList_load_rec {ops : Array Oper} {rest : List Oper} {o : Oper} {a : Act} {w : World} {Q : Exit → Act → World → Prop} (hw : Region.wanted o (yielded ops a.tmps) = true) (x : Operand) (ho : o.op = .load 84 x)
    (b : Nat) (hx : a.eval x = .pointer (some ⟨b, 0, none⟩)) (t : TypeId) (cs : Array Value) (fr : Nat × Nat) (hg : w.heap[b]? = some (.cells cs t fr)) (hs : cs.size = 11)
    (h : wpList Tryz.prog ops Q rest (a.put o.dst (.agg cs)) w) : wpList Tryz.prog ops Q (o :: rest) a w :=
  wpList_step fun K hK => by
    rw [if_pos hw]
    exact wp_load_row 84 x ho b hx t cs fr _ hg Tryz.underlying84 rfl (by rw [hs]; exact infoRec) (hK _ _ h)
end Ino

theorem within_any (n a b : Int) (w : World) : Calls Tryz.prog 177 #[.int .i64 n, .int .i64 a, .int .i64 b] w fun e w' => e = .returned (.bool (inn n a b)) ∧ w' = w := by
  by_cases h1 : a ≤ n
  · by_cases h2 : n ≤ b
    · have e : inn n a b = true := by simp [inn, h1, h2]
      rw [e]
      clear e
      go_enter Tryz.func177, Tryz.ntmps177
      go_wp2
      go_ret
      exact ⟨rfl, rfl⟩
    · have e : inn n a b = false := by simp [inn, h2]
      have h2' : decide (n ≤ b) = false := by simpa using h2
      rw [e]
      clear e
      go_enter Tryz.func177, Tryz.ntmps177
      go_wp2
      go_ret
      exact ⟨rfl, rfl⟩
  · have e : inn n a b = false := by simp [inn, h1]
    have h1' : decide (a ≤ n) = false := by simpa using h1
    rw [e]
    clear e
    go_enter Tryz.func177, Tryz.ntmps177
    go_wp2
    go_ret
    exact ⟨rfl, rfl⟩
theorem within_at (q : Bool) (n a b : Int) (hq : inn n a b = q) (w : World) : Calls Tryz.prog 177 #[.int .i64 n, .int .i64 a, .int .i64 b] w fun e w' => e = .returned (.bool q) ∧ Below w.heap.size w w' := by
  subst hq
  exact (within_any n a b w).mono (by rintro e w' ⟨h1, h2⟩; exact ⟨h1, below_eq h2⟩)
set_option maxRecDepth 100000 in
theorem mayDir_any (s : Rec) (w : World) : Calls Tryz.prog 178 #[.agg (iv s)] w fun e w' => e = .returned (.bool s.dirOk) ∧ Below w.heap.size w w' := by
  have HB := hide (below_one w)
  have HD := hide (show s.dirOk = ((s.links == 1) && inn s.start 0 4294967295 && inn s.size 0 1048576 && (s.frag == 0) && (s.off == 0) && emp s.target) from rfl)
  unfold iv
  go_enter Tryz.func178, Tryz.ntmps178
  go_wp2_with (go_at_call 177; refine (within_any _ _ _ _).mono ?_; rintro e w1 ⟨rfl, rfl⟩)
  all_goals (go_ret; refine ⟨ret_bool ?_, HB.out _⟩; rw [HD.out]; simp [*, emp])
set_option maxRecDepth 100000 in
theorem hasTail_at (s : Rec) (q : Bool) (hq : (s.size.tmod 128 != 0) = q) (w : World) : Calls Tryz.prog 221 #[.agg (iv s)] w fun e w' => e = .returned (.bool q) ∧ Below w.heap.size w w' := by
  have HB := hide (below_one w)
  unfold iv
  go_enter Tryz.func221, Tryz.ntmps221
  go_wp2
  go_ret
  exact ⟨ret_bool (by rw [← hq]), HB.out _⟩
theorem iIndexByte_neg (l : List UInt8) : decide (Lib.indexByte l 0 < 0) = !l.any (· == 0) := by
  induction l with
  | nil => rfl
  | cons b l ih =>
    unfold Lib.indexByte
    rw [List.any_cons]
    cases hb : b == 0 with
    | true => simp
    | false =>
      simp only [Bool.false_or]
      rw [← ih, if_neg (by simp)]
      have := Lib.indexByte_ge l 0
      by_cases e : Lib.indexByte l 0 = -1
      · rw [if_pos (by simpa using e), e]
      · rw [if_neg (by simpa using e)]
        rw [decide_eq_false (by omega), decide_eq_false (by omega)]
theorem nz_index (t : ByteArray) : decide (Lib.indexByte t.data.toList 0 < 0) = nz t := by
  rw [iIndexByte_neg]
  unfold nz sb
  rw [Bool.eq_iff_iff]
  simp only [Bool.not_eq_true', List.any_eq_false, beq_iff_eq, decide_eq_true_eq, List.mem_map]
  constructor
  · rintro h x ⟨b, hb, rfl⟩ he
    exact h b hb (UInt8.toNat_inj.1 (by simpa using Int.ofNat.inj he))
  · intro h b hb he
    exact h b.toNat ⟨b, hb, rfl⟩ (by rw [he]; rfl)
set_option maxHeartbeats 4000000 in
set_option maxRecDepth 100000 in
theorem iLiteIndex_any (s : ByteArray) (w : World) :
    Calls Tryz.prog 243 #[.string s, .int .u8 0] w fun e w' => e = .returned (.int .i64 (Lib.indexByte s.data.toList 0)) ∧ w' = w := by
  go_enter Tryz.func243, Tryz.ntmps243
  go_wp2
  rw [run_callFunc_extern Tryz.func253 (by kernel_rfl) (by kernel_rfl) (by kernel_rfl) (e := Extern.BytealgIndexByte.indexByte) (by kernel_rfl), Lib.run_indexByteString]
  simp only [Result.andThen]
  rw [Oper.upon_value]
  go_wp2
  go_ret
  exact ⟨rfl, rfl⟩
theorem iIndexByte_any (s : ByteArray) (w : World) (z : Int) (hz : Lib.indexByte s.data.toList 0 = z) :
    Calls Tryz.prog 222 #[.string s, .int .u8 0] w fun e w' => e = .returned (.int .i64 z) ∧ w' = w := by
  subst hz
  go_enter Tryz.func222, Tryz.ntmps222
  go_wp2_with (go_at_call 243; refine (iLiteIndex_any _ _).mono ?_; rintro e w' ⟨rfl, rfl⟩)
  go_ret
  exact ⟨rfl, rfl⟩
set_option maxRecDepth 100000 in
theorem mayLink_any (s : Rec) (w : World) : Calls Tryz.prog 186 #[.agg (iv s)] w fun e w' => e = .returned (.bool s.linkOk) ∧ Below w.heap.size w w' := by
  have HB := hide (below_one w)
  obtain ⟨z, hz⟩ : ∃ z, Lib.indexByte s.target.data.toList 0 = z := ⟨_, rfl⟩
  have hnz := nz_index s.target
  rw [hz] at hnz
  have HZ := hide hz
  have HN := hide hnz
  clear hz hnz
  have HD := hide (show s.linkOk = (inn s.target.size 1 200 && nz s.target && (s.start == 0) && (s.size == 0) && (s.frag == 0) && (s.off == 0)) from rfl)
  unfold iv
  go_enter Tryz.func186, Tryz.ntmps186
  go_wp2_with (first
    | (go_at_call 177; refine (within_any _ _ _ _).mono ?_; rintro e w1 ⟨rfl, rfl⟩)
    | (go_at_call 222; refine (iIndexByte_any _ _ z HZ.out).mono ?_; rintro e w' ⟨rfl, rfl⟩))
  all_goals (go_ret; refine ⟨ret_bool ?_, HB.out _⟩; rw [HD.out, ← HN.out]; simp [*] <;> (intros; omega))
set_option maxRecDepth 100000 in
set_option maxHeartbeats 16000000 in
theorem mayFile_any (s : Rec) (w : World) : Calls Tryz.prog 182 #[.agg (iv s)] w fun e w' => e = .returned (.bool s.fileOk) ∧ Below w.heap.size w w' := by
  obtain ⟨X, hX⟩ : ∃ X, X = iv s := ⟨_, rfl⟩
  have hXs : X.size = 11 := by rw [hX]; rfl
  obtain ⟨w1, hw1⟩ : ∃ w1, w1 = w.alloc (.cells X 84) := ⟨_, rfl⟩
  have hb1 : w1.heap[w.heap.size]? = some (.cells X 84 (0, 0)) := by rw [hw1]; exact heap_new rfl
  have HX : Hid (∀ wX, Below w1.heap.size w1 wX → wX.heap[w.heap.size]? = some (.cells X 84 (0, 0))) := fun wX h => (h.block _ (heap_lt hb1)).trans hb1
  have HC : Hid (∀ wX, Below w1.heap.size w1 wX → ∀ k, wX.cell? ⟨w.heap.size, k, none⟩ = (iv s)[k]?) := fun wX h k => by
    rw [cell_of_row _ _ _ _ _ _ ((h.block _ (heap_lt hb1)).trans hb1), hX]
  have HB1 : Hid (Below w.heap.size w w1) := by rw [hw1]; exact below_one _ _
  have HW1 := hide hw1
  obtain ⟨bA, gA⟩ : ∃ b, inn s.start 0 4294967295 = b := ⟨_, rfl⟩
  obtain ⟨bB, gB⟩ : ∃ b, inn s.size 0 4096 = b := ⟨_, rfl⟩
  obtain ⟨bC, gC⟩ : ∃ b, inn s.frag 0 1024 = b := ⟨_, rfl⟩
  obtain ⟨bT, gT⟩ : ∃ b, (s.size.tmod 128 != 0) = b := ⟨_, rfl⟩
  obtain ⟨bF, gF⟩ : ∃ b, (s.frag != 0) = b := ⟨_, rfl⟩
  obtain ⟨bE, gE⟩ : ∃ b, inn s.off 0 127 = b := ⟨_, rfl⟩
  obtain ⟨bO, gO⟩ : ∃ b, (s.off == 0) = b := ⟨_, rfl⟩
  have HQ : Hid (s.fileOk = (bA && bB && bC && (bT == bF) && bE && (bO || bF) && s.target.toList.isEmpty)) := by show _ = _; unfold Rec.fileOk; rw [gA, gB, gC, gT, gF, gE, gO]; rfl
  have HA := hide (within_at bA s.start 0 4294967295 gA)
  have HBq := hide (within_at bB s.size 0 4096 gB)
  have HCq := hide (within_at bC s.frag 0 1024 gC)
  have HT := hide (hasTail_at s bT gT)
  have HE := hide (within_at bE s.off 0 127 gE)
  rw [← hX] at HT ⊢
  clear hX hw1 hb1 gA gB gC gT gE
  unfold iv at HC
  have hcs : bA = false ∨ (bA = true ∧ bB = false) ∨ (bA = true ∧ bB = true ∧ bC = false) ∨ (bA = true ∧ bB = true ∧ bC = true ∧ bT = false ∧ bF = true) ∨ (bA = true ∧ bB = true ∧ bC = true ∧ bT = true ∧ bF = false) ∨ (bA = true ∧ bB = true ∧ bC = true ∧ bT = false ∧ bF = false ∧ bE = false) ∨ (bA = true ∧ bB = true ∧ bC = true ∧ bT = true ∧ bF = true ∧ bE = false) ∨ (bA = true ∧ bB = true ∧ bC = true ∧ bT = false ∧ bF = false ∧ bE = true ∧ bO = false) ∨ (bA = true ∧ bB = true ∧ bC = true ∧ bT = false ∧ bF = false ∧ bE = true ∧ bO = true) ∨ (bA = true ∧ bB = true ∧ bC = true ∧ bT = true ∧ bF = true ∧ bE = true ∧ bO = false) ∨ (bA = true ∧ bB = true ∧ bC = true ∧ bT = true ∧ bF = true ∧ bE = true ∧ bO = true) := by
    cases bA <;> cases bB <;> cases bC <;> cases bT <;> cases bF <;> cases bE <;> cases bO <;> simp
  go_enter Tryz.func182, Tryz.ntmps182
  go_wp2_with fail
  rw [← HW1.out]
  rcases hcs with rfl | ⟨rfl, rfl⟩ | ⟨rfl, rfl, rfl⟩ | ⟨rfl, rfl, rfl, rfl, rfl⟩ | ⟨rfl, rfl, rfl, rfl, rfl⟩ | ⟨rfl, rfl, rfl, rfl, rfl, rfl⟩ | ⟨rfl, rfl, rfl, rfl, rfl, rfl⟩ | ⟨rfl, rfl, rfl, rfl, rfl, rfl, rfl⟩ | ⟨rfl, rfl, rfl, rfl, rfl, rfl, rfl⟩ | ⟨rfl, rfl, rfl, rfl, rfl, rfl, rfl⟩ | ⟨rfl, rfl, rfl, rfl, rfl, rfl, rfl⟩
  all_goals
    refine wp_region_held_drew (S := fun wX => Below w1.heap.size w1 wX) (by kernel_rfl) (Below.refl _ _).drew (fun hHeld => ?_)
    (refine wpAnyH_take (i := 0) (oi := ⟨some 3, _, _, _, _, _⟩) (v := ?_) rfl (by kernel_rfl) (by kernel_rfl) (by kernel_rfl) (fun _ _ _ h => h) (Or.inl ⟨?_, ?_⟩) (by assumption) ?_; rotate_left; (focus rfl); (focus (intro w hSw; go_simp; try with_reducible rfl)))
    try simp only [Act.put, List.setIfInBounds_toArray, List.set_cons_zero, List.set_cons_succ]
    (refine wpAnyH_take (i := 1) (oi := ⟨some 4, _, _, _, _, _⟩) (v := ?_) rfl (by kernel_rfl) (by kernel_rfl) (by kernel_rfl) (fun _ _ _ h => h) (Or.inl ⟨?_, ?_⟩) (by assumption) ?_; rotate_left; (focus rfl); (focus (intro w hSw; have ck := HC.out w hSw 6; go_simp; try with_reducible rfl)))
    try simp only [Act.put, List.setIfInBounds_toArray, List.set_cons_zero, List.set_cons_succ]
    refine wpAnyH_ready (rs := [2]) (by kernel_rfl) (by simp) ?_
    refine AllReadyH.cons (o := ⟨some 5, _, _, _, _, _⟩) rfl (fun K hK => ?_) AllReadyH.nil
    go_simp
    first
      | (refine hK.out _ _ hHeld (fun hHeld => ?_); clear hK K)
      | (refine (HA.out _).mono ?_; rintro r wx ⟨rfl, bX⟩; have hbX : Below w1.heap.size w1 wx := hHeld.trans (bX.mono hHeld.size); clear bX; refine hK.out _ _ hbX (fun hHeld => ?_); clear hK K hbX)
    try simp only [Act.put, List.setIfInBounds_toArray, List.set_cons_zero, List.set_cons_succ]
    (refine wpAnyH_take (i := 3) (oi := ⟨some 6, _, _, _, _, _⟩) (v := ?_) rfl (by kernel_rfl) (by kernel_rfl) (by kernel_rfl) (fun _ _ _ h => h) (Or.inl ⟨?_, ?_⟩) (by assumption) ?_; rotate_left; (focus rfl); (focus (intro w hSw; go_simp; try with_reducible rfl)))
    try simp only [Act.put, List.setIfInBounds_toArray, List.set_cons_zero, List.set_cons_succ]
    first | (refine wpAnyH_take (i := 4) (oi := ⟨some 7, _, _, _, _, _⟩) (v := undef) rfl (by kernel_rfl) (by kernel_rfl) (by kernel_rfl) (fun _ _ _ h => h) (Or.inr ⟨?_, rfl⟩) (by assumption) ?_; (focus rfl)) | (refine wpAnyH_take (i := 4) (oi := ⟨some 7, _, _, _, _, _⟩) (v := ?_) rfl (by kernel_rfl) (by kernel_rfl) (by kernel_rfl) (fun _ _ _ h => h) (Or.inl ⟨?_, ?_⟩) (by assumption) ?_; rotate_left; (focus rfl); (focus (intro w hSw; go_simp; try with_reducible rfl)))
    try simp only [Act.put, List.setIfInBounds_toArray, List.set_cons_zero, List.set_cons_succ]
    first | (refine wpAnyH_take (i := 5) (oi := ⟨some 8, _, _, _, _, _⟩) (v := undef) rfl (by kernel_rfl) (by kernel_rfl) (by kernel_rfl) (fun _ _ _ h => h) (Or.inr ⟨?_, rfl⟩) (by assumption) ?_; (focus rfl)) | (refine wpAnyH_take (i := 5) (oi := ⟨some 8, _, _, _, _, _⟩) (v := ?_) rfl (by kernel_rfl) (by kernel_rfl) (by kernel_rfl) (fun _ _ _ h => h) (Or.inl ⟨?_, ?_⟩) (by assumption) ?_; rotate_left; (focus rfl); (focus (intro w hSw; have ck := HC.out w hSw 7; go_simp; try with_reducible rfl)))
    try simp only [Act.put, List.setIfInBounds_toArray, List.set_cons_zero, List.set_cons_succ]
    refine wpAnyH_ready (rs := [6]) (by kernel_rfl) (by simp) ?_
    refine AllReadyH.cons (o := ⟨some 9, _, _, _, _, _⟩) rfl (fun K hK => ?_) AllReadyH.nil
    go_simp
    first
      | (refine hK.out _ _ hHeld (fun hHeld => ?_); clear hK K)
      | (refine (HBq.out _).mono ?_; rintro r wx ⟨rfl, bX⟩; have hbX : Below w1.heap.size w1 wx := hHeld.trans (bX.mono hHeld.size); clear bX; refine hK.out _ _ hbX (fun hHeld => ?_); clear hK K hbX)
    try simp only [Act.put, List.setIfInBounds_toArray, List.set_cons_zero, List.set_cons_succ]
    (refine wpAnyH_take (i := 7) (oi := ⟨some 10, _, _, _, _, _⟩) (v := ?_) rfl (by kernel_rfl) (by kernel_rfl) (by kernel_rfl) (fun _ _ _ h => h) (Or.inl ⟨?_, ?_⟩) (by assumption) ?_; rotate_left; (focus rfl); (focus (intro w hSw; go_simp; try with_reducible rfl)))
    try simp only [Act.put, List.setIfInBounds_toArray, List.set_cons_zero, List.set_cons_succ]
    (refine wpAnyH_take (i := 8) (oi := ⟨some 11, _, _, _, _, _⟩) (v := ?_) rfl (by kernel_rfl) (by kernel_rfl) (by kernel_rfl) (fun _ _ _ h => h) (Or.inl ⟨?_, ?_⟩) (by assumption) ?_; rotate_left; (focus rfl); (focus (intro w hSw; go_simp; try with_reducible rfl)))
    try simp only [Act.put, List.setIfInBounds_toArray, List.set_cons_zero, List.set_cons_succ]
    first | (refine wpAnyH_take (i := 9) (oi := ⟨some 12, _, _, _, _, _⟩) (v := undef) rfl (by kernel_rfl) (by kernel_rfl) (by kernel_rfl) (fun _ _ _ h => h) (Or.inr ⟨?_, rfl⟩) (by assumption) ?_; (focus rfl)) | (refine wpAnyH_take (i := 9) (oi := ⟨some 12, _, _, _, _, _⟩) (v := ?_) rfl (by kernel_rfl) (by kernel_rfl) (by kernel_rfl) (fun _ _ _ h => h) (Or.inl ⟨?_, ?_⟩) (by assumption) ?_; rotate_left; (focus rfl); (focus (intro w hSw; go_simp; try with_reducible rfl)))
    try simp only [Act.put, List.setIfInBounds_toArray, List.set_cons_zero, List.set_cons_succ]
    first | (refine wpAnyH_take (i := 10) (oi := ⟨some 13, _, _, _, _, _⟩) (v := undef) rfl (by kernel_rfl) (by kernel_rfl) (by kernel_rfl) (fun _ _ _ h => h) (Or.inr ⟨?_, rfl⟩) (by assumption) ?_; (focus rfl)) | (refine wpAnyH_take (i := 10) (oi := ⟨some 13, _, _, _, _, _⟩) (v := ?_) rfl (by kernel_rfl) (by kernel_rfl) (by kernel_rfl) (fun _ _ _ h => h) (Or.inl ⟨?_, ?_⟩) (by assumption) ?_; rotate_left; (focus rfl); (focus (intro w hSw; have ck := HC.out w hSw 8; go_simp; try with_reducible rfl)))
    try simp only [Act.put, List.setIfInBounds_toArray, List.set_cons_zero, List.set_cons_succ]
    refine wpAnyH_ready (rs := [11]) (by kernel_rfl) (by simp) ?_
    refine AllReadyH.cons (o := ⟨some 14, _, _, _, _, _⟩) rfl (fun K hK => ?_) AllReadyH.nil
    go_simp
    first
      | (refine hK.out _ _ hHeld (fun hHeld => ?_); clear hK K)
      | (refine (HCq.out _).mono ?_; rintro r wx ⟨rfl, bX⟩; have hbX : Below w1.heap.size w1 wx := hHeld.trans (bX.mono hHeld.size); clear bX; refine hK.out _ _ hbX (fun hHeld => ?_); clear hK K hbX)
    try simp only [Act.put, List.setIfInBounds_toArray, List.set_cons_zero, List.set_cons_succ]
    (refine wpAnyH_take (i := 12) (oi := ⟨some 15, _, _, _, _, _⟩) (v := ?_) rfl (by kernel_rfl) (by kernel_rfl) (by kernel_rfl) (fun _ _ _ h => h) (Or.inl ⟨?_, ?_⟩) (by assumption) ?_; rotate_left; (focus rfl); (focus (intro w hSw; go_simp; try with_reducible rfl)))
    try simp only [Act.put, List.setIfInBounds_toArray, List.set_cons_zero, List.set_cons_succ]
    (refine wpAnyH_take (i := 13) (oi := ⟨some 16, _, _, _, _, _⟩) (v := ?_) rfl (by kernel_rfl) (by kernel_rfl) (by kernel_rfl) (fun _ _ _ h => h) (Or.inl ⟨?_, ?_⟩) (by assumption) ?_; rotate_left; (focus rfl); (focus (intro w hSw; go_simp; try with_reducible rfl)))
    try simp only [Act.put, List.setIfInBounds_toArray, List.set_cons_zero, List.set_cons_succ]
    first | (refine wpAnyH_take (i := 14) (oi := ⟨some 17, _, _, _, _, _⟩) (v := undef) rfl (by kernel_rfl) (by kernel_rfl) (by kernel_rfl) (fun _ _ _ h => h) (Or.inr ⟨?_, rfl⟩) (by assumption) ?_; (focus rfl)) | (refine wpAnyH_take (i := 14) (oi := ⟨some 17, _, _, _, _, _⟩) (v := .agg X) rfl (by kernel_rfl) (by kernel_rfl) (by kernel_rfl) (fun _ _ _ h => h) (yieldsIf_load_row ?_ _ _ rfl w.heap.size rfl X (fun w' h' => load_rec (HX.out w' h') hXs)) (by assumption) ?_; (focus rfl))
    try simp only [Act.put, List.setIfInBounds_toArray, List.set_cons_zero, List.set_cons_succ]
    first | (refine wpAnyH_take (i := 16) (oi := ⟨some 19, _, _, _, _, _⟩) (v := undef) rfl (by kernel_rfl) (by kernel_rfl) (by kernel_rfl) (fun _ _ _ h => h) (Or.inr ⟨?_, rfl⟩) (by assumption) ?_; (focus rfl)) | (refine wpAnyH_take (i := 16) (oi := ⟨some 19, _, _, _, _, _⟩) (v := ?_) rfl (by kernel_rfl) (by kernel_rfl) (by kernel_rfl) (fun _ _ _ h => h) (Or.inl ⟨?_, ?_⟩) (by assumption) ?_; rotate_left; (focus rfl); (focus (intro w hSw; go_simp; try with_reducible rfl)))
    try simp only [Act.put, List.setIfInBounds_toArray, List.set_cons_zero, List.set_cons_succ]
    first | (refine wpAnyH_take (i := 17) (oi := ⟨some 20, _, _, _, _, _⟩) (v := undef) rfl (by kernel_rfl) (by kernel_rfl) (by kernel_rfl) (fun _ _ _ h => h) (Or.inr ⟨?_, rfl⟩) (by assumption) ?_; (focus rfl)) | (refine wpAnyH_take (i := 17) (oi := ⟨some 20, _, _, _, _, _⟩) (v := ?_) rfl (by kernel_rfl) (by kernel_rfl) (by kernel_rfl) (fun _ _ _ h => h) (Or.inl ⟨?_, ?_⟩) (by assumption) ?_; rotate_left; (focus rfl); (focus (intro w hSw; have ck := HC.out w hSw 8; go_simp; try with_reducible rfl)))
    try simp only [Act.put, List.setIfInBounds_toArray, List.set_cons_zero, List.set_cons_succ]
    first | (refine wpAnyH_take (i := 18) (oi := ⟨some 21, _, _, _, _, _⟩) (v := undef) rfl (by kernel_rfl) (by kernel_rfl) (by kernel_rfl) (fun _ _ _ h => h) (Or.inr ⟨?_, rfl⟩) (by assumption) ?_; (focus rfl)) | (refine wpAnyH_take (i := 18) (oi := ⟨some 21, _, _, _, _, _⟩) (v := ?_) rfl (by kernel_rfl) (by kernel_rfl) (by kernel_rfl) (fun _ _ _ h => h) (Or.inl ⟨?_, ?_⟩) (by assumption) ?_; rotate_left; (focus rfl); (focus (intro w hSw; go_simp; try with_reducible rfl)))
    try simp only [Act.put, List.setIfInBounds_toArray, List.set_cons_zero, List.set_cons_succ]
    refine wpAnyH_ready (rs := [15]) (by kernel_rfl) (by simp) ?_
    refine AllReadyH.cons (o := ⟨some 18, _, _, _, _, _⟩) rfl (fun K hK => ?_) AllReadyH.nil
    go_simp
    first
      | (refine hK.out _ _ hHeld (fun hHeld => ?_); clear hK K)
      | (refine (HT.out _).mono ?_; rintro r wx ⟨rfl, bX⟩; have hbX : Below w1.heap.size w1 wx := hHeld.trans (bX.mono hHeld.size); clear bX; refine hK.out _ _ hbX (fun hHeld => ?_); clear hK K hbX)
    try simp only [Act.put, List.setIfInBounds_toArray, List.set_cons_zero, List.set_cons_succ]
    first | (refine wpAnyH_take (i := 19) (oi := ⟨some 22, _, _, _, _, _⟩) (v := undef) rfl (by kernel_rfl) (by kernel_rfl) (by kernel_rfl) (fun _ _ _ h => h) (Or.inr ⟨?_, rfl⟩) (by assumption) ?_; (focus rfl)) | (refine wpAnyH_take (i := 19) (oi := ⟨some 22, _, _, _, _, _⟩) (v := ?_) rfl (by kernel_rfl) (by kernel_rfl) (by kernel_rfl) (fun _ _ _ h => h) (Or.inl ⟨?_, ?_⟩) (by assumption) ?_; rotate_left; (focus rfl); (focus (intro w hSw; go_simp; try with_reducible rfl)))
    try simp only [Act.put, List.setIfInBounds_toArray, List.set_cons_zero, List.set_cons_succ]
    (refine wpAnyH_take (i := 20) (oi := ⟨some 23, _, _, _, _, _⟩) (v := ?_) rfl (by kernel_rfl) (by kernel_rfl) (by kernel_rfl) (fun _ _ _ h => h) (Or.inl ⟨?_, ?_⟩) (by assumption) ?_; rotate_left; (focus rfl); (focus (intro w hSw; go_simp; try with_reducible rfl)))
    try simp only [Act.put, List.setIfInBounds_toArray, List.set_cons_zero, List.set_cons_succ]
    (refine wpAnyH_take (i := 21) (oi := ⟨some 24, _, _, _, _, _⟩) (v := ?_) rfl (by kernel_rfl) (by kernel_rfl) (by kernel_rfl) (fun _ _ _ h => h) (Or.inl ⟨?_, ?_⟩) (by assumption) ?_; rotate_left; (focus rfl); (focus (intro w hSw; go_simp; try with_reducible rfl)))
    try simp only [Act.put, List.setIfInBounds_toArray, List.set_cons_zero, List.set_cons_succ]
    first | (refine wpAnyH_take (i := 22) (oi := ⟨some 25, _, _, _, _, _⟩) (v := undef) rfl (by kernel_rfl) (by kernel_rfl) (by kernel_rfl) (fun _ _ _ h => h) (Or.inr ⟨?_, rfl⟩) (by assumption) ?_; (focus rfl)) | (refine wpAnyH_take (i := 22) (oi := ⟨some 25, _, _, _, _, _⟩) (v := ?_) rfl (by kernel_rfl) (by kernel_rfl) (by kernel_rfl) (fun _ _ _ h => h) (Or.inl ⟨?_, ?_⟩) (by assumption) ?_; rotate_left; (focus rfl); (focus (intro w hSw; go_simp; try with_reducible rfl)))
    try simp only [Act.put, List.setIfInBounds_toArray, List.set_cons_zero, List.set_cons_succ]
    first | (refine wpAnyH_take (i := 23) (oi := ⟨some 26, _, _, _, _, _⟩) (v := undef) rfl (by kernel_rfl) (by kernel_rfl) (by kernel_rfl) (fun _ _ _ h => h) (Or.inr ⟨?_, rfl⟩) (by assumption) ?_; (focus rfl)) | (refine wpAnyH_take (i := 23) (oi := ⟨some 26, _, _, _, _, _⟩) (v := ?_) rfl (by kernel_rfl) (by kernel_rfl) (by kernel_rfl) (fun _ _ _ h => h) (Or.inl ⟨?_, ?_⟩) (by assumption) ?_; rotate_left; (focus rfl); (focus (intro w hSw; have ck := HC.out w hSw 9; go_simp; try with_reducible rfl)))
    try simp only [Act.put, List.setIfInBounds_toArray, List.set_cons_zero, List.set_cons_succ]
    refine wpAnyH_ready (rs := [24]) (by kernel_rfl) (by simp) ?_
    refine AllReadyH.cons (o := ⟨some 27, _, _, _, _, _⟩) rfl (fun K hK => ?_) AllReadyH.nil
    go_simp
    first
      | (refine hK.out _ _ hHeld (fun hHeld => ?_); clear hK K)
      | (refine (HE.out _).mono ?_; rintro r wx ⟨rfl, bX⟩; have hbX : Below w1.heap.size w1 wx := hHeld.trans (bX.mono hHeld.size); clear bX; refine hK.out _ _ hbX (fun hHeld => ?_); clear hK K hbX)
    try simp only [Act.put, List.setIfInBounds_toArray, List.set_cons_zero, List.set_cons_succ]
    (refine wpAnyH_take (i := 25) (oi := ⟨some 28, _, _, _, _, _⟩) (v := ?_) rfl (by kernel_rfl) (by kernel_rfl) (by kernel_rfl) (fun _ _ _ h => h) (Or.inl ⟨?_, ?_⟩) (by assumption) ?_; rotate_left; (focus rfl); (focus (intro w hSw; go_simp; try with_reducible rfl)))
    try simp only [Act.put, List.setIfInBounds_toArray, List.set_cons_zero, List.set_cons_succ]
    (refine wpAnyH_take (i := 26) (oi := ⟨some 29, _, _, _, _, _⟩) (v := ?_) rfl (by kernel_rfl) (by kernel_rfl) (by kernel_rfl) (fun _ _ _ h => h) (Or.inl ⟨?_, ?_⟩) (by assumption) ?_; rotate_left; (focus rfl); (focus (intro w hSw; go_simp; try with_reducible rfl)))
    try simp only [Act.put, List.setIfInBounds_toArray, List.set_cons_zero, List.set_cons_succ]
    first | (refine wpAnyH_take (i := 27) (oi := ⟨some 30, _, _, _, _, _⟩) (v := undef) rfl (by kernel_rfl) (by kernel_rfl) (by kernel_rfl) (fun _ _ _ h => h) (Or.inr ⟨?_, rfl⟩) (by assumption) ?_; (focus rfl)) | (refine wpAnyH_take (i := 27) (oi := ⟨some 30, _, _, _, _, _⟩) (v := ?_) rfl (by kernel_rfl) (by kernel_rfl) (by kernel_rfl) (fun _ _ _ h => h) (Or.inl ⟨?_, ?_⟩) (by assumption) ?_; rotate_left; (focus rfl); (focus (intro w hSw; go_simp; try with_reducible rfl)))
    try simp only [Act.put, List.setIfInBounds_toArray, List.set_cons_zero, List.set_cons_succ]
    first | (refine wpAnyH_take (i := 28) (oi := ⟨some 31, _, _, _, _, _⟩) (v := undef) rfl (by kernel_rfl) (by kernel_rfl) (by kernel_rfl) (fun _ _ _ h => h) (Or.inr ⟨?_, rfl⟩) (by assumption) ?_; (focus rfl)) | (refine wpAnyH_take (i := 28) (oi := ⟨some 31, _, _, _, _, _⟩) (v := ?_) rfl (by kernel_rfl) (by kernel_rfl) (by kernel_rfl) (fun _ _ _ h => h) (Or.inl ⟨?_, ?_⟩) (by assumption) ?_; rotate_left; (focus rfl); (focus (intro w hSw; have ck := HC.out w hSw 9; go_simp; try with_reducible rfl)))
    try simp only [Act.put, List.setIfInBounds_toArray, List.set_cons_zero, List.set_cons_succ]
    first | (refine wpAnyH_take (i := 29) (oi := ⟨some 32, _, _, _, _, _⟩) (v := undef) rfl (by kernel_rfl) (by kernel_rfl) (by kernel_rfl) (fun _ _ _ h => h) (Or.inr ⟨?_, rfl⟩) (by assumption) ?_; (focus rfl)) | (refine wpAnyH_take (i := 29) (oi := ⟨some 32, _, _, _, _, _⟩) (v := ?_) rfl (by kernel_rfl) (by kernel_rfl) (by kernel_rfl) (fun _ _ _ h => h) (Or.inl ⟨?_, ?_⟩) (by assumption) ?_; rotate_left; (focus rfl); (focus (intro w hSw; go_simp; try with_reducible rfl)))
    try simp only [Act.put, List.setIfInBounds_toArray, List.set_cons_zero, List.set_cons_succ]
    first | (refine wpAnyH_take (i := 30) (oi := ⟨some 33, _, _, _, _, _⟩) (v := undef) rfl (by kernel_rfl) (by kernel_rfl) (by kernel_rfl) (fun _ _ _ h => h) (Or.inr ⟨?_, rfl⟩) (by assumption) ?_; (focus rfl)) | (refine wpAnyH_take (i := 30) (oi := ⟨some 33, _, _, _, _, _⟩) (v := ?_) rfl (by kernel_rfl) (by kernel_rfl) (by kernel_rfl) (fun _ _ _ h => h) (Or.inl ⟨?_, ?_⟩) (by assumption) ?_; rotate_left; (focus rfl); (focus (intro w hSw; go_simp; try with_reducible rfl)))
    try simp only [Act.put, List.setIfInBounds_toArray, List.set_cons_zero, List.set_cons_succ]
    first | (refine wpAnyH_take (i := 31) (oi := ⟨some 34, _, _, _, _, _⟩) (v := undef) rfl (by kernel_rfl) (by kernel_rfl) (by kernel_rfl) (fun _ _ _ h => h) (Or.inr ⟨?_, rfl⟩) (by assumption) ?_; (focus rfl)) | (refine wpAnyH_take (i := 31) (oi := ⟨some 34, _, _, _, _, _⟩) (v := ?_) rfl (by kernel_rfl) (by kernel_rfl) (by kernel_rfl) (fun _ _ _ h => h) (Or.inl ⟨?_, ?_⟩) (by assumption) ?_; rotate_left; (focus rfl); (focus (intro w hSw; go_simp; try with_reducible rfl)))
    try simp only [Act.put, List.setIfInBounds_toArray, List.set_cons_zero, List.set_cons_succ]
    first | (refine wpAnyH_take (i := 32) (oi := ⟨some 35, _, _, _, _, _⟩) (v := undef) rfl (by kernel_rfl) (by kernel_rfl) (by kernel_rfl) (fun _ _ _ h => h) (Or.inr ⟨?_, rfl⟩) (by assumption) ?_; (focus rfl)) | (refine wpAnyH_take (i := 32) (oi := ⟨some 35, _, _, _, _, _⟩) (v := ?_) rfl (by kernel_rfl) (by kernel_rfl) (by kernel_rfl) (fun _ _ _ h => h) (Or.inl ⟨?_, ?_⟩) (by assumption) ?_; rotate_left; (focus rfl); (focus (intro w hSw; have ck := HC.out w hSw 8; go_simp; try with_reducible rfl)))
    try simp only [Act.put, List.setIfInBounds_toArray, List.set_cons_zero, List.set_cons_succ]
    first | (refine wpAnyH_take (i := 33) (oi := ⟨some 36, _, _, _, _, _⟩) (v := undef) rfl (by kernel_rfl) (by kernel_rfl) (by kernel_rfl) (fun _ _ _ h => h) (Or.inr ⟨?_, rfl⟩) (by assumption) ?_; (focus rfl)) | (refine wpAnyH_take (i := 33) (oi := ⟨some 36, _, _, _, _, _⟩) (v := ?_) rfl (by kernel_rfl) (by kernel_rfl) (by kernel_rfl) (fun _ _ _ h => h) (Or.inl ⟨?_, ?_⟩) (by assumption) ?_; rotate_left; (focus rfl); (focus (intro w hSw; go_simp; try with_reducible rfl)))
    try simp only [Act.put, List.setIfInBounds_toArray, List.set_cons_zero, List.set_cons_succ]
    first | (refine wpAnyH_take (i := 34) (oi := ⟨some 37, _, _, _, _, _⟩) (v := undef) rfl (by kernel_rfl) (by kernel_rfl) (by kernel_rfl) (fun _ _ _ h => h) (Or.inr ⟨?_, rfl⟩) (by assumption) ?_; (focus rfl)) | (refine wpAnyH_take (i := 34) (oi := ⟨some 37, _, _, _, _, _⟩) (v := ?_) rfl (by kernel_rfl) (by kernel_rfl) (by kernel_rfl) (fun _ _ _ h => h) (Or.inl ⟨?_, ?_⟩) (by assumption) ?_; rotate_left; (focus rfl); (focus (intro w hSw; go_simp; try with_reducible rfl)))
    try simp only [Act.put, List.setIfInBounds_toArray, List.set_cons_zero, List.set_cons_succ]
    (refine wpAnyH_take (i := 35) (oi := ⟨some 38, _, _, _, _, _⟩) (v := ?_) rfl (by kernel_rfl) (by kernel_rfl) (by kernel_rfl) (fun _ _ _ h => h) (Or.inl ⟨?_, ?_⟩) (by assumption) ?_; rotate_left; (focus rfl); (focus (intro w hSw; go_simp; try with_reducible rfl)))
    try simp only [Act.put, List.setIfInBounds_toArray, List.set_cons_zero, List.set_cons_succ]
    (refine wpAnyH_take (i := 36) (oi := ⟨some 39, _, _, _, _, _⟩) (v := ?_) rfl (by kernel_rfl) (by kernel_rfl) (by kernel_rfl) (fun _ _ _ h => h) (Or.inl ⟨?_, ?_⟩) (by assumption) ?_; rotate_left; (focus rfl); (focus (intro w hSw; go_simp; try with_reducible rfl)))
    try simp only [Act.put, List.setIfInBounds_toArray, List.set_cons_zero, List.set_cons_succ]
    first | (refine wpAnyH_take (i := 37) (oi := ⟨some 40, _, _, _, _, _⟩) (v := undef) rfl (by kernel_rfl) (by kernel_rfl) (by kernel_rfl) (fun _ _ _ h => h) (Or.inr ⟨?_, rfl⟩) (by assumption) ?_; (focus rfl)) | (refine wpAnyH_take (i := 37) (oi := ⟨some 40, _, _, _, _, _⟩) (v := ?_) rfl (by kernel_rfl) (by kernel_rfl) (by kernel_rfl) (fun _ _ _ h => h) (Or.inl ⟨?_, ?_⟩) (by assumption) ?_; rotate_left; (focus rfl); (focus (intro w hSw; go_simp; try with_reducible rfl)))
    try simp only [Act.put, List.setIfInBounds_toArray, List.set_cons_zero, List.set_cons_succ]
    first | (refine wpAnyH_take (i := 38) (oi := ⟨some 41, _, _, _, _, _⟩) (v := undef) rfl (by kernel_rfl) (by kernel_rfl) (by kernel_rfl) (fun _ _ _ h => h) (Or.inr ⟨?_, rfl⟩) (by assumption) ?_; (focus rfl)) | (refine wpAnyH_take (i := 38) (oi := ⟨some 41, _, _, _, _, _⟩) (v := ?_) rfl (by kernel_rfl) (by kernel_rfl) (by kernel_rfl) (fun _ _ _ h => h) (Or.inl ⟨?_, ?_⟩) (by assumption) ?_; rotate_left; (focus rfl); (focus (intro w hSw; have ck := HC.out w hSw 10; go_simp; try with_reducible rfl)))
    try simp only [Act.put, List.setIfInBounds_toArray, List.set_cons_zero, List.set_cons_succ]
    first | (refine wpAnyH_take (i := 39) (oi := ⟨some 42, _, _, _, _, _⟩) (v := undef) rfl (by kernel_rfl) (by kernel_rfl) (by kernel_rfl) (fun _ _ _ h => h) (Or.inr ⟨?_, rfl⟩) (by assumption) ?_; (focus rfl)) | (refine wpAnyH_take (i := 39) (oi := ⟨some 42, _, _, _, _, _⟩) (v := ?_) rfl (by kernel_rfl) (by kernel_rfl) (by kernel_rfl) (fun _ _ _ h => h) (Or.inl ⟨?_, ?_⟩) (by assumption) ?_; rotate_left; (focus rfl); (focus (intro w hSw; go_simp; try with_reducible rfl)))
    try simp only [Act.put, List.setIfInBounds_toArray, List.set_cons_zero, List.set_cons_succ]
    (refine wpAnyH_take (i := 40) (oi := ⟨some 43, _, _, _, _, _⟩) (v := ?_) rfl (by kernel_rfl) (by kernel_rfl) (by kernel_rfl) (fun _ _ _ h => h) (Or.inl ⟨?_, ?_⟩) (by assumption) ?_; rotate_left; (focus rfl); (focus (intro w hSw; go_simp; try with_reducible rfl)))
    try simp only [Act.put, List.setIfInBounds_toArray, List.set_cons_zero, List.set_cons_succ]
    (refine wpAnyH_take (i := 41) (oi := ⟨some 2, _, _, _, _, _⟩) (v := ?_) rfl (by kernel_rfl) (by kernel_rfl) (by kernel_rfl) (fun _ _ _ h => h) (Or.inl ⟨?_, ?_⟩) (by assumption) ?_; rotate_left; (focus rfl); (focus (intro w hSw; go_simp; try with_reducible rfl)))
    try simp only [Act.put, List.setIfInBounds_toArray, List.set_cons_zero, List.set_cons_succ]
    refine wpAnyH_done (by kernel_rfl) ?_ _
    have HBf := hide (HB1.out.trans (hHeld.mono HB1.out.size))
    clear hHeld
    go_wp2
    go_ret
    exact ⟨ret_bool (by rw [HQ.out]; simp), HBf.out⟩
end Go.Proofs.YtchcejjoncihkaaGreatDoor

/- Layer 9: the functions of a kind; whether a record may be, by the program. -/
namespace Go.Proofs.YtchcejjoncihkaaGreatDoor
set_option linter.unusedVariables false
open Go.RowKit Go.Maps
open Cur
open Ino

namespace Ino
/-- A kind's functions, by their numbers. -/
def kv (f0 f1 f2 f3 : Nat) : Array Value := #[.func (.func f0) #[] #[], .func (.func f1) #[] #[], .func (.func f2) #[] #[], .func (.func f3) #[] #[]]
theorem infoKind : (Tryz.prog.info? 185).map (·.size) = some 4 := by kernel_rfl
theorem load_kind {w : World} {b t : Nat} {cs : Array Value} {fr : Nat × Nat} (h : w.heap[b]? = some (.cells cs t fr)) (hs : cs.size = 4) : (loadVar 185 ⟨b, 0, none⟩).run Tryz.prog w = .ok (.agg cs) w :=
  run_loadVar_row w b t 185 cs fr _ h Tryz.underlying185 rfl (by rw [hs]; exact infoKind)
theorem kv_one (a b c d : Nat) : (kv a b c d).all (·.oneCell') = true := by simp [kv, Value.oneCell']
/-- No functions. -/
def nf : Array Value := #[.nilFunc, .nilFunc, .nilFunc, .nilFunc]
theorem nf_one : nf.all (·.oneCell') = true := by simp [nf, Value.oneCell']
/-- Which functions a kind has. -/
structure Fns where
  may : Nat
  put : Nat
  take : Nat
  size : Nat
def kf (k : Int) : Fns := if k = 1 then ⟨178, 179, 180, 181⟩ else if k = 2 then ⟨182, 183, 184, 185⟩ else ⟨186, 187, 188, 189⟩
def Fns.v (f : Fns) : Array Value := kv f.may f.put f.take f.size
theorem kf_one : kf 1 = ⟨178, 179, 180, 181⟩ := rfl
theorem kf_two : kf 2 = ⟨182, 183, 184, 185⟩ := rfl
theorem kf_three : kf 3 = ⟨186, 187, 188, 189⟩ := rfl
end Ino
set_option maxRecDepth 100000 in
theorem kindOf_yes (k : Int) (w : World) (h : isKind k = true) : Calls Tryz.prog 122 #[.int .i64 k] w fun e w' => e = .returned (.tuple #[.agg (kf k).v, .bool true]) ∧ Below w.heap.size w w' := by
  rcases kinds h with rfl | rfl | rfl
  · rw [kf_one]
    go_enter Tryz.func122, Tryz.ntmps122
    go_wp2_with (refine wpList_store_row rfl _ _ _ rfl w.heap.size _ rfl rfl 185 _ (heap_alloc_new w _) infoKind rfl (kv_one _ _ _ _) ?_; rw [World.setRow_alloc_new])
    refine bodyPost_ret (v := .tuple #[.agg (kv _ _ _ _), .bool true]) ?_ rfl ⟨rfl, below_one _ _⟩
    exact results_cr2 (p := 2) (u := 3) rfl _ _ w.heap.size _ rfl (load_kind (heap_alloc_new w _) rfl)
  · rw [kf_two]
    go_enter Tryz.func122, Tryz.ntmps122
    go_wp2_with (refine wpList_store_row rfl _ _ _ rfl w.heap.size _ rfl rfl 185 _ (heap_alloc_new w _) infoKind rfl (kv_one _ _ _ _) ?_; rw [World.setRow_alloc_new])
    refine bodyPost_ret (v := .tuple #[.agg (kv _ _ _ _), .bool true]) ?_ rfl ⟨rfl, below_one _ _⟩
    exact results_cr2 (p := 2) (u := 3) rfl _ _ w.heap.size _ rfl (load_kind (heap_alloc_new w _) rfl)
  · rw [kf_three]
    go_enter Tryz.func122, Tryz.ntmps122
    go_wp2_with (refine wpList_store_row rfl _ _ _ rfl w.heap.size _ rfl rfl 185 _ (heap_alloc_new w _) infoKind rfl (kv_one _ _ _ _) ?_; rw [World.setRow_alloc_new])
    refine bodyPost_ret (v := .tuple #[.agg (kv _ _ _ _), .bool true]) ?_ rfl ⟨rfl, below_one _ _⟩
    exact results_cr2 (p := 2) (u := 3) rfl _ _ w.heap.size _ rfl (load_kind (heap_alloc_new w _) rfl)
set_option maxRecDepth 100000 in
theorem kindOf_no (k : Int) (w : World) (h : isKind k = false) : Calls Tryz.prog 122 #[.int .i64 k] w fun e w' => e = .returned (.tuple #[.agg nf, .bool false]) ∧ Below w.heap.size w w' := by
  unfold isKind at h
  simp only [decide_eq_false_iff_not, not_or] at h
  have h1 : (k == 1) = false := by simpa using h.1
  have h2 : (k == 2) = false := by simpa using h.2.1
  have h3 : (k == 3) = false := by simpa using h.2.2
  clear h
  go_enter Tryz.func122, Tryz.ntmps122
  go_wp2_with (refine wpList_store_row rfl _ _ _ rfl w.heap.size _ rfl rfl 185 _ (heap_alloc_new w _) infoKind rfl nf_one ?_; rw [World.setRow_alloc_new])
  refine bodyPost_ret (v := .tuple #[.agg nf, .bool false]) ?_ rfl ⟨rfl, below_one _ _⟩
  exact results_cr2 (p := 2) (u := 3) rfl _ _ w.heap.size _ rfl (load_kind (heap_alloc_new w _) rfl)
/-- What a kind's own function of what may be answers. -/
theorem kindMay (s : Rec) (h : isKind s.kind = true) : (∀ (args : Array Value) (w : World), (callFunc (kf s.kind).may args).run Tryz.prog w = .ok (.enter (kf s.kind).may args) w) ∧
    ∀ w, Calls Tryz.prog (kf s.kind).may #[.agg (iv s)] w fun e w' => e = .returned (.bool s.ownOk) ∧ Below w.heap.size w w' := by
  rcases kinds h with hk | hk | hk
  · rw [hk, kf_one]
    have e : s.ownOk = s.dirOk := by unfold Rec.ownOk; rw [if_pos hk]
    rw [e]
    exact ⟨enters 178 Tryz.func178 (by kernel_rfl) rfl, mayDir_any s⟩
  · rw [hk, kf_two]
    have e : s.ownOk = s.fileOk := by unfold Rec.ownOk; rw [if_neg (by omega), if_pos hk]
    rw [e]
    exact ⟨enters 182 Tryz.func182 (by kernel_rfl) rfl, mayFile_any s⟩
  · rw [hk, kf_three]
    have e : s.ownOk = s.linkOk := by unfold Rec.ownOk; rw [if_neg (by omega), if_neg (by omega), if_pos hk]
    rw [e]
    exact ⟨enters 186 Tryz.func186 (by kernel_rfl) rfl, mayLink_any s⟩
set_option maxRecDepth 100000 in
set_option maxHeartbeats 8000000 in
theorem May_any (s : Rec) (w : World) : Calls Tryz.prog 121 #[.agg (iv s)] w fun e w' => e = .returned (.bool s.may) ∧ Below w.heap.size w w' := by
  obtain ⟨w1, hw1⟩ : ∃ w1, w1 = w.alloc (.cells (iv s) 84) := ⟨_, rfl⟩
  have hb1 : w1.heap[w.heap.size]? = some (.cells (iv s) 84 (0, 0)) := by rw [hw1]; exact heap_new rfl
  have HC : Hid (∀ wX, Below w1.heap.size w1 wX → ∀ k, wX.cell? ⟨w.heap.size, k, none⟩ = (iv s)[k]?) := fun wX h k => by
    rw [cell_of_row _ _ _ _ _ _ ((h.block _ (heap_lt hb1)).trans hb1)]
  have HX : Hid (∀ wX, Below w1.heap.size w1 wX → wX.heap[w.heap.size]? = some (.cells (iv s) 84 (0, 0))) := fun wX h => (h.block _ (heap_lt hb1)).trans hb1
  have HB1 : Hid (Below w.heap.size w w1) := by rw [hw1]; exact below_one _ _
  have HW1 := hide hw1
  have hkm := kindMay s
  clear hw1 hb1
  unfold iv at HW1 ⊢
  cases hk : isKind s.kind
  case false =>
    have HM : Hid (s.may = false) := may_kind hk
    have HK := hide (kindOf_no s.kind w1 hk)
    clear hkm hk
    go_enter Tryz.func121, Tryz.ntmps121
    go_wp2_with fail
    rw [← HW1.out]
    refine HK.out.mono ?_
    rintro r w2 ⟨rfl, b2⟩
    have HB2 : Hid (Below w.heap.size w w2) := HB1.out.trans (b2.mono HB1.out.size)
    clear b2 HK
    go_wp2_with (refine wpList_store_row rfl _ _ _ rfl w2.heap.size nf rfl rfl 185 _ (heap_alloc_new w2 _) infoKind rfl nf_one ?_; rw [World.setRow_alloc_new])
    go_ret
    exact ⟨ret_bool HM.out.symm, HB2.out.alloc HB2.out.size _⟩
  case true =>
    obtain ⟨hen, hma⟩ := hkm hk
    have HK := hide (kindOf_yes s.kind w1 hk)
    have HMa := hide hma
    have HD : Hid (s.may = (inn s.mode 0 511 && inn s.uid 0 2047 && inn s.gid 0 2047 && inn s.links 1 1024 && inn s.xattr 0 4294967295 && s.ownOk)) := rfl
    generalize kf s.kind = f at *
    clear hkm hk hma
    go_enter Tryz.func121, Tryz.ntmps121
    go_wp2_with fail
    rw [← HW1.out]
    refine HK.out.mono ?_
    rintro r w2 ⟨rfl, b2⟩
    have HB2 : Hid (Below w.heap.size w w2) := HB1.out.trans (b2.mono HB1.out.size)
    obtain ⟨w3, hw3⟩ : ∃ w3, w3 = w2.alloc (.cells f.v 185) := ⟨_, rfl⟩
    have hb3 : Below w1.heap.size w1 w3 := by rw [hw3]; exact b2.alloc b2.size _
    have c1 : w3.cell? ⟨w.heap.size, 1, none⟩ = some (.int .i64 s.mode) := HC.out w3 hb3 1
    have c2 : w3.cell? ⟨w.heap.size, 2, none⟩ = some (.int .i64 s.uid) := HC.out w3 hb3 2
    have c3 : w3.cell? ⟨w.heap.size, 3, none⟩ = some (.int .i64 s.gid) := HC.out w3 hb3 3
    have c4 : w3.cell? ⟨w.heap.size, 4, none⟩ = some (.int .i64 s.links) := HC.out w3 hb3 4
    have c5 : w3.cell? ⟨w.heap.size, 5, none⟩ = some (.int .i64 s.xattr) := HC.out w3 hb3 5
    have hx3 := HX.out w3 hb3
    have hf3 : w3.heap[w2.heap.size]? = some (.cells f.v 185 (0, 0)) := by rw [hw3]; exact heap_new rfl
    have cf : w3.cell? ⟨w2.heap.size, 0, none⟩ = some (.func (.func f.may) #[] #[]) := by rw [cell_of_row _ _ _ _ _ _ hf3]; rfl
    have HB3 : Hid (Below w.heap.size w w3) := by rw [hw3]; exact HB2.out.alloc HB2.out.size _
    have HW3 := hide hw3
    clear b2 HK hw3 hb3 hf3
    go_wp2_with (first
      | (refine wpList_store_row rfl _ _ _ rfl w2.heap.size f.v rfl rfl 185 _ (heap_alloc_new w2 _) infoKind rfl (kv_one _ _ _ _) ?_; rw [World.setRow_alloc_new, ← HW3.out])
      | (go_at_call 177; refine (within_any _ _ _ _).mono ?_; rintro e w1 ⟨rfl, rfl⟩)
      | refine wpList_load_rec (by rfl) _ rfl w.heap.size rfl 84 (iv s) (0, 0) hx3 rfl ?_)
    rotate_left
    all_goals first
      | (go_ret; refine ⟨ret_bool ?_, HB3.out⟩; rw [HD.out]; simp [*]; done)
      | (refine (HMa.out _).mono ?_
         rintro r w5 ⟨rfl, b5⟩
         have HB5 : Hid (Below w.heap.size w w5) := HB3.out.trans (b5.mono HB3.out.size)
         clear b5
         go_wp2
         go_ret
         refine ⟨ret_bool ?_, HB5.out⟩
         rw [HD.out]
         simp [*])
end Go.Proofs.YtchcejjoncihkaaGreatDoor

/- Layer 9: Put, by the program. -/
namespace Go.Proofs.YtchcejjoncihkaaGreatDoor
set_option linter.unusedVariables false
open Go.RowKit Go.Maps
open Cur
open Ino

namespace Ino
theorem WrDone.below {W w w' : World} {p B : Nat} {v : Value} {s : St} (h : WrDone W w p B v s) (hb : Below w.heap.size w w') : WrDone W w' p B v s := by
  obtain ⟨v', h1, h2, h3⟩ := h
  exact ⟨v', h1.below hb, h2.then (Fr.of_below hb), h3⟩
theorem WrDone.from {w W w' : World} {p B : Nat} {v : Value} {s : St} (hb : Below w.heap.size w W) (h : WrDone W w' p B v s) : WrDone w w' p B v s :=
  WrDone.trans (Fr.of_below hb) (Lie.refl _ _) h
theorem WrDone.size {W w : World} {p B : Nat} {v : Value} {s : St} (h : WrDone W w p B v s) : W.heap.size ≤ w.heap.size := by
  obtain ⟨v', h1, h2, h3⟩ := h
  exact h2.size
end Ino
theorem num_done (W : World) (p B : Nat) (v : Value) (zs : List Int) (x m : Int) (n : Nat) (w : World) (h : WrDone W w p B v (zs, 0)) (hB : B ≤ W.heap.size) (hl : zs.length ≤ 1000) (hm : m = (n : Int)) (h1 : 1 ≤ n) (h4 : n ≤ 4) (h0 : 0 ≤ x) (hx : x < 256 ^ n) :
    Calls Tryz.prog 91 #[.pointer (some ⟨p, 0, none⟩), .int .i64 x, .int .i64 m] w fun r w' => r = .returned (.tuple #[]) ∧ WrDone W w' p B v (zs ++ by' n x, 0) := by
  have hs := WrDone.size h
  obtain ⟨v', k1, k2, k3⟩ := h
  have h5 : (256 : Int) ^ n ≤ 256 ^ 4 := pow256 h4
  refine (wNum_any p B v' x m (zs, 0) w k1 (by omega) (by simp; omega) (by omega) (by omega)).mono ?_
  rintro r w' ⟨rfl, hD⟩
  rw [wNum_ok zs m n x hm h1 h4 h0 hx] at hD
  exact ⟨rfl, WrDone.trans k2 k3 hD⟩
theorem text_done (W : World) (p B : Nat) (v : Value) (zs : List Int) (t : ByteArray) (w : World) (h : WrDone W w p B v (zs, 0)) (hB : B ≤ W.heap.size) (hl : zs.length ≤ 1000) (ht : t.size ≤ 255) :
    Calls Tryz.prog 176 #[.pointer (some ⟨p, 0, none⟩), .string t] w fun r w' => r = .returned (.tuple #[]) ∧ WrDone W w' p B v (zs ++ ((t.size : Int) :: sb t), 0) := by
  have hs := WrDone.size h
  obtain ⟨v', k1, k2, k3⟩ := h
  refine (wText_any p B v' t (zs, 0) w k1 (by omega) (by simp; omega) (by omega)).mono ?_
  rintro r w' ⟨rfl, hD⟩
  rw [wTxt_ok zs t ht] at hD
  exact ⟨rfl, WrDone.trans k2 k3 hD⟩
/-- What a kind's own function of writing does. -/
def IPuts (s : Rec) (fn : Nat) : Prop := ∀ (p B : Nat) (v : Value) (zs : List Int) (w : World), WrP w p B v (zs, 0) → B ≤ w.heap.size → zs.length ≤ 900 →
  Calls Tryz.prog fn #[.pointer (some ⟨p, 0, none⟩), .agg (iv s)] w fun r w' => r = .returned (.tuple #[]) ∧ WrDone w w' p B v (zs ++ ownB s, 0)
set_option maxRecDepth 100000 in
theorem putDir_any (s : Rec) (h : s.may = true) (hk : s.kind = 1) : IPuts s 179 := by
  intro p B v zs w hw hB hl
  obtain ⟨hk', h1, h2, h3, h4, h5, h6⟩ := may_facts h
  obtain ⟨d1, d2, d3, d4, d5, d6⟩ := dir_facts hk h6
  obtain ⟨w1, hw1⟩ : ∃ w1, w1 = w.alloc (.cells (iv s) 84) := ⟨_, rfl⟩
  have hb1 : w1.heap[w.heap.size]? = some (.cells (iv s) 84 (0, 0)) := by rw [hw1]; exact heap_new rfl
  have bel : Below w.heap.size w w1 := by rw [hw1]; exact below_one _ _
  have HR0 : Hid (WrDone w1 w1 p B v (zs, 0)) := (hw.below bel).refl
  have hBs : B ≤ w1.heap.size := Nat.le_trans hB bel.size
  have hpk : p < w.heap.size := hw.lt
  have hvk : ∀ k, v.ownBlock = some k → k < w.heap.size := by
    obtain ⟨ao, n, c, rfl, _, ho, _⟩ := hw
    intro k hk
    exact (ho.lt k hk).2
  have HC : Hid (∀ wX ys, WrDone w1 wX p B v (ys, 0) → ∀ k, wX.cell? ⟨w.heap.size, k, none⟩ = (iv s)[k]?) := fun wX ys h k => by
    obtain ⟨v', g1, g2, g3⟩ := h
    rw [g2.cell (q := ⟨w.heap.size, k, none⟩) (heap_lt hb1) (fun hx => by rcases hx with hx | hx; (have : w.heap.size = p := hx; omega); (have := hvk _ hx; simp at this))]
    exact cell_of_row _ _ _ _ _ _ hb1
  have HE : Hid (ownB s = by' 4 s.start ++ by' 4 s.size) := by show _ = _; unfold ownB; rw [if_pos hk]
  have HBel := hide bel
  have HW1 := hide hw1
  clear hw hb1 hw1 bel hvk h h6 h1 h2 h3 h4 h5 hk' hk d1 d4 d5 d6
  unfold iv at HW1 ⊢
  go_enter Tryz.func179, Tryz.ntmps179
  go_wp2_with fail
  rw [← HW1.out]
  refine (num_done w1 p B v (zs) s.start 4 4 w1 HR0.out hBs (by omega) rfl (by omega) (by omega) (by omega) (by omega)).mono ?_
  rintro r v1 ⟨rfl, hD⟩
  have HR1 := hide hD
  have c1 : v1.cell? ⟨w.heap.size, 7, none⟩ = some (.int .i64 s.size) := HC.out v1 _ hD 7
  clear hD HR0
  go_wp2_with fail
  refine (num_done w1 p B v (zs ++ by' 4 s.start) s.size 4 4 v1 HR1.out hBs (by simp [by_length]; omega) rfl (by omega) (by omega) (by omega) (by omega)).mono ?_
  rintro r v2 ⟨rfl, hD⟩
  have HR2 := hide hD
  clear hD HR1 c1
  go_wp2
  go_end0
  refine ⟨rfl, WrDone.from HBel.out ?_⟩
  have := HR2.out
  rw [HE.out]
  simpa using this
set_option maxRecDepth 100000 in
theorem putFile_any (s : Rec) (h : s.may = true) (hk : s.kind = 2) : IPuts s 183 := by
  intro p B v zs w hw hB hl
  obtain ⟨hk', h1, h2, h3, h4, h5, h6⟩ := may_facts h
  obtain ⟨d1, d2, d3, d4, d5⟩ := file_facts hk h6
  obtain ⟨w1, hw1⟩ : ∃ w1, w1 = w.alloc (.cells (iv s) 84) := ⟨_, rfl⟩
  have hb1 : w1.heap[w.heap.size]? = some (.cells (iv s) 84 (0, 0)) := by rw [hw1]; exact heap_new rfl
  have bel : Below w.heap.size w w1 := by rw [hw1]; exact below_one _ _
  have HR0 : Hid (WrDone w1 w1 p B v (zs, 0)) := (hw.below bel).refl
  have hBs : B ≤ w1.heap.size := Nat.le_trans hB bel.size
  have hpk : p < w.heap.size := hw.lt
  have hvk : ∀ k, v.ownBlock = some k → k < w.heap.size := by
    obtain ⟨ao, n, c, rfl, _, ho, _⟩ := hw
    intro k hk
    exact (ho.lt k hk).2
  have HC : Hid (∀ wX ys, WrDone w1 wX p B v (ys, 0) → ∀ k, wX.cell? ⟨w.heap.size, k, none⟩ = (iv s)[k]?) := fun wX ys h k => by
    obtain ⟨v', g1, g2, g3⟩ := h
    rw [g2.cell (q := ⟨w.heap.size, k, none⟩) (heap_lt hb1) (fun hx => by rcases hx with hx | hx; (have : w.heap.size = p := hx; omega); (have := hvk _ hx; simp at this))]
    exact cell_of_row _ _ _ _ _ _ hb1
  have HE : Hid (ownB s = by' 4 s.start ++ (by' 2 s.size ++ (by' 2 s.frag ++ by' 1 s.off))) := by show _ = _; unfold ownB; rw [if_neg (by omega), if_pos hk]
  have HBel := hide bel
  have HW1 := hide hw1
  clear hw hb1 hw1 bel hvk h h6 h1 h2 h3 h4 h5 hk' hk d5
  unfold iv at HW1 ⊢
  go_enter Tryz.func183, Tryz.ntmps183
  go_wp2_with fail
  rw [← HW1.out]
  refine (num_done w1 p B v (zs) s.start 4 4 w1 HR0.out hBs (by omega) rfl (by omega) (by omega) (by omega) (by omega)).mono ?_
  rintro r v1 ⟨rfl, hD⟩
  have HR1 := hide hD
  have c1 : v1.cell? ⟨w.heap.size, 7, none⟩ = some (.int .i64 s.size) := HC.out v1 _ hD 7
  clear hD HR0
  go_wp2_with fail
  refine (num_done w1 p B v (zs ++ by' 4 s.start) s.size 2 2 v1 HR1.out hBs (by simp [by_length]; omega) rfl (by omega) (by omega) (by omega) (by omega)).mono ?_
  rintro r v2 ⟨rfl, hD⟩
  have HR2 := hide hD
  have c2 : v2.cell? ⟨w.heap.size, 8, none⟩ = some (.int .i64 s.frag) := HC.out v2 _ hD 8
  clear hD HR1 c1
  go_wp2_with fail
  refine (num_done w1 p B v (zs ++ by' 4 s.start ++ by' 2 s.size) s.frag 2 2 v2 HR2.out hBs (by simp [by_length]; omega) rfl (by omega) (by omega) (by omega) (by omega)).mono ?_
  rintro r v3 ⟨rfl, hD⟩
  have HR3 := hide hD
  have c3 : v3.cell? ⟨w.heap.size, 9, none⟩ = some (.int .i64 s.off) := HC.out v3 _ hD 9
  clear hD HR2 c2
  go_wp2_with fail
  refine (num_done w1 p B v (zs ++ by' 4 s.start ++ by' 2 s.size ++ by' 2 s.frag) s.off 1 1 v3 HR3.out hBs (by simp [by_length]; omega) rfl (by omega) (by omega) (by omega) (by omega)).mono ?_
  rintro r v4 ⟨rfl, hD⟩
  have HR4 := hide hD
  clear hD HR3 c3
  go_wp2
  go_end0
  refine ⟨rfl, WrDone.from HBel.out ?_⟩
  have := HR4.out
  rw [HE.out]
  simpa using this
set_option maxRecDepth 100000 in
theorem putLink_any (s : Rec) (h : s.may = true) (hk : s.kind = 3) : IPuts s 187 := by
  intro p B v zs w hw hB hl
  obtain ⟨hk', h1, h2, h3, h4, h5, h6⟩ := may_facts h
  obtain ⟨d1, d2, d3, d4, d5⟩ := link_facts hk h6
  obtain ⟨w1, hw1⟩ : ∃ w1, w1 = w.alloc (.cells (iv s) 84) := ⟨_, rfl⟩
  have hb1 : w1.heap[w.heap.size]? = some (.cells (iv s) 84 (0, 0)) := by rw [hw1]; exact heap_new rfl
  have bel : Below w.heap.size w w1 := by rw [hw1]; exact below_one _ _
  have HR0 : Hid (WrDone w1 w1 p B v (zs, 0)) := (hw.below bel).refl
  have hBs : B ≤ w1.heap.size := Nat.le_trans hB bel.size
  have hpk : p < w.heap.size := hw.lt
  have hvk : ∀ k, v.ownBlock = some k → k < w.heap.size := by
    obtain ⟨ao, n, c, rfl, _, ho, _⟩ := hw
    intro k hk
    exact (ho.lt k hk).2
  have HC : Hid (∀ wX ys, WrDone w1 wX p B v (ys, 0) → ∀ k, wX.cell? ⟨w.heap.size, k, none⟩ = (iv s)[k]?) := fun wX ys h k => by
    obtain ⟨v', g1, g2, g3⟩ := h
    rw [g2.cell (q := ⟨w.heap.size, k, none⟩) (heap_lt hb1) (fun hx => by rcases hx with hx | hx; (have : w.heap.size = p := hx; omega); (have := hvk _ hx; simp at this))]
    exact cell_of_row _ _ _ _ _ _ hb1
  have HE : Hid (ownB s = (s.target.size : Int) :: sb s.target) := by show _ = _; unfold ownB; rw [if_neg (by omega), if_neg (by omega), if_pos hk]
  have HBel := hide bel
  have HW1 := hide hw1
  clear hw hb1 hw1 bel hvk h h6 h1 h2 h3 h4 h5 hk' hk d2 d3 d4 d5
  unfold iv at HW1 ⊢
  go_enter Tryz.func187, Tryz.ntmps187
  go_wp2_with fail
  rw [← HW1.out]
  refine (text_done w1 p B v (zs) s.target w1 HR0.out hBs (by omega) (by omega)).mono ?_
  rintro r v1 ⟨rfl, hD⟩
  have HR1 := hide hD
  clear hD HR0
  go_wp2
  go_end0
  refine ⟨rfl, WrDone.from HBel.out ?_⟩
  have := HR1.out
  rw [HE.out]
  simpa using this
theorem kindPut (s : Rec) (h : s.may = true) : (∀ (args : Array Value) (w : World), (callFunc (kf s.kind).put args).run Tryz.prog w = .ok (.enter (kf s.kind).put args) w) ∧ IPuts s (kf s.kind).put := by
  rcases kinds (kind_may h) with hk | hk | hk
  · rw [hk, kf_one]
    exact ⟨enters 179 Tryz.func179 (by kernel_rfl) rfl, putDir_any s h hk⟩
  · rw [hk, kf_two]
    exact ⟨enters 183 Tryz.func183 (by kernel_rfl) rfl, putFile_any s h hk⟩
  · rw [hk, kf_three]
    exact ⟨enters 187 Tryz.func187 (by kernel_rfl) rfl, putLink_any s h hk⟩
/-- What Put answers. -/
def PutAns (s : Rec) (w : World) (e : Ending) (w' : World) : Prop :=
  (s.may = true ∧ ∃ ao c, e = .returned (.tuple #[.slice ao (putB s).length c, .int .i64 0]) ∧ New w w' ao (putB s).length c (putB s)) ∨ (s.may = false ∧ e = .returned (.tuple #[.slice none 0 0, .int .i64 1]) ∧ Below w.heap.size w w')
set_option maxRecDepth 100000 in
set_option maxHeartbeats 16000000 in
theorem iPut_any (s : Rec) (w : World) : Calls Tryz.prog 62 #[.agg (iv s)] w fun e w' => PutAns s w e w' := by
  obtain ⟨w1, hw1⟩ : ∃ w1, w1 = w.alloc (.cells (iv s) 84) := ⟨_, rfl⟩
  have hb1 : w1.heap[w.heap.size]? = some (.cells (iv s) 84 (0, 0)) := by rw [hw1]; exact heap_new rfl
  have HB1 : Hid (Below w.heap.size w w1) := by rw [hw1]; exact below_one _ _
  have HMay := hide (May_any s w1)
  have HW1 := hide hw1
  have H1 := hide hb1
  clear hw1
  cases hq : s.may
  case false =>
    have HQ := hide hq
    rw [hq] at HMay
    clear hq hb1
    unfold iv at HW1 ⊢
    go_enter Tryz.func62, Tryz.ntmps62
    go_wp2_with fail
    rw [← HW1.out]
    refine HMay.out.mono ?_
    rintro r w2 ⟨rfl, b2⟩
    have HB2 : Hid (Below w.heap.size w w2) := HB1.out.trans (b2.mono HB1.out.size)
    clear b2 HMay
    go_wp2
    go_ret2
    exact .inr ⟨HQ.out, rfl, HB2.out⟩
  case true =>
    have HQ := hide hq
    rw [hq] at HMay
    obtain ⟨hen, hpu⟩ := kindPut s hq
    have HK := hide (fun w => kindOf_yes s.kind w (kind_may hq))
    have HP := hide hpu
    obtain ⟨hk, m1, m2, m3, m4, m5, m6⟩ := may_facts hq
    have hkk : 0 ≤ s.kind ∧ s.kind ≤ 3 := by have := kinds hk; omega
    generalize kf s.kind = f at *
    clear hq hb1 hpu hk m6
    unfold iv at HW1 ⊢
    go_enter Tryz.func62, Tryz.ntmps62
    go_wp2_with fail
    rw [← HW1.out]
    refine HMay.out.mono ?_
    rintro r w2 ⟨rfl, b2⟩
    have HB2 : Hid (Below w.heap.size w w2) := HB1.out.trans (b2.mono HB1.out.size)
    have h2 : w2.heap[w.heap.size]? = some (.cells (iv s) 84 (0, 0)) := (b2.block _ (heap_lt H1.out)).trans H1.out
    have hs2 := heap_lt h2
    obtain ⟨w3, hw3⟩ : ∃ w3, w3 = w2.alloc (.cells #[.slice none 0 0, .int .i64 0] 156) := ⟨_, rfl⟩
    have b23 : Below w2.heap.size w2 w3 := by rw [hw3]; exact below_one _ _
    have h3 : w3.heap[w.heap.size]? = some (.cells (iv s) 84 (0, 0)) := (b23.block _ hs2).trans h2
    have HB3 : Hid (Below w.heap.size w w3) := HB2.out.trans (b23.mono HB2.out.size)
    have s3 : w3.heap.size = w2.heap.size + 1 := by rw [hw3]; simp
    have HR0 : Hid (WrDone w3 w3 w2.heap.size w3.heap.size (.slice none 0 0) ([], 0)) := by
      refine WrP.refl ?_
      have := WrP.new w2 w3.heap.size
      rw [← hw3] at this
      exact this
    have HX : Hid (∀ wX ys, WrDone w3 wX w2.heap.size w3.heap.size (.slice none 0 0) (ys, 0) → wX.heap[w.heap.size]? = some (.cells (iv s) 84 (0, 0)) ∧ Below w.heap.size w wX) := fun wX ys h => by
      obtain ⟨v', g1, g2, g3⟩ := h
      refine ⟨(g2.block _ (heap_lt h3) (fun hx => by rcases hx with hx | hx; (have : w.heap.size = w2.heap.size := hx; omega); (simp [Value.ownBlock] at hx))).trans h3, ?_⟩
      have := g2.two_below (B := w2.heap.size) (by omega) (Nat.le_refl _) (fun k hk => by simp [Value.ownBlock] at hk)
      exact HB3.out.trans (this.mono HB2.out.size)
    have HC : Hid (∀ wX ys, WrDone w3 wX w2.heap.size w3.heap.size (.slice none 0 0) (ys, 0) → ∀ k, wX.cell? ⟨w.heap.size, k, none⟩ = (iv s)[k]?) := fun wX ys h k => cell_of_row _ _ _ _ _ _ (HX.out wX ys h).1
    have c0 : (w2.alloc (.cells #[.slice none 0 0, .int .i64 0] 156)).cell? ⟨w.heap.size, 0, none⟩ = some (.int .i64 s.kind) := by rw [← hw3]; exact HC.out w3 _ HR0.out 0
    have HW3 := hide hw3
    clear b2 HMay hw3 b23 h2 h3
    go_wp2_with fail
    rw [← HW3.out]
    refine (num_done w3 w2.heap.size w3.heap.size (.slice none 0 0) ([]) s.kind 1 1 w3 HR0.out (Nat.le_refl _) (by simp) rfl (by omega) (by omega) (by omega) (by omega)).mono ?_
    rintro r v1 ⟨rfl, hD⟩
    have HR1 := hide hD
    have c1 : v1.cell? ⟨w.heap.size, 1, none⟩ = some (.int .i64 s.mode) := HC.out v1 _ hD 1
    clear hD HR0 c0
    go_wp2_with fail
    refine (num_done w3 w2.heap.size w3.heap.size (.slice none 0 0) ([] ++ by' 1 s.kind) s.mode 2 2 v1 HR1.out (Nat.le_refl _) (by simp [by_length]) rfl (by omega) (by omega) (by omega) (by omega)).mono ?_
    rintro r v2 ⟨rfl, hD⟩
    have HR2 := hide hD
    have c2 : v2.cell? ⟨w.heap.size, 2, none⟩ = some (.int .i64 s.uid) := HC.out v2 _ hD 2
    clear hD HR1 c1
    go_wp2_with fail
    refine (num_done w3 w2.heap.size w3.heap.size (.slice none 0 0) ([] ++ by' 1 s.kind ++ by' 2 s.mode) s.uid 2 2 v2 HR2.out (Nat.le_refl _) (by simp [by_length]) rfl (by omega) (by omega) (by omega) (by omega)).mono ?_
    rintro r v3 ⟨rfl, hD⟩
    have HR3 := hide hD
    have c3 : v3.cell? ⟨w.heap.size, 3, none⟩ = some (.int .i64 s.gid) := HC.out v3 _ hD 3
    clear hD HR2 c2
    go_wp2_with fail
    refine (num_done w3 w2.heap.size w3.heap.size (.slice none 0 0) ([] ++ by' 1 s.kind ++ by' 2 s.mode ++ by' 2 s.uid) s.gid 2 2 v3 HR3.out (Nat.le_refl _) (by simp [by_length]) rfl (by omega) (by omega) (by omega) (by omega)).mono ?_
    rintro r v4 ⟨rfl, hD⟩
    have HR4 := hide hD
    have c4 : v4.cell? ⟨w.heap.size, 4, none⟩ = some (.int .i64 s.links) := HC.out v4 _ hD 4
    clear hD HR3 c3
    go_wp2_with fail
    refine (num_done w3 w2.heap.size w3.heap.size (.slice none 0 0) ([] ++ by' 1 s.kind ++ by' 2 s.mode ++ by' 2 s.uid ++ by' 2 s.gid) s.links 2 2 v4 HR4.out (Nat.le_refl _) (by simp [by_length]) rfl (by omega) (by omega) (by omega) (by omega)).mono ?_
    rintro r v5 ⟨rfl, hD⟩
    have HR5 := hide hD
    have c5 : v5.cell? ⟨w.heap.size, 5, none⟩ = some (.int .i64 s.xattr) := HC.out v5 _ hD 5
    clear hD HR4 c4
    go_wp2_with fail
    refine (num_done w3 w2.heap.size w3.heap.size (.slice none 0 0) ([] ++ by' 1 s.kind ++ by' 2 s.mode ++ by' 2 s.uid ++ by' 2 s.gid ++ by' 2 s.links) s.xattr 4 4 v5 HR5.out (Nat.le_refl _) (by simp [by_length]) rfl (by omega) (by omega) (by omega) (by omega)).mono ?_
    rintro r v6 ⟨rfl, hD⟩
    have HR6 := hide hD
    have c6 : v6.cell? ⟨w.heap.size, 0, none⟩ = some (.int .i64 s.kind) := HC.out v6 _ hD 0
    clear hD HR5 c5
    go_wp2_with fail
    refine (HK.out v6).mono ?_
    rintro r w4 ⟨rfl, b4⟩
    obtain ⟨w5, hw5⟩ : ∃ w5, w5 = w4.alloc (.cells f.v 185) := ⟨_, rfl⟩
    have b5 : Below v6.heap.size v6 w5 := by rw [hw5]; exact b4.alloc b4.size _
    have hR5 := WrDone.below HR6.out b5
    have hx5 := (HX.out w5 _ hR5).1
    have hf5 : w5.heap[w4.heap.size]? = some (.cells f.v 185 (0, 0)) := by rw [hw5]; exact heap_new rfl
    have cf : w5.cell? ⟨w4.heap.size, 1, none⟩ = some (.func (.func f.put) #[] #[]) := by rw [cell_of_row _ _ _ _ _ _ hf5]; rfl
    have HR5 := hide hR5
    have HW5 := hide hw5
    clear b4 hw5 b5 hf5 hR5 HR6 c6
    go_wp2_with (first
      | (refine wpList_store_row rfl _ _ _ rfl w4.heap.size f.v rfl rfl 185 _ (heap_alloc_new w4 _) infoKind rfl (kv_one _ _ _ _) ?_; rw [World.setRow_alloc_new, ← HW5.out])
      | refine wpList_load_rec (by rfl) _ rfl w.heap.size rfl 84 (iv s) (0, 0) hx5 rfl ?_)
    obtain ⟨v5, g1, g2, g3⟩ := HR5.out
    refine (HP.out w2.heap.size w3.heap.size v5 _ w5 g1 g2.size (by simp [by_length])).mono ?_
    rintro r w6 ⟨rfl, hD⟩
    have hR6 := WrDone.trans g2 g3 hD
    have eB : [] ++ by' 1 s.kind ++ by' 2 s.mode ++ by' 2 s.uid ++ by' 2 s.gid ++ by' 2 s.links ++ by' 4 s.xattr ++ ownB s = putB s := by simp [putB, headB]
    rw [eB] at hR6
    have HB6 : Hid (Below w.heap.size w w6) := (HX.out w6 _ hR6).2
    obtain ⟨v6', k1, k2, k3⟩ := hR6
    have HP6 := hide k1
    clear g1 g2 g3 hD k1 k2 k3 eB hx5 cf
    go_wp2_with fail
    refine (DoneNew_any w2.heap.size w3.heap.size v6' (putB s, 0) w6 HP6.out (by have := (putB_least HQ.out).2; simp; omega)).mono ?_
    rintro r w7 ⟨ao, c, rfl, hN⟩
    obtain ⟨ao7, n7, c7, hv7, hH7, h7⟩ := (HP6.out.below hN.bel).shape
    have HN := hide (hN.from HB6.out)
    have HE := hide (Err_any _ _ _ _ _ _ _ hH7)
    clear hN hv7 hH7 h7 HR5
    go_wp2_with fail
    refine HE.out.mono ?_
    rintro r w8 ⟨rfl, hw8⟩
    obtain rfl := hw8
    clear HE
    go_wp2
    go_ret2
    exact .inl ⟨HQ.out, ao, c, rfl, HN.out⟩
end Go.Proofs.YtchcejjoncihkaaGreatDoor

/- Layer 14: a record's own part by its kind. -/
namespace Go.Proofs.YtchcejjoncihkaaGreatDoor
set_option linter.unusedVariables false
open Go.RowKit Go.Maps
open Lz (g)
open Crc (ent)
open Frm Mtr Tre Nam Tab Bld

/-- What ofKind answers. -/
def KAns (x : Cx) (W0 : World) (O : Nat → Prop) (q : Ws × Ino.Rec) (w : World) (e : Ending) (w' : World) : Prop :=
  e = .returned (.agg (Ino.iv q.2)) ∧ ∃ O', RS x W0 w' O' q.1 ∧ Fr O w w' ∧ Gr O O' w
/-- The worlds behind the boxes at a function's head. -/
theorem two_boxes (w : World) (a b : Obj) : Below w.heap.size w ((w.alloc a).alloc b) ∧ ((w.alloc a).alloc b).heap[w.heap.size]? = some a ∧ ((w.alloc a).alloc b).heap[w.heap.size + 1]? = some b := by
  have h1 : Below w.heap.size w (w.alloc a) := (Below.refl _ w).alloc (Nat.le_refl _) a
  refine ⟨h1.alloc h1.size b, ?_, heap_new (by simp)⟩
  exact (Below.heap_alloc _ _ _ (by simp)).trans (heap_new (by simp))
set_option maxRecDepth 100000 in
set_option maxHeartbeats 4000000 in
theorem ofKind_any (x : Cx) (W0 : World) (f i : Nat) (O : Nat → Prop) (s : Ws) (w : World) (hs : Sta x W0) (hW : WrC x W0 f) (h : RS x W0 w O s) (hI : WI (nds x.L) s) (hi : i < x.n) (hf : 16 ≤ f + (gn (nds x.L) i).names.length) (v : Nv) (hv : v = (gl x.L i).1) :
    Calls Tryz.prog 58 #[.pointer (some ⟨x.rp, 0, none⟩), .agg v.cells] w (KAns x W0 O (okd (nds x.L) x.fm (wr (nds x.L) x.own x.fm f) i s) w) := by
  have hiL : i < x.L.length := by have := hs.ns.1; omega
  have hg := gn_nds x.L i hiL
  have hRp := (hs.ns.below h.bel).rep i hi
  rw [← hv, ← hg] at hRp
  have hkd := hRp.kind
  have HSt : Hid (∀ k, Stc x W0 k → k < w.heap.size) := fun k hk => h.slt hk
  by_cases hk1 : v.kind = 1
  · have e1 : (v.kind == 1) = true := by simpa using hk1
    obtain ⟨Z, hZ⟩ : ∃ Z, Z = kids (nds x.L) (wr (nds x.L) x.own x.fm f) (gn (nds x.L) i).names.length (kidsN (nds x.L) (gn (nds x.L) i).names) (s, []) := ⟨_, rfl⟩
    have HQ : Hid (okd (nds x.L) x.fm (wr (nds x.L) x.own x.fm f) i s = ({ Z.1 with D := Z.1.D ++ dp Z.2 }, { rec0 with start := (rfn Z.1.D : Nat), size := ((dp Z.2).length : Nat) })) := by
      show _ = _
      unfold okd; rw [if_pos (by rw [hkd]; exact hk1), ← hZ]
    rw [HQ.out]
    have hWI : WI (nds x.L) Z.1 := by
      rw [hZ]
      exact kids_inv _ _ (fun j hj s hs' => wr_inv hs.uno f j s (kidsN_mem.1 hj).1 hs') hI
    have hDl : (dp Z.2).length ≤ sm (nw (nds x.L)) (nds x.L).length := by
      have h2 := dp_len (nds x.L) (wr (nds x.L) x.own x.fm f) (gn (nds x.L) i).names.length (kidsN (nds x.L) (gn (nds x.L) i).names) (s, []) (fun j hj => (kidN_iff.1 (kidsN_mem.1 hj).2).1)
      rw [Dir.putB_nil, List.length_nil, Nat.zero_add, ← hZ] at h2
      have h3 := dw_le hs.nod (i := i) (by rw [nds_length]; exact hiL)
      rw [dw, if_pos (by rw [hkd]; exact hk1), ← h2] at h3
      unfold dp
      split
      · exact h3
      · exact Nat.zero_le _
    have hDb := hWI.bD hs.nod
    have hsm := hs.names_sum
    have hnm := hRp.names.1
    obtain ⟨b0, b1, b2⟩ := two_boxes w (.cells v.cells 37) (.cells (Ino.iv rec0) 84)
    obtain ⟨wA, hwA⟩ : ∃ wA, wA = (w.alloc (.cells v.cells 37)).alloc (.cells (Ino.iv rec0) 84) := ⟨_, rfl⟩
    rw [← hwA] at b0 b1 b2
    have hA := h.below b0
    have HL := hide (list_any x W0 f O s v.na v.nn v.nc (gn (nds x.L) i).names wA hs hW hA hI (by rw [← hnm]; exact hf) (hRp.names.below b0) hRp.nc hRp.ncm Z (by rw [← hnm]; exact hZ))
    have hlt := heap_lt b2
    have HN : Hid (¬ O (w.heap.size + 1)) := fun ho => by have := h.olt ho; omega
    have HA := hide hA
    have H0 := hide b0
    have HS := hide hs
    have hDb2 : Z.1.D.length ≤ 100000 := by omega
    have hDl2 : (dp Z.2).length ≤ 100000 := by omega
    unfold Nv.cells
    clear hs hW h hI hf hRp hkd hg hv hZ hWI hDl hDb hsm hnm hA b0 hk1
    go_enter Tryz.func58, Tryz.ntmps58
    go_wp2_with fail
    have eA : (w.alloc (Obj.cells #[.slice v.na v.nn v.nc, .int .i64 v.ino, .int .i64 v.kind, .int .i64 v.mode, .int .i64 v.uid, .int .i64 v.gid, .slice v.da v.dn v.dc, .string v.tg, .slice v.xa v.xn v.xc, .bool v.op] 37)).alloc (Obj.cells #[.int .i64 0, .int .i64 0, .int .i64 0, .int .i64 0, .int .i64 0, .int .i64 0, .int .i64 0, .int .i64 0, .int .i64 0, .int .i64 0, .string ⟨#[]⟩] 84) = wA := by rw [hwA]; rfl
    rw [eA]
    clear eA hwA
    refine HL.out.mono ?_
    rintro r w2 ⟨ao, c, O2, rfl, k1, k2, k3, k4, k5, k6⟩
    have hp2 : w2.heap[w.heap.size + 1]? = some (.cells (Ino.iv rec0) 84 (0, 0)) := (k5.block _ hlt HN.out).trans b2
    have hN2 : ¬ O2 (w.heap.size + 1) := fun ho => (k6 _ ho).elim HN.out (fun hx => by omega)
    have c4 : w2.cell? ⟨x.rp, 4, none⟩ = some (.pointer (some ⟨x.pd, 0, none⟩)) := by simp [World.cell?, k4.rc, rcv]
    obtain ⟨oi, od, ox, rfl, hR⟩ := k4
    obtain ⟨ht1, ht2⟩ := hR.tb HS.out
    have HAdd := hide (Add_any x.pd x.tb (dp Z.2).length c od ao ent Z.1.D (dp Z.2) w2 hR.wd ht1 ht2 (fun ho => (hR.dd _ ho).1 (.inl HS.out.tlt)) small_ent k1 k2 hDb2 hDl2)
    rw [rf_rfn] at HAdd
    have HR := hide hR
    have HF := hide ((Fr.of_below H0.out).then k5)
    have HG : Hid (Gr O (Ou x oi od ox) w) := fun k hk => (k6 k hk).imp id (fun h => Nat.le_trans H0.out.size h)
    generalize rfn Z.1.D = rx at *
    generalize (dp Z.2).length = dl at *
    clear hR k1 k2 k3 k5 k6 ht1 ht2 HL HA b1 b2 hlt
    go_wp2_with fail
    refine HAdd.out.mono ?_
    rintro r w3 ⟨rfl, od', hW3, hF3, hG3⟩
    have hp3 : w3.heap[w.heap.size + 1]? = some (.cells (Ino.iv rec0) 84 (0, 0)) := (hF3.block _ (heap_lt hp2) (fun ho => hN2 (.inr (.inl ho)))).trans hp2
    have HX : Hid (RS x W0 w3 (Ou x oi od' ox) { Z.1 with D := Z.1.D ++ dp Z.2 } ∧ Fr O w w3 ∧ Gr O (Ou x oi od' ox) w ∧ ¬ Ou x oi od' ox (w.heap.size + 1)) := by
      refine ⟨⟨oi, od', ox, rfl, HR.out.addD hW3 hF3 hG3⟩, HF.out.gr HG.out (hF3.mono (fun i _ hi => .inr (.inl hi))), HG.out.trans (Ou.gd hG3) HF.out.size, fun ho => ?_⟩
      rcases Ou.gd hG3 _ ho with ho | ho
      · exact hN2 ho
      · have := heap_lt hp2; omega
    clear hW3 hF3 hG3 HAdd HR HF HG c4 hp2 hN2
    go_wp2_with (refine wpList_store_row rfl _ _ _ rfl (w.heap.size + 1) (Ino.iv { rec0 with start := (rx : Int), size := (dl : Int) }) rfl (by rfl) 84 (Ino.iv rec0) hp3 Ino.infoRec rfl (by simp [Ino.iv, Value.oneCell']) ?_)
    refine bodyPost_ret (results_cell_row rfl _ _ (w.heap.size + 1) 84 (Ino.iv { rec0 with start := (rx : Int), size := (dl : Int) }) (0, 0) _ rfl (setRow_heap _ _ _ _ _ _ hp3) Tryz.underlying84 rfl Ino.infoRec) rfl ?_
    have fs : Fr (One (w.heap.size + 1)) w3 (w3.setRow (w.heap.size + 1) (Ino.iv { rec0 with start := (rx : Int), size := (dl : Int) })) := setRow_fr (Fr.refl _ _) _ _ (fun _ => rfl)
    obtain ⟨x1, x2, x3, x4⟩ := HX.out
    refine ⟨rfl, _, x1.fr fs (fun k (hk : k = w.heap.size + 1) => ⟨fun hs => ?_, by rw [hk]; exact x4⟩), x2.trans fs (fun i hi (hk : i = w.heap.size + 1) => by omega), x3⟩
    have := HSt.out k hs
    omega
  · by_cases hk2 : v.kind = 2
    · have e1 : (v.kind == 1) = false := by simpa using hk1
      have e2 : (v.kind == 2) = true := by simpa using hk2
      obtain ⟨fl, hfl⟩ : ∃ fl, fl = flOf (nds x.L) x.fm i := ⟨_, rfl⟩
      have hdl := hRp.data.1
      have HQ : Hid (okd (nds x.L) x.fm (wr (nds x.L) x.own x.fm f) i s = (s, { rec0 with start := (fl.start : Nat), size := (v.dn : Nat), frag := (fl.frag : Nat), off := (fl.off : Nat) })) := by
        show _ = _
        unfold okd; rw [if_neg (by rw [hkd]; exact hk1), if_pos (by rw [hkd]; exact hk2), ← hfl, hdl]
      rw [HQ.out]
      obtain ⟨b0, b1, b2⟩ := two_boxes w (.cells v.cells 37) (.cells (Ino.iv rec0) 84)
      obtain ⟨wA, hwA⟩ : ∃ wA, wA = (w.alloc (.cells v.cells 37)).alloc (.cells (Ino.iv rec0) 84) := ⟨_, rfl⟩
      rw [← hwA] at b0 b1 b2
      have hA := h.below b0
      have HLk : Hid (∀ wX, Below wA.heap.size wA wX → wX.cell? ⟨x.rp, 1, none⟩ = some (.map (some x.fb)) ∧ wX.cell? ⟨w.heap.size, 1, none⟩ = some (.int .i64 v.ino) ∧ (Instr.lookup 52 (.map (some x.fb)) (.int .i64 v.ino) false).run Tryz.prog wX = .ok (.agg #[.int .i64 (fl.start : Int), .int .i64 (fl.frag : Int), .int .i64 (fl.off : Int)]) wX) := fun wX hX => by
        have hAX := hA.below hX
        refine ⟨by simp [World.cell?, hAX.rc, rcv], ?_, ?_⟩
        · have hp := (hX.block _ (heap_lt b1)).trans b1
          simp [World.cell?, hp, Nv.cells]
        · have hm : MpF wX x.fb x.fm := hs.fm.same (hAX.bel.block _ hs.fm.lt)
          have := hm.get (x := v.ino) (by have := hs.ino i hi; rw [hRp.ino] at this; exact this)
          rw [this, hfl]
          unfold flOf flv
          rw [hRp.ino]
      have H := hide h
      have H0 := hide b0
      have HB1 := hide b1
      have HB2 := hide b2
      unfold Nv.cells
      clear hs hW h hI hf hRp hkd hg hv hk1 hk2 hA b0 b1 b2 hfl hdl
      go_enter Tryz.func58, Tryz.ntmps58
      go_wp2_with fail
      have eA : (w.alloc (Obj.cells #[.slice v.na v.nn v.nc, .int .i64 v.ino, .int .i64 v.kind, .int .i64 v.mode, .int .i64 v.uid, .int .i64 v.gid, .slice v.da v.dn v.dc, .string v.tg, .slice v.xa v.xn v.xc, .bool v.op] 37)).alloc (Obj.cells #[.int .i64 0, .int .i64 0, .int .i64 0, .int .i64 0, .int .i64 0, .int .i64 0, .int .i64 0, .int .i64 0, .int .i64 0, .int .i64 0, .string ⟨#[]⟩] 84) = wA := by rw [hwA]; rfl
      rw [eA]
      clear eA hwA
      have HD0 : Hid (Below wA.heap.size wA wA.drew) := drewN_below wA 1
      have HD1 : Hid (∀ o, Below wA.heap.size wA (wA.alloc o).drew) := fun o => ((Below.refl _ wA).alloc (Nat.le_refl _) o).trans (drewN_below _ 1)
      go_region_held3 (fun wX => wX.cell? ⟨x.rp, 1, none⟩ = some (.map (some x.fb)) ∧ wX.cell? ⟨w.heap.size, 1, none⟩ = some (.int .i64 v.ino) ∧ (Instr.lookup 52 (.map (some x.fb)) (.int .i64 v.ino) false).run Tryz.prog wX = .ok (.agg #[.int .i64 (fl.start : Int), .int .i64 (fl.frag : Int), .int .i64 (fl.off : Int)]) wX) (exact HLk.out _ (by first | exact HD0.out | exact HD1.out _)) (fail)
      all_goals (
        rename_i hHd
        clear hHd HLk HD0
        obtain ⟨wD, hwD⟩ : ∃ wD, wD = (wA.alloc (Obj.cells #[.int .i64 (fl.start : Int), .int .i64 (fl.frag : Int), .int .i64 (fl.off : Int)] 110)).drew := ⟨_, rfl⟩
        have hbD : Below wA.heap.size wA wD := by rw [hwD]; exact HD1.out _
        have hp6 : wD.heap[wA.heap.size]? = some (.cells #[.int .i64 (fl.start : Int), .int .i64 (fl.frag : Int), .int .i64 (fl.off : Int)] 110 (0, 0)) := by rw [hwD]; exact heap_alloc_new _ _
        rw [← hwD]
        have hp3 := (hbD.block _ (heap_lt HB1.out)).trans HB1.out
        have hp4 := (hbD.block _ (heap_lt HB2.out)).trans HB2.out
        have q0 : wD.cell? ⟨wA.heap.size, 0, none⟩ = some (.int .i64 (fl.start : Int)) := by simp [World.cell?, hp6]
        have q1 : wD.cell? ⟨wA.heap.size, 1, none⟩ = some (.int .i64 (fl.frag : Int)) := by simp [World.cell?, hp6]
        have q2 : wD.cell? ⟨wA.heap.size, 2, none⟩ = some (.int .i64 (fl.off : Int)) := by simp [World.cell?, hp6]
        have q6 : wD.cell? ⟨w.heap.size, 6, none⟩ = some (.slice v.da v.dn v.dc) := by simp [World.cell?, hp3, Nv.cells]
        have HBD := hide hbD
        clear hwD hbD hp6 hp3 HD1
        go_wp2_with (refine wpList_store_row rfl _ _ _ rfl (w.heap.size + 1) (Ino.iv { rec0 with start := (fl.start : Int), size := (v.dn : Int), frag := (fl.frag : Int), off := (fl.off : Int) }) rfl (by rfl) 84 (Ino.iv rec0) hp4 Ino.infoRec rfl (by simp [Ino.iv, Value.oneCell']) ?_)
        refine bodyPost_ret (results_cell_row rfl _ _ (w.heap.size + 1) 84 (Ino.iv { rec0 with start := (fl.start : Int), size := (v.dn : Int), frag := (fl.frag : Int), off := (fl.off : Int) }) (0, 0) _ rfl (setRow_heap _ _ _ _ _ _ hp4) Tryz.underlying84 rfl Ino.infoRec) rfl ?_
        have b2 : Below w.heap.size w wD := H0.out.trans (HBD.out.mono H0.out.size)
        have fs : Fr (One (w.heap.size + 1)) wD (wD.setRow (w.heap.size + 1) (Ino.iv { rec0 with start := (fl.start : Int), size := (v.dn : Int), frag := (fl.frag : Int), off := (fl.off : Int) })) := setRow_fr (Fr.refl _ _) _ _ (fun _ => rfl)
        refine ⟨rfl, O, (H.out.below b2).fr fs (fun k (hk : k = w.heap.size + 1) => ⟨fun hs => by have := HSt.out k hs; omega, fun ho => by have := H.out.olt ho; omega⟩), (Fr.of_below b2).trans fs (fun i hi (hk : i = w.heap.size + 1) => by omega), Gr.refl _ _⟩)
    · have e1 : (v.kind == 1) = false := by simpa using hk1
      have e2 : (v.kind == 2) = false := by simpa using hk2
      have HQ : Hid (okd (nds x.L) x.fm (wr (nds x.L) x.own x.fm f) i s = (s, { rec0 with target := v.tg })) := by
        show _ = _
        unfold okd; rw [if_neg (by rw [hkd]; exact hk1), if_neg (by rw [hkd]; exact hk2), hRp.tg]
      rw [HQ.out]
      have H := hide h
      unfold Nv.cells
      clear hs hW h hI hf hRp hkd hg hv
      go_enter Tryz.func58, Tryz.ntmps58
      go_wp2
      refine bodyPost_ret (results_cell_row rfl _ _ (w.heap.size + 1) 84 (Ino.iv { rec0 with target := v.tg }) (0, 0) _ rfl (heap_new (by simp)) Tryz.underlying84 rfl Ino.infoRec) rfl ?_
      refine ⟨rfl, O, H.out.below (two_boxes w _ _).1, Fr.of_below (two_boxes w _ _).1, Gr.refl _ _⟩
end Go.Proofs.YtchcejjoncihkaaGreatDoor

/- Layer 14: a node is written, all that is in it ahead: write, by induction on how deep it is. -/
namespace Go.Proofs.YtchcejjoncihkaaGreatDoor
set_option linter.unusedVariables false
open Go.RowKit Go.Maps
open Lz (g)
open Crc (ent)
open Frm Mtr Tre Nam Tab Bld

/-- How many nodes are one, by the nodes alone. -/
theorem lks_lnk {L : List (Nv × Nod)} (h : ∀ p ∈ L, p.2.ino = p.1.ino) (i : Nat) (hi : i < L.length) : lks L (i : Int) = ((lnk (nds L) i : Nat) : Int) := by
  have e1 : (gn (nds L) i).ino = (gl L i).1.ino := by rw [gn_nds L i hi]; exact h _ (gl_mem L i hi)
  unfold lks
  rw [if_pos ⟨by omega, by omega⟩, Int.toNat_natCast]
  unfold lnk cn
  rw [List.take_of_length_le (Nat.le_refl _), e1]
  unfold nds
  rw [List.filter_map, List.length_map]
  congr 2
  refine List.filter_congr fun p hp => ?_
  simp only [Function.comp]
  rw [h p hp]
/-- inode.Put, of a record that may be or not. -/
theorem iPut_ip (s : Ino.Rec) (w : World) : Calls Tryz.prog 62 #[.agg (Ino.iv s)] w fun e w' => ∃ ao c er, e = .returned (.tuple #[.slice ao (ip s).length c, .int .i64 er]) ∧ New w w' ao (ip s).length c (ip s) := by
  refine (iPut_any s w).mono ?_
  rintro e w' (⟨hm, ao, c, rfl, hN⟩ | ⟨hm, rfl, hb⟩)
  · have e : ip s = Ino.putB s := by unfold ip; rw [if_pos hm]
    rw [e]
    exact ⟨ao, c, 0, rfl, hN⟩
  · have e : ip s = [] := by unfold ip; rw [if_neg (by rw [hm]; simp)]
    rw [e]
    exact ⟨none, 0, 1, rfl, ⟨rfl, fun i => by simp [g], .inl rfl⟩, Nat.le_refl _, by omega, fun _ => rfl, hb, fun a h => by simp at h⟩
/-- Many orders, one way on. -/
theorem joinB {F G : World → Prop} {T : Prop} (h : (∀ x, F x → G x) → T) (h2 : ∀ x, F x → G x) : T := h h2
set_option maxRecDepth 100000 in
set_option maxHeartbeats 8000000 in
theorem write_step (x : Cx) (W0 : World) (f i : Nat) (O : Nat → Prop) (s : Ws) (w : World) (hs : Sta x W0) (hW : WrC x W0 f) (hi : i < x.n) (h : RS x W0 w O s) (hI : WI (nds x.L) s) (hf : 16 ≤ f + (gn (nds x.L) i).names.length) :
    Calls Tryz.prog 21 #[.pointer (some ⟨x.rp, 0, none⟩), .int .i64 (i : Int)] w (WAns x W0 O (wr (nds x.L) x.own x.fm (f + 1) i s) w) := by
  have hiL : i < x.L.length := by have := hs.ns.1; omega
  have hg := gn_nds x.L i hiL
  have hNs := hs.ns.below h.bel
  have hRp := hNs.rep i hi
  obtain ⟨v, hv⟩ : ∃ v, v = (gl x.L i).1 := ⟨_, rfl⟩
  obtain ⟨nb, noff, hxa, hnb, hcells⟩ := hNs.at (by omega)
  have hNA := hcells i hi
  rw [← hv, ← hg] at hRp
  rw [← hv] at hNA
  obtain ⟨d0, d1, d2, d3, d4, d5, d6, d7, d8, d9⟩ := hNA
  have cr0 : w.cell? ⟨x.rp, 0, none⟩ = some (.slice (some ⟨nb, noff, none⟩) x.n x.c) := by rw [← hxa]; simp [World.cell?, h.rc, rcv]
  have hwf : (Lit.int .i64 v.ino).wf = true := by have := hs.ino i hi; rw [hRp.ino] at this; exact this
  obtain ⟨wB, hwB⟩ : ∃ wB, wB = w.alloc (.cells v.cells 37) := ⟨_, rfl⟩
  have hbB : Below w.heap.size w wB := by rw [hwB]; exact (Below.refl _ w).alloc (Nat.le_refl _) _
  have hp5 : wB.heap[w.heap.size]? = some (.cells v.cells 37 (0, 0)) := by rw [hwB]; exact heap_alloc_new _ _
  have hB := h.below hbB
  have hlk : ∀ q, (Instr.lookup 61 (.map (some x.mr)) (.int .i64 v.ino) true).run Tryz.prog (wB.drewN q) = .ok (.tuple #[.int .i64 (((lkR (nds x.L) s.R v.ino).getD 0 : Nat) : Int), .bool (lkR (nds x.L) s.R v.ino).isSome]) (wB.drewN q) := fun q => by
    have hBq := hB.below (drewN_below wB q)
    obtain ⟨oi, od, ox, rfl, hR⟩ := hBq
    exact hR.mr.look hwf
  have q7 : wB.cell? ⟨x.rp, 7, none⟩ = some (.map (some x.mr)) := by simp [World.cell?, hB.rc, rcv]
  have q1 : wB.cell? ⟨w.heap.size, 1, none⟩ = some (.int .i64 v.ino) := by simp [World.cell?, hp5, Nv.cells]
  have i2 : (i : Int) < (x.n : Int) := by omega
  cases hlo : lkR (nds x.L) s.R v.ino with
  | some r =>
    rw [hlo] at hlk
    rw [wr_some (by rw [hRp.ino]; exact hlo)]
    have H := hide h
    have HB := hide hB
    have HbB := hide hbB
    clear hs hW h hI hf hNs hRp hcells hg hv hlo hbB hB hp5 hwf hxa
    go_enter Tryz.func21, Tryz.ntmps21
    go_wp2_with fail
    have eB : w.alloc (Obj.cells #[.slice v.na v.nn v.nc, .int .i64 v.ino, .int .i64 v.kind, .int .i64 v.mode, .int .i64 v.uid, .int .i64 v.gid, .slice v.da v.dn v.dc, .string v.tg, .slice v.xa v.xn v.xc, .bool v.op] 37) = wB := by rw [hwB]; rfl
    rw [eB]
    clear eB hwB d0 d1 d2 d3 d4 d5 d6 d7 d8 d9 cr0
    go_quiet (fail)
    go_wp2
    go_ret
    exact ⟨rfl, O, HB.out.below (drewN_below wB nq), (Fr.of_below HbB.out).drewN nq, Gr.refl _ _⟩
  | none =>
    rw [hlo] at hlk
    rw [wr_none (by rw [hRp.ino]; exact hlo)]
    have hloI : lkR (nds x.L) s.R (gn (nds x.L) i).ino = none := by rw [hRp.ino]; exact hlo
    have hil : i < (nds x.L).length := by rw [nds_length]; exact hiL
    obtain ⟨hWJ, hWt⟩ := okd_inv (l := nds x.L) (fm := x.fm) (wr := wr (nds x.L) x.own x.fm f) (i := i) (s := s) (fun j hj s hs' => wr_inv hs.uno f j s (kidsN_mem.1 hj).1 hs') hI
    have hnone := okd_none (own := x.own) (fm := x.fm) (f := f) hs.uno hil hloI
    have hK := fun w' hC => ofKind_any x W0 f i O s w' hs hW hC hI hi hf v hv
    obtain ⟨Q, hQ⟩ : ∃ Q, Q = okd (nds x.L) x.fm (wr (nds x.L) x.own x.fm f) i s := ⟨_, rfl⟩
    rw [← hQ] at hWJ hWt hnone hK ⊢
    obtain ⟨s2, rk, rm, ru, rg, rl, rx, rst, rsz, rfg, rof, rtg⟩ := Q
    have hWJ : WJ (nds x.L) s2 (dw (nds x.L) i) := hWJ
    have hX : s2.X.length ≤ 100000 := by have := hWJ.bX; have := hs.x_sum; omega
    have hIl : s2.I.length ≤ 100000 := by have := hWJ.bI; have := hs.i_sum; omega
    have hA : s2.A.length ≤ 10000 := by have := hWJ.bA; have := hs.n40; rw [nds_length, hs.ns.1] at *; omega
    have hR2 : s2.R.length ≤ 10000 := by have := hWJ.bR; have := hs.n40; rw [nds_length, hs.ns.1] at *; omega
    have hAv := hWJ.Av
    have hmu := hs.mem (gn (nds x.L) i) (by rw [gn_lt _ _ hil]; exact List.getElem_mem hil)
    rw [hRp.uid, hRp.gid] at hmu
    have HK : Hid (∀ w', RS x W0 w' O s → Calls Tryz.prog 58 #[.pointer (some ⟨x.rp, 0, none⟩), .agg v.cells] w' (KAns x W0 O (s2, ⟨rk, rm, ru, rg, rl, rx, rst, rsz, rfg, rof, rtg⟩) w')) := hK
    unfold KAns Ino.iv Nv.cells at HK
    have H := hide h
    have HB := hide hB
    have HbB := hide hbB
    have HP5 := hide hp5
    have HS := hide hs
    have HRp := hide hRp
    have HAv := hide hAv
    have HNo := hide hnone
    have HGn := hide hg
    have HVe := hide hv
    have HTg : Hid (rtg.size ≤ 200) := by
      have h1 : rtg.size ≤ (gn (nds x.L) i).target.size := hWt
      have h2 := (may_parts (hs.may (gn (nds x.L) i) (by rw [gn_lt _ _ hil]; exact List.getElem_mem hil))).1
      exact Nat.le_trans h1 h2
    clear hs hW h hI hf hNs hRp hcells hg hv hlo hbB hB hp5 hxa hWJ hWt hK hQ hloI hnone hAv
    go_enter Tryz.func21, Tryz.ntmps21
    go_wp2_with fail
    have eB : w.alloc (Obj.cells #[.slice v.na v.nn v.nc, .int .i64 v.ino, .int .i64 v.kind, .int .i64 v.mode, .int .i64 v.uid, .int .i64 v.gid, .slice v.da v.dn v.dc, .string v.tg, .slice v.xa v.xn v.xc, .bool v.op] 37) = wB := by rw [hwB]; rfl
    rw [eB]
    clear eB hwB d0 d1 d2 d3 d4 d5 d6 d7 d8 d9 cr0
    go_quiet (fail)
    have HC := hide (HB.out.below (drewN_below wB nq))
    have HbC : Hid (Below w.heap.size w (wB.drewN nq)) := below_drewN HbB.out nq
    have hp5 : (wB.drewN nq).heap[w.heap.size]? = some (.cells v.cells 37 (0, 0)) := HP5.out
    generalize wB.drewN nq = wC at *
    obtain ⟨_, e0, e1, e2, e3, e4, e5, e6, e7, e8, e9⟩ := (show Bk wC w.heap.size v from hp5).box
    have HKc := hide (HK.out wC HC.out)
    have HP5c := hide hp5
    clear hlk q7 q1 HP5 HB HbB HK hp5
    go_wp2_with fail
    refine HKc.out.mono ?_
    rintro r w2 ⟨rfl, O2, k1, k2, k3⟩
    have hsz2 : w.heap.size < w2.heap.size := Nat.lt_of_lt_of_le (heap_lt HP5c.out) k2.size
    have hN5 : ¬ O w.heap.size := fun ho => by have := H.out.olt ho; omega
    have hN5' : ¬ O2 w.heap.size := fun ho => (k3 _ ho).elim hN5 (fun hx => by have := heap_lt HP5c.out; omega)
    have HP52 : Hid (w2.heap[w.heap.size]? = some (.cells v.cells 37 (0, 0))) := (k2.block _ (heap_lt HP5c.out) hN5).trans HP5c.out
    have HR2 := hide k1
    have HF2 := hide ((Fr.of_below HbC.out).then k2)
    have HG2 : Hid (Gr O O2 w) := fun k hk => (k3 k hk).imp id (fun h => Nat.le_trans HbC.out.size h)
    have HN5 := hide hN5'
    clear k1 k2 k3 HKc HP5c HbC HC e0 e1 e2 e3 e4 e5 e6 e7 e8 e9 hN5 hN5'
    go_wp2_with fail
    obtain ⟨_, e0, e1, e2, e3, e4, e5, e6, e7, e8, e9⟩ := (show Bk w2 w.heap.size v from HP52.out).box
    clear e0 e1 e6 e7 e8 e9
    go_region
    have HOw : Hid (∀ o : Obj, RS x W0 (w2.alloc o) O2 s2) := fun o => HR2.out.below ((Below.refl _ w2).alloc (Nat.le_refl _) o)
    have HOw2 : Hid (∀ (o : Obj) (y : Int), y ∈ x.own → Calls Tryz.prog 59 #[.pointer (some ⟨x.rp, 0, none⟩), .int .i64 y] (w2.alloc o).drew.drew fun e w' => e = .returned (.int .i64 ((x.own.idxOf y : Nat) : Int)) ∧ w' = (w2.alloc o).drew.drew) := fun o y hy => owner_any x W0 O2 s2 y _ HS.out ((HOw.out o).below (drewN_below _ 2)) hy
    go_wp2_with fail
    apply joinB (F := fun wX => wX.heap[w2.heap.size]? = some (.cells #[.int .i64 v.kind, .int .i64 v.mode, .int .i64 ((x.own.idxOf v.uid : Nat) : Int), .int .i64 ((x.own.idxOf v.gid : Nat) : Int), .int .i64 rl, .int .i64 rx, .int .i64 rst, .int .i64 rsz, .int .i64 rfg, .int .i64 rof, .string rtg] 84 (0, 0)) ∧ Below w2.heap.size w2 wX)
    · intro hall
      have HAll := hide hall
      clear hall
      go_region_with (go_at_call 59; refine (HOw2.out _ _ (by first | exact hmu.1 | exact hmu.2)).mono ?_; rintro e w' ⟨rfl, rfl⟩)
      all_goals exact HAll.out _ ⟨heap_alloc_new _ _, below_drewN ((Below.refl _ w2).alloc (Nat.le_refl _) _) 2⟩
    · rintro w4 ⟨hp8, hb4⟩
      have hR4 := HR2.out.below hb4
      have hLk := Links_any x.a x.n x.c x.L (i : Int) w4 (HS.out.ns.below hR4.bel) HS.out.nc HS.out.ncm
      rw [lks_lnk (fun p hp => (HS.out.ns.2.1 p hp).ino) i hiL] at hLk
      have HLk := hide hLk
      have q0 : w4.cell? ⟨x.rp, 0, none⟩ = some (.slice x.a x.n x.c) := by simp [World.cell?, hR4.rc, rcv]
      obtain ⟨p8, hp⟩ : ∃ p8, p8 = w2.heap.size := ⟨_, rfl⟩
      have hp52 : w4.heap[w.heap.size]? = some (.cells v.cells 37 (0, 0)) := (hb4.block _ hsz2).trans HP52.out
      have hNp : ¬ O2 p8 := fun ho => by have := HR2.out.olt ho; omega
      have HSt : Hid (∀ k, Stc x W0 k → k < p8) := fun k hk => by have := HR2.out.slt hk; omega
      have hpp : w.heap.size ≠ p8 := by omega
      have HPg : Hid (w.heap.size < p8) := by show _ < _; omega
      rw [← hp] at hp8 ⊢
      have HR4 := hide hR4
      have HP8 := hide hp8
      have HP54 := hide hp52
      have HF4 := hide (HF2.out.then (Fr.of_below hb4))
      obtain ⟨yu, hyu⟩ : ∃ yu, x.own.idxOf v.uid = yu := ⟨_, rfl⟩
      obtain ⟨yg, hyg⟩ : ∃ yg, x.own.idxOf v.gid = yg := ⟨_, rfl⟩
      have HYu := hide hyu
      have HYg := hide hyg
      rw [hyu, hyg] at HP8 hp8 ⊢
      clear hyu hyg
      have hl8 := heap_lt hp8
      clear hLk hR4 hp52 hb4 hp8 HF2 HP52 HR2 HOw HOw2 e2 e3 e4 e5 hsz2 hp
      go_wp2_with fail
      refine HLk.out.mono ?_
      rintro r w5 ⟨rfl, hb5⟩
      have hp8 := (hb5.block _ hl8).trans HP8.out
      have c84 : w5.cell? ⟨p8, 4, none⟩ = some (.int .i64 rl) := by simp [World.cell?, hp8]
      have f84 : w5.frozen? ⟨p8, 4, none⟩ = false := by simp [World.frozen?, hp8]
      obtain ⟨w6, hw6⟩ : ∃ w6, w6 = w5.setCell ⟨p8, 4, none⟩ (.int .i64 ((lnk (nds x.L) i : Nat) : Int)) := ⟨_, rfl⟩
      have hp86 : w6.heap[p8]? = some (.cells #[.int .i64 v.kind, .int .i64 v.mode, .int .i64 (yu : Int), .int .i64 (yg : Int), .int .i64 ((lnk (nds x.L) i : Nat) : Int), .int .i64 rx, .int .i64 rst, .int .i64 rsz, .int .i64 rfg, .int .i64 rof, .string rtg] 84 (0, 0)) := by rw [hw6]; exact heap_setCell_self hp8 _
      have f6 : Fr (One p8) w5 w6 := by rw [hw6]; exact (Fr.refl _ _).set _ (fun _ => rfl)
      have hR6 := (HR4.out.below hb5).fr f6 (fun k (hk : k = p8) => ⟨fun hx => by have := HSt.out k hx; omega, by rw [hk]; exact hNp⟩)
      have hp56 : w6.heap[w.heap.size]? = some (.cells v.cells 37 (0, 0)) := (f6.block _ (Nat.lt_of_lt_of_le (heap_lt HP54.out) hb5.size) hpp).trans ((hb5.block _ (heap_lt HP54.out)).trans HP54.out)
      have HF6 : Hid (Fr (fun k => O k ∨ k = p8) w w6) := ((HF4.out.then (Fr.of_below hb5)).mono (fun i _ hi => .inl hi)).trans f6 (fun i _ hi => .inr hi)
      have hp55 := (hb5.block _ (heap_lt HP54.out)).trans HP54.out
      have e8 : w5.cell? ⟨w.heap.size, 8, none⟩ = some (.slice v.xa v.xn v.xc) := by simp [World.cell?, hp55, Nv.cells]
      have hXr : XsR w6 v.xa v.xn (gn (nds x.L) i).xs := by
        have := ((HS.out.ns.below hR6.bel).rep i hi).xs
        rw [← HGn.out, ← HVe.out] at this
        exact this
      have HXc := hide (xattr_any x W0 O2 s2 v.xa v.xn v.xc (gn (nds x.L) i).xs w6 HS.out hR6 hXr HRp.out.xc HRp.out.xcm HRp.out.xnil hX hA HAv.out)
      obtain ⟨XA, hXA⟩ : ∃ XA, XA = xat s2 (gn (nds x.L) i).xs := ⟨_, rfl⟩
      have HFin : Hid (fin (nds x.L) x.own i (s2, ⟨rk, rm, ru, rg, rl, rx, rst, rsz, rfg, rof, rtg⟩) = ({ XA.1 with I := XA.1.I ++ ip ⟨v.kind, v.mode, (yu : Int), (yg : Int), ((lnk (nds x.L) i : Nat) : Int), (XA.2 : Int), rst, rsz, rfg, rof, rtg⟩, R := XA.1.R ++ [(i, rfn XA.1.I)] }, rfn XA.1.I)) := by
        show _ = _
        unfold fin Bld.hd
        rw [← hXA, HRp.out.kind, HRp.out.mode, HRp.out.uid, HRp.out.gid, HYu.out, HYg.out]
      have hXI : XA.1.I = s2.I ∧ XA.1.R = s2.R := by rw [hXA]; exact ⟨(xat_R _ _).2.1, (xat_R _ _).1⟩
      rw [← hXA] at HXc
      have HP86 := hide hp86
      have HP56 := hide hp56
      have hl86 := heap_lt hp86
      have HXI := hide hXI
      generalize ((lnk (nds x.L) i : Nat) : Int) = yl at *
      clear hp8 hp55 hR6 hp86 hp56 f6 hXr hXA hb5 HLk HR4 HP8 HP54 HF4 HAv hXI
      go_wp2_with fail
      rw [← hw6]
      clear hw6 c84 f84 q0
      refine HXc.out.mono ?_
      rintro r w7 ⟨rfl, O3, k1, k2, k3⟩
      have hp87 := (k2.block _ hl86 hNp).trans HP86.out
      have c85 : w7.cell? ⟨p8, 5, none⟩ = some (.int .i64 rx) := by simp [World.cell?, hp87]
      have f85 : w7.frozen? ⟨p8, 5, none⟩ = false := by simp [World.frozen?, hp87]
      obtain ⟨w8, hw8⟩ : ∃ w8, w8 = w7.setCell ⟨p8, 5, none⟩ (.int .i64 (XA.2 : Int)) := ⟨_, rfl⟩
      have hp88 : w8.heap[p8]? = some (.cells (Ino.iv ⟨v.kind, v.mode, (yu : Int), (yg : Int), yl, (XA.2 : Int), rst, rsz, rfg, rof, rtg⟩) 84 (0, 0)) := by rw [hw8]; exact heap_setCell_self hp87 _
      have f8 : Fr (One p8) w7 w8 := by rw [hw8]; exact (Fr.refl _ _).set _ (fun _ => rfl)
      have hNp3 : ¬ O3 p8 := fun ho => (k3 _ ho).elim hNp (fun hx => by omega)
      have hR8 := k1.fr f8 (fun k (hk : k = p8) => ⟨fun hx => by have := HSt.out k hx; omega, by rw [hk]; exact hNp3⟩)
      have hN52 : ¬ O2 w.heap.size := HN5.out
      have HN53 : Hid (¬ O3 w.heap.size) := fun ho => (k3 _ ho).elim hN52 (fun hx => by have := heap_lt HP56.out; omega)
      have hp58 : w8.heap[w.heap.size]? = some (.cells v.cells 37 (0, 0)) := (f8.block _ (Nat.lt_of_lt_of_le (heap_lt HP56.out) k2.size) hpp).trans ((k2.block _ (heap_lt HP56.out) hN52).trans HP56.out)
      have HG3 : Hid (Gr O O3 w) := fun k hk => by
        rcases k3 k hk with h1 | h1
        · exact HG2.out k h1
        · exact .inr (Nat.le_trans HF6.out.size h1)
      have HF8 : Hid (Fr (fun k => O k ∨ k = p8) w w8) := (HF6.out.trans k2 (fun i hi ho => (HG2.out i ho).imp id (fun hx => by omega))).trans f8 (fun i _ hi => .inr hi)
      have HPut := hide (iPut_ip ⟨v.kind, v.mode, (yu : Int), (yg : Int), yl, (XA.2 : Int), rst, rsz, rfg, rof, rtg⟩ w8)
      have HR8 := hide hR8
      have HP58 := hide hp58
      have hipl := ip_len ⟨v.kind, v.mode, (yu : Int), (yg : Int), yl, (XA.2 : Int), rst, rsz, rfg, rof, rtg⟩
      have hipl2 : (ip ⟨v.kind, v.mode, (yu : Int), (yg : Int), yl, (XA.2 : Int), rst, rsz, rfg, rof, rtg⟩).length ≤ 100000 := by simp only [] at hipl; have := HTg.out; omega
      clear k1 k2 k3 hR8 hp58 hp87 f8 HXc HP86 HP56 HF6 hl86 e8 hipl
      have HP88 := hide hp88
      have HW8 := hide hw8
      clear hp88 hw8
      go_wp2_with (first
        | (rw [← HW8.out]; refine Ino.wpList_load_rec rfl _ rfl p8 rfl 84 (Ino.iv ⟨v.kind, v.mode, (yu : Int), (yg : Int), yl, (XA.2 : Int), rst, rsz, rfg, rof, rtg⟩) (0, 0) HP88.out rfl ?_))
      obtain ⟨B, hB⟩ : ∃ B, B = ip ⟨v.kind, v.mode, (yu : Int), (yg : Int), yl, (XA.2 : Int), rst, rsz, rfg, rof, rtg⟩ := ⟨_, rfl⟩
      rw [← hB] at HPut hipl2 HFin
      clear hB HW8 c85 f85 HP88
      refine HPut.out.mono ?_
      rintro r w9 ⟨ao, c9, er, rfl, hN⟩
      have hR9 := HR8.out.below hN.bel
      have c3 : w9.cell? ⟨x.rp, 3, none⟩ = some (.pointer (some ⟨x.pi, 0, none⟩)) := by simp [World.cell?, hR9.rc, rcv]
      have hp59 := (hN.bel.block _ (heap_lt HP58.out)).trans HP58.out
      obtain ⟨oi, od, ox, rfl, hRst⟩ := hR9
      obtain ⟨ht1, ht2⟩ := hRst.tb HS.out
      have hXIl : XA.1.I.length ≤ 100000 := by rw [HXI.out.1]; exact hIl
      have HAdd := hide (Add_any x.pi x.tb B.length c9 oi ao ent XA.1.I B w9 hRst.wi ht1 ht2 (fun ho => (hRst.di _ ho).1 (.inl HS.out.tlt)) small_ent hN.bs hN.nil hXIl hipl2)
      rw [rf_rfn] at HAdd
      have HRst := hide hRst
      have HP59 := hide hp59
      have HF9 : Hid (Fr O w w9) := (HF8.out.then (Fr.of_below hN.bel)).mono (fun i hi ho => ho.elim id (fun hx => by have := HPg.out; omega))
      have hN59 : ¬ oi w.heap.size := fun ho => HN53.out (.inl ho)
      generalize rfn XA.1.I = rI at *
      generalize B.length = bl at *
      clear hRst ht1 ht2 hp59 hN HPut HR8 HP58 HF8
      go_wp2_with fail
      refine HAdd.out.mono ?_
      rintro r w10 ⟨rfl, oi', hW10, hF10, hG10⟩
      have hR10 := HRst.out.addI hW10 hF10 hG10
      have hp510 := (hF10.block _ (heap_lt HP59.out) hN59).trans HP59.out
      have q7 : w10.cell? ⟨x.rp, 7, none⟩ = some (.map (some x.mr)) := by simp [World.cell?, hR10.rc, rcv]
      have q1 : w10.cell? ⟨w.heap.size, 1, none⟩ = some (.int .i64 v.ino) := by simp [World.cell?, hp510, Nv.cells]
      have hR10d := hR10.below (show Below _ w10 w10.drew from drewN_below w10 1)
      obtain ⟨w11, k1, k2, k3⟩ := hR10d.mr.store (i := i) (by rw [HRp.out.ino]; exact hwf) (by show XA.1.R.length ≤ _; rw [HXI.out.2]; omega) (by show lkR _ XA.1.R _ = none; rw [HXI.out.2]; exact HNo.out) rI
      rw [HRp.out.ino] at k1
      have HX : Hid (RS x W0 w11 (Ou x oi' od ox) { XA.1 with I := XA.1.I ++ B, R := XA.1.R ++ [(i, rI)] } ∧ Fr O w w11 ∧ Gr O (Ou x oi' od ox) w) := by
        refine ⟨⟨oi', od, ox, rfl, hR10d.addR k2 k3⟩, ?_, HG3.out.trans (Ou.gi hG10) HF9.out.size⟩
        have f1 : Fr (Ou x oi od ox) w9 w10 := hF10.mono (fun i _ hi => .inl hi)
        have f2 : Fr (Ou x oi od ox) w10 w11 := (Fr.of_grown k3 (fun k hk => by injection hk with hk; exact .inr (.inr (.inr (.inl hk.symm))))).undrew
        exact HF9.out.gr HG3.out (f1.then f2)
      clear k2 k3 hR10d hR10 hp510 hW10 hF10 hG10 HAdd HRst HP59 HF9
      go_wp2_with fail
      go_region
      go_wp2
      go_ret
      unfold WAns
      rw [HFin.out]
      exact ⟨rfl, _, HX.out⟩
/-- write, however deep a node is. -/
theorem write_any (x : Cx) (W0 : World) (hs : Sta x W0) : ∀ f, WrC x W0 f
  | 0 => fun i O s w hi h hI hf => by
    have hil : i < (nds x.L).length := by rw [nds_length, hs.ns.1]; exact hi
    have := hs.deep (gn (nds x.L) i) (by rw [gn_lt _ _ hil]; exact List.getElem_mem hil)
    omega
  | f + 1 => fun i O s w hi h hI hf => write_step x W0 f i O s w hs (write_any x W0 hs f) hi h hI (by omega)
end Go.Proofs.YtchcejjoncihkaaGreatDoor

/- maps.Keys, slices.Sorted and slices.Sort at numbers: the library's own text is the one that the shelf's contracts speak of, function by function. -/
namespace Go.Proofs
open Go.Shelf
def YtchcejjoncihkaaGreatDoor.keysL_ren : Go.Shelf.Ren := ⟨fun | 7 => 116 | 10 => 171 | n => n, fun | 23 => 171 | 26 => 3 | 3 => 175 | 28 => 173 | 0 => 0 | 27 => 172 | 33 => 191 | 4 => 4 | n => n, fun | n => n⟩
theorem YtchcejjoncihkaaGreatDoor.keysL : Go.Proofs.SlLaysZI.n7 Tryz.prog YtchcejjoncihkaaGreatDoor.keysL_ren := {
  mixed := by kernel_rfl
  f7 := ⟨Tryz.f116.name, by decide, Tryz.func116.trans (congrArg some (by kernel_rfl))⟩
  f10 := ⟨Tryz.f171.name, by decide, Tryz.func171.trans (congrArg some (by kernel_rfl))⟩
  t0 := Tryz.underlying0
  a0 := Tryz.isAgg0
  z0 := Tryz.sizeOf0
  v0 := Tryz.zeroValue0
  t4 := Tryz.underlying4
  a4 := Tryz.isAgg4
  z4 := Tryz.sizeOf4
  v4 := Tryz.zeroValue4
  t23 := Tryz.underlying171
  a23 := Tryz.isAgg171
  z23 := Tryz.sizeOf171
  v23 := Tryz.zeroValue171
  t26 := Tryz.underlying3
  a26 := Tryz.isAgg3
  z26 := Tryz.sizeOf3
  v26 := Tryz.zeroValue3
  t27 := Tryz.underlying172
  a27 := Tryz.isAgg172
  z27 := Tryz.sizeOf172
  v27 := Tryz.zeroValue172
  t28 := Tryz.underlying173
  a28 := Tryz.isAgg173
  z28 := Tryz.sizeOf173
  v28 := Tryz.zeroValue173
  t33 := Tryz.underlying191
  a33 := Tryz.isAgg191
  z33 := Tryz.sizeOf191
  v33 := Tryz.zeroValue191 }
def YtchcejjoncihkaaGreatDoor.sortedL_ren : Go.Shelf.Ren := ⟨fun | 6 => 115 | 8 => 169 | 9 => 170 | 11 => 214 | 13 => 107 | 12 => 215 | 23 => 161 | 24 => 162 | 14 => 230 | 15 => 231 | 16 => 232 | 17 => 233 | 18 => 234 | 19 => 235 | 20 => 139 | 21 => 236 | 22 => 237 | 25 => 245 | 26 => 203 | 27 => 204 | 28 => 246 | 29 => 247 | 30 => 192 | 31 => 254 | n => n, fun | 26 => 3 | 28 => 173 | 24 => 31 | 0 => 0 | 3 => 3 | 37 => 145 | 48 => 40 | 50 => 219 | 4 => 4 | 40 => 212 | 39 => 211 | 45 => 115 | 5 => 5 | 9 => 9 | 51 => 248 | 55 => 252 | 57 => 267 | 58 => 87 | 33 => 191 | n => n, fun | n => n⟩
theorem YtchcejjoncihkaaGreatDoor.sortedL : Go.Proofs.SlLaysZI.n6 Tryz.prog YtchcejjoncihkaaGreatDoor.sortedL_ren := {
  mixed := by kernel_rfl
  f6 := ⟨Tryz.f115.name, by decide, Tryz.func115.trans (congrArg some (by kernel_rfl))⟩
  f8 := ⟨Tryz.f169.name, by decide, Tryz.func169.trans (congrArg some (by kernel_rfl))⟩
  f11 := ⟨Tryz.f214.name, by decide, Tryz.func214.trans (congrArg some (by kernel_rfl))⟩
  t0 := Tryz.underlying0
  a0 := Tryz.isAgg0
  z0 := Tryz.sizeOf0
  v0 := Tryz.zeroValue0
  t24 := Tryz.underlying31
  a24 := Tryz.isAgg31
  z24 := Tryz.sizeOf31
  v24 := Tryz.zeroValue31
  t26 := Tryz.underlying3
  a26 := Tryz.isAgg3
  z26 := Tryz.sizeOf3
  v26 := Tryz.zeroValue3
  t28 := Tryz.underlying173
  a28 := Tryz.isAgg173
  z28 := Tryz.sizeOf173
  v28 := Tryz.zeroValue173
  i26 := by kernel_rfl }
def YtchcejjoncihkaaGreatDoor.sortL_ren : Go.Shelf.Ren := ⟨fun | 5 => 170 | 8 => 107 | 7 => 215 | 19 => 161 | 20 => 162 | 10 => 230 | 11 => 231 | 12 => 232 | 13 => 233 | 14 => 234 | 15 => 235 | 16 => 139 | 17 => 236 | 18 => 237 | 30 => 245 | 31 => 203 | 32 => 204 | 33 => 246 | 34 => 247 | 35 => 192 | 40 => 254 | n => n, fun | 23 => 31 | 25 => 3 | 3 => 3 | 32 => 145 | 22 => 31 | 0 => 0 | 44 => 40 | 46 => 219 | 4 => 4 | 36 => 212 | 35 => 211 | 41 => 115 | 5 => 5 | 9 => 9 | 53 => 248 | 57 => 252 | 63 => 267 | 64 => 87 | n => n, fun | n => n⟩
theorem YtchcejjoncihkaaGreatDoor.sortL : Go.Proofs.SlLaysM.n5 Tryz.prog YtchcejjoncihkaaGreatDoor.sortL_ren := {
  mixed := by kernel_rfl
  f5 := ⟨Tryz.f170.name, by decide, Tryz.func170.trans (congrArg some (by kernel_rfl))⟩
  f7 := ⟨Tryz.f215.name, by decide, Tryz.func215.trans (congrArg some (by kernel_rfl))⟩
  f8 := Tryz.func107.trans (congrArg some (by kernel_rfl))
  f10 := ⟨Tryz.f230.name, by decide, Tryz.func230.trans (congrArg some (by kernel_rfl))⟩
  f11 := ⟨Tryz.f231.name, by decide, Tryz.func231.trans (congrArg some (by kernel_rfl))⟩
  f12 := ⟨Tryz.f232.name, by decide, Tryz.func232.trans (congrArg some (by kernel_rfl))⟩
  f13 := ⟨Tryz.f233.name, by decide, Tryz.func233.trans (congrArg some (by kernel_rfl))⟩
  f14 := ⟨Tryz.f234.name, by decide, Tryz.func234.trans (congrArg some (by kernel_rfl))⟩
  f15 := ⟨Tryz.f235.name, by decide, Tryz.func235.trans (congrArg some (by kernel_rfl))⟩
  f16 := ⟨Tryz.f139.name, by decide, Tryz.func139.trans (congrArg some (by kernel_rfl))⟩
  f17 := ⟨Tryz.f236.name, by decide, Tryz.func236.trans (congrArg some (by kernel_rfl))⟩
  f18 := ⟨Tryz.f237.name, by decide, Tryz.func237.trans (congrArg some (by kernel_rfl))⟩
  f19 := Tryz.func161.trans (congrArg some (by kernel_rfl))
  f20 := Tryz.func162.trans (congrArg some (by kernel_rfl))
  f30 := ⟨Tryz.f245.name, by decide, Tryz.func245.trans (congrArg some (by kernel_rfl))⟩
  f31 := Tryz.func203.trans (congrArg some (by kernel_rfl))
  f32 := Tryz.func204.trans (congrArg some (by kernel_rfl))
  f33 := ⟨Tryz.f246.name, by decide, Tryz.func246.trans (congrArg some (by kernel_rfl))⟩
  f34 := ⟨Tryz.f247.name, by decide, Tryz.func247.trans (congrArg some (by kernel_rfl))⟩
  f35 := ⟨Tryz.f192.name, by decide, Tryz.func192.trans (congrArg some (by kernel_rfl))⟩
  f40 := ⟨Tryz.f254.name, by decide, Tryz.func254.trans (congrArg some (by kernel_rfl))⟩
  t0 := Tryz.underlying0
  a0 := Tryz.isAgg0
  z0 := Tryz.sizeOf0
  v0 := Tryz.zeroValue0
  t3 := Tryz.underlying3
  a3 := Tryz.isAgg3
  z3 := Tryz.sizeOf3
  v3 := Tryz.zeroValue3
  t4 := Tryz.underlying4
  a4 := Tryz.isAgg4
  z4 := Tryz.sizeOf4
  v4 := Tryz.zeroValue4
  t5 := Tryz.underlying5
  a5 := Tryz.isAgg5
  z5 := Tryz.sizeOf5
  v5 := Tryz.zeroValue5
  t9 := Tryz.underlying9
  a9 := Tryz.isAgg9
  z9 := Tryz.sizeOf9
  v9 := Tryz.zeroValue9
  t22 := Tryz.underlying31
  a22 := Tryz.isAgg31
  z22 := Tryz.sizeOf31
  v22 := Tryz.zeroValue31
  t23 := Tryz.underlying31
  a23 := Tryz.isAgg31
  z23 := Tryz.sizeOf31
  v23 := Tryz.zeroValue31
  t25 := Tryz.underlying3
  a25 := Tryz.isAgg3
  z25 := Tryz.sizeOf3
  v25 := Tryz.zeroValue3
  t32 := Tryz.underlying145
  a32 := Tryz.isAgg145
  z32 := Tryz.sizeOf145
  v32 := Tryz.zeroValue145
  t35 := Tryz.underlying211
  a35 := Tryz.isAgg211
  z35 := Tryz.sizeOf211
  v35 := Tryz.zeroValue211
  t36 := Tryz.underlying212
  a36 := Tryz.isAgg212
  z36 := Tryz.sizeOf212
  v36 := Tryz.zeroValue212
  t41 := Tryz.underlying115
  a41 := Tryz.isAgg115
  z41 := Tryz.sizeOf115
  v41 := Tryz.zeroValue115
  t44 := Tryz.underlying40
  a44 := Tryz.isAgg40
  z44 := Tryz.sizeOf40
  v44 := Tryz.zeroValue40
  t46 := Tryz.underlying219
  a46 := Tryz.isAgg219
  z46 := Tryz.sizeOf219
  v46 := Tryz.zeroValue219
  t53 := Tryz.underlying248
  a53 := Tryz.isAgg248
  z53 := Tryz.sizeOf248
  v53 := Tryz.zeroValue248
  t57 := Tryz.underlying252
  a57 := Tryz.isAgg252
  z57 := Tryz.sizeOf252
  v57 := Tryz.zeroValue252
  t63 := Tryz.underlying267
  a63 := Tryz.isAgg267
  z63 := Tryz.sizeOf267
  v63 := Tryz.zeroValue267
  t64 := Tryz.underlying87
  a64 := Tryz.isAgg87
  z64 := Tryz.sizeOf87
  v64 := Tryz.zeroValue87 }
end Go.Proofs

/- Layer 11: the owners of nodes, by the program: an iterator over the nodes, a map of numbers, its keys in order. -/
namespace Go.Proofs.YtchcejjoncihkaaGreatDoor
set_option linter.unusedVariables false
open Go.RowKit Go.Maps Go.Sort Go.Shelf
open Nam Tre
attribute [local go_sem] Oper.semAt_some

namespace Tab
/-- A number of the kind int. -/
abbrev I64 := { x : Int // (Lit.int .i64 x).wf = true }
def i64 (x : Int) : I64 := if h : (Lit.int .i64 x).wf = true then ⟨x, h⟩ else ⟨0, by decide⟩
theorem i64_val {x : Int} (h : (Lit.int .i64 x).wf = true) : (i64 x).1 = x := by unfold i64; rw [dif_pos h]
/-- Owners, as they come. -/
def us (L : List (Nv × Nod)) : List I64 := L.flatMap fun p => [i64 p.1.uid, i64 p.1.gid]
theorem us_length (L : List (Nv × Nod)) : (us L).length = 2 * L.length := by
  induction L with
  | nil => rfl
  | cons p r ih => simp [us] at ih ⊢; omega
theorem us_take (L : List (Nv × Nod)) (i : Nat) (h : i < L.length) : us (L.take (i + 1)) = (us (L.take i) ++ [i64 (gl L i).1.uid]) ++ [i64 (gl L i).1.gid] := by
  rw [gl_lt L i h, List.take_succ_eq_append_getElem h]
  unfold us
  rw [List.flatMap_append, List.append_assoc]
  rfl
/-- The owners are numbers. -/
def Wf (L : List (Nv × Nod)) : Prop := ∀ p ∈ L, (Lit.int .i64 p.1.uid).wf = true ∧ (Lit.int .i64 p.1.gid).wf = true
theorem Wf.at {L : List (Nv × Nod)} (h : Wf L) (i : Nat) (hi : i < L.length) : (Lit.int .i64 (gl L i).1.uid).wf = true ∧ (Lit.int .i64 (gl L i).1.gid).wf = true := h _ (gl_mem L i hi)
/-- All cells stay as they lay. -/
structure KeepC (W W' : World) : Prop where
  size : W.heap.size ≤ W'.heap.size
  same : ∀ (k : Nat) (o : Obj), W.heap[k]? = some o → o.isCells = true → W'.heap[k]? = some o
theorem KeepC.refl (W : World) : KeepC W W := ⟨Nat.le_refl _, fun _ _ h _ => h⟩
theorem KeepC.trans {A B C : World} (h : KeepC A B) (k : KeepC B C) : KeepC A C := ⟨Nat.le_trans h.size k.size, fun i o hi ho => k.same i o (h.same i o hi ho) ho⟩
theorem KeepC.put {W : World} {l : Nat} {o : Obj} (o' : Obj) (h : W.heap[l]? = some o) (hc : o.isCells = false) : KeepC W (W.putObj l o') :=
  ⟨by simp, fun k o2 hk ho => by
    by_cases e : k = l
    · subst e; rw [h] at hk; cases hk; rw [hc] at ho; cases ho
    · exact (World.putObj_heap_other e).trans hk⟩
theorem KeepC.alloc (W : World) (o : Obj) : KeepC W (W.alloc o) := ⟨by simp, fun k o' hk _ => (Below.heap_alloc W o k (Array.getElem?_eq_some_iff.1 hk).1).trans hk⟩
theorem KeepC.grown {W W' : World} {b : Nat} (hg : W.grownBy W' (some b)) (hb : ∀ o : Obj, W.heap[b]? = some o → o.isCells = false) : KeepC W W' :=
  ⟨hg.size, fun k o hk ho => (hg.block k (Array.getElem?_eq_some_iff.1 hk).1 (fun e => by cases e; rw [hb o hk] at ho; cases ho)).trans hk⟩
theorem KeepC.cell {W W' : World} (h : KeepC W W') {a : Addr} {v : Value} (hc : W.cell? a = some v) : W'.cell? a = some v := by
  obtain ⟨o, ho, hi⟩ := cells_of_cell hc
  exact (World.cell?_of_block ((h.same _ o ho hi).trans ho.symm)).trans hc
theorem KeepC.nod {W W' : World} {b o : Nat} {v : Nv} (h : KeepC W W') (hn : NodAt W b o v) : NodAt W' b o v :=
  ⟨h.cell hn.c0, h.cell hn.c1, h.cell hn.c2, h.cell hn.c3, h.cell hn.c4, h.cell hn.c5, h.cell hn.c6, h.cell hn.c7, h.cell hn.c8, h.cell hn.c9⟩
end Tab
open Tab

set_option maxRecDepth 100000 in
set_option maxHeartbeats 4000000 in
theorem owners1_in (n l Bn k c : Nat) (hn : 2 ≤ n) (ao : Option Addr) (L : List (Nv × Nod)) (J Jx : List I64 → World → Prop) (W0 : World) (hJ : AbidesFrom W0.heap.size J)
    (hY : ∀ pre x W, J pre W → pre.length < (us L).length → YieldAt Fence.wide (n - 1) Tryz.prog l #[.int .i64 x.1] W fun e W' =>
      (e = .returned (.bool true) ∧ J (pre ++ [x]) W' ∧ KeepC W W') ∨ (e = .returned (.bool false) ∧ Jx (pre ++ [x]) W'))
    (hBn : W0.cell? ⟨Bn, 0, none⟩ = some (.slice ao k c)) (hL : Ns W0 ao k L) (hk : k ≤ 1000000) (hw : Wf L) (h0 : J [] W0) :
    CallsIn Fence.wide n Tryz.prog 168 #[.func (.yield l) #[] #[], .pointer (some ⟨Bn, 0, none⟩)] W0 fun e W' => (∃ v, e = .returned v) ∧ ((∃ ys, ys = us L ∧ J ys W') ∨ (∃ pre, True ∧ Jx pre W')) := by
  have hlen := hL.1
  have h1n : 1 ≤ n := by omega
  have HL := hide hL
  have HY : Hid (∀ pre x W, J pre W → pre.length < (us L).length → YieldAt Fence.wide (n - 1) Tryz.prog l #[.int .i64 x.1] W fun e W' =>
      (e = .returned (.bool true) ∧ J (pre ++ [x]) W' ∧ KeepC W W') ∨ (e = .returned (.bool false) ∧ Jx (pre ++ [x]) W')) := hY
  clear hY hL
  refine callsIn_of_wp Tryz.func168 rfl trivial ?_ rfl
  simp only [Tryz.ntmps168, List.size_toArray, List.length_cons, List.length_nil, Nat.reduceAdd, Nat.reduceSub, Array.replicate_succ, Array.replicate_zero, List.push_toArray, List.append_toArray, List.nil_append, List.cons_append]
  gi_wp2
  gi_loopw [7] (fun r wr => ∃ (i : Nat), r = .int .i64 i ∧ i ≤ k ∧ J (us (L.take i)) wr ∧ KeepC W0 wr) (fun r _ => k - (intOf r).toNat)
  case atStart => exact ⟨0, rfl, Nat.zero_le _, h0, KeepC.refl _⟩
  case round =>
    obtain ⟨i, rfl, hi0, hJi, hki⟩ := hrel
    by_cases hp : i < k
    · obtain ⟨b, off, rfl, hb, hN⟩ := HL.out.at (by omega)
      obtain ⟨v, hv⟩ : ∃ v, (gl L i).1 = v := ⟨_, rfl⟩
      obtain ⟨w1, w2⟩ := hw.at i (by omega)
      have HT := hide (us_take L i (by omega))
      have hul := us_length (L.take i)
      have huL := us_length L
      rw [List.length_take, Nat.min_eq_left (by omega)] at hul
      have hNi := hki.nod (hN i hp)
      rw [hv] at hNi w1 w2 HT
      obtain ⟨c0, c1, c2, c3, c4, c5, c6, c7, c8, c9⟩ := hNi
      have hd : (i : Int) < (k : Int) := by omega
      obtain ⟨W1, hW1⟩ : ∃ W1, wr.alloc (.cells #[.slice v.na v.nn v.nc, .int .i64 v.ino, .int .i64 v.kind, .int .i64 v.mode, .int .i64 v.uid, .int .i64 v.gid, .slice v.da v.dn v.dc, .string v.tg, .slice v.xa v.xn v.xc, .bool v.op] 37) = W1 := ⟨_, rfl⟩
      have hJ1 : J (us (L.take i)) W1 := by rw [← hW1]; exact hJ _ _ _ none hJi (World.grownBy_alloc _ _ _) (fun r e => by cases e)
      have hk1 : KeepC W0 W1 := by rw [← hW1]; exact hki.trans (KeepC.alloc _ _)
      have hg : W1.cell? ⟨wr.heap.size, 5, none⟩ = some (.int .i64 v.gid) := by rw [← hW1]; exact (boxed wr v).c5
      obtain ⟨fn, tmps, assign, body, hy, hR⟩ := HY.out (us (L.take i)) (i64 v.uid) W1 hJ1 (by omega)
      rw [i64_val w1] at hy
      rw [← hW1] at hy
      have hsz : wr.heap.size < W1.heap.size := by rw [← hW1]; simp
      have HW := hide hW1
      clear hW1 hv
      gi_wp2
      rw [HW.out]
      refine hR.mono ?_
      rintro e W3 (⟨rfl, hJ3, hk3⟩ | ⟨rfl, hJx3⟩)
      · have hg3 := hk3.cell hg
        obtain ⟨fn, tmps, assign, body, hy, hR⟩ := HY.out _ (i64 v.gid) W3 hJ3 (by simp; omega)
        rw [i64_val w2] at hy
        gi_wp2
        refine hR.mono ?_
        rintro e W4 (⟨rfl, hJ4, hk4⟩ | ⟨rfl, hJx4⟩)
        · gi_wp2
          go_roundw
          case rel => exact ⟨i + 1, rfl, by omega, by rw [HT.out]; exact hJ4, (hk1.trans hk3).trans hk4⟩
          case measure => simp [intOf]; omega
        · gi_wp2
          refine bodyPost_ret (results_none rfl _ _ _) rfl ?_
          exact ⟨⟨_, rfl⟩, .inr ⟨_, trivial, hJx4⟩⟩
      · gi_wp2
        refine ⟨fun _ h => (by cases h), ?_⟩
        gi_wp2
        refine bodyPost_ret (results_none rfl _ _ _) rfl ?_
        exact ⟨⟨_, rfl⟩, .inr ⟨_, trivial, hJx3⟩⟩
    · obtain rfl : i = k := by omega
      gi_wp2
      go_end0
      exact ⟨⟨_, rfl⟩, .inl ⟨_, by rw [List.take_of_length_le (by omega)], hJi⟩⟩
theorem owners_in (n : Nat) (a : Option Addr) (k c : Nat) (w : World) : CallsIn Fence.wide n Tryz.prog 114 #[.slice a k c] w fun e w' => e = .returned (.func (.func 168) #[] #[.pointer (some ⟨w.heap.size, 0, none⟩)]) ∧ w' = w.alloc (.cells #[.slice a k c] 22) := by
  refine callsIn_of_wp Tryz.func114 rfl trivial ?_ rfl
  simp only [Tryz.ntmps114, List.size_toArray, List.length_cons, List.length_nil, Nat.reduceAdd, Nat.reduceSub, Array.replicate_succ, Array.replicate_zero, List.push_toArray, List.append_toArray, List.nil_append, List.cons_append]
  gi_wp2
  go_ret
  exact ⟨rfl, rfl⟩
theorem owners_stops (n : Nat) (hn : 2 ≤ n) (Bn k c : Nat) (ao : Option Addr) (L : List (Nv × Nod)) (w : World) (hBn : Bn < w.heap.size) (hc : w.cell? ⟨Bn, 0, none⟩ = some (.slice ao k c)) (hL : Ns w ao k L) (hk : k ≤ 1000000) (hw : Wf L) :
    SeqStopsK Fence.wide n Tryz.prog 168 #[.pointer (some ⟨Bn, 0, none⟩)] (fun x : I64 => #[Value.int .i64 x.1]) KeepC (fun ys => ys = us L) (fun _ => True) (us L).length w := fun l J Jx W hW hJ _ hY h0 =>
  owners1_in n l Bn k c hn ao L J Jx W hJ hY ((hW.cell (p := ⟨Bn, 0, none⟩) hBn).trans hc) (hL.below hW) hk hw h0
namespace Tab
/-- The map of numbers. -/
def sD (xs : List I64) : DataW Value := xs.foldl (fun D x => D.put (.int .i64 x.1) (.held (.agg #[]))) (.map [])
theorem sD_snoc (pre : List I64) (x : I64) : sD (pre ++ [x]) = (sD pre).put (.int .i64 x.1) (.held (.agg #[])) := by simp [sD]
theorem put_isMap {D : DataW Value} (h : IsMap D) (k : Lit) (d : DataW Value) : IsMap (D.put k d) := by
  obtain ⟨es, rfl⟩ := h
  exact ⟨_, rfl⟩
theorem fold_has (x : Int) : ∀ (xs : List I64) (D : DataW Value), IsMap D → (has (xs.foldl (fun D x => D.put (.int .i64 x.1) (.held (.agg #[]))) D) (.int .i64 x) = true ↔ has D (.int .i64 x) = true ∨ x ∈ xs.map (·.1))
  | [], D, h => by simp
  | y :: r, D, h => by
    rw [List.foldl_cons, fold_has x r _ (put_isMap h _ _)]
    by_cases e : x = y.1
    · have : has (D.put (.int .i64 y.1) (.held (.agg #[]))) (.int .i64 x) = true := by rw [e]; exact Maps.has_put_same h (show WideAt.IsKeyLit (.int .i64 y.1) from trivial) _
      rw [this]
      simp [e]
    · have : has (D.put (.int .i64 y.1) (.held (.agg #[]))) (.int .i64 x) = has D (.int .i64 x) := Maps.has_put_other (by simp; exact e) _
      rw [this]
      simp [e]
theorem sD_has (xs : List I64) (x : Int) : has (sD xs) (.int .i64 x) = true ↔ x ∈ xs.map (·.1) := by
  rw [sD, fold_has x xs _ isMap_empty]
  simp [has_eq]
end Tab
theorem sorts_in (m : Nat) : AnyZI.SortsIn Tryz.prog sortedL_ren Fence.wide m :=
  ⟨fun blk off cap ss W hH hblk hsz => callsIn_wide.2 (AnyM.slices_Sort_int sortL blk off cap ss W hH hblk hsz),
   fun p cap W => callsIn_wide.2 (AnyM.slices_Sort_int_none sortL p cap W)⟩
/-- The owners: rising, and just those of the nodes. -/
def OwnersOf (L : List (Nv × Nod)) (R : List Int) : Prop := R.Pairwise (· < ·) ∧ ∀ x, x ∈ R ↔ x ∈ (us L).map (·.1)
theorem owners_sorted {W : World} {b n : Nat} {L : List (Nv × Nod)} {ss : List Int} (hown : W.ownsMap Tryz.prog 3 HV b n (sD (us L))) (h1 : ss.Perm (intKeys (sD (us L)))) (h2 : ∀ x, x ∈ ss ↔ has (sD (us L)) (.int .i64 x) = true) :
    OwnersOf L (ss.mergeSort (fun x y => decide (x ≤ y))) := by
  have hnd : ss.Nodup := by
    rw [h1.nodup_iff]
    obtain ⟨es, hD, hpw, _⟩ := hown.entries (Maps.int_keyed Tryz.underlying3)
    obtain ⟨es', hD', hko⟩ := hown.keysOf
    obtain rfl : es = es' := by rw [hD] at hD'; simpa using hD'
    rw [hD]
    show (es.map fun p => Go.intOf p.1).Nodup
    refine List.pairwise_map.2 (hpw.imp_of_mem fun {p q} hp' hq' hne e => hne ?_)
    obtain ⟨v, hv⟩ := hko p hp'
    obtain ⟨x, _, hx, _⟩ := Maps.keyOf_i64 Tryz.underlying3 hv
    obtain ⟨u, hu⟩ := hko q hq'
    obtain ⟨y, _, hy, _⟩ := Maps.keyOf_i64 Tryz.underlying3 hu
    rw [hx, hy] at e ⊢
    exact congrArg _ e
  refine ⟨?_, fun x => ?_⟩
  · have tr : ∀ a b c : Int, decide (a ≤ b) = true → decide (b ≤ c) = true → decide (a ≤ c) = true := fun a b c h1 h2 => by simp only [decide_eq_true_eq] at *; omega
    have to : ∀ a b : Int, (decide (a ≤ b) || decide (b ≤ a)) = true := fun a b => by simp only [Bool.or_eq_true, decide_eq_true_eq]; omega
    have hs := List.pairwise_mergeSort tr to ss
    have hn2 : (ss.mergeSort (fun x y => decide (x ≤ y))).Nodup := (List.mergeSort_perm ss _).nodup_iff.2 hnd
    refine (hs.and hn2).imp (fun {a b} h => ?_)
    have h1 := of_decide_eq_true h.1
    have h2 := h.2
    omega
  · rw [(List.mergeSort_perm ss _).mem_iff, h2, sD_has]
set_option maxRecDepth 100000 in
set_option maxHeartbeats 16000000 in
theorem IDs_any (a : Option Addr) (k c : Nat) (L : List (Nv × Nod)) (w : World) (hL : Ns w a k L) (hk : k ≤ 1000000) (hw : Wf L) :
    Calls Tryz.prog 56 #[.slice a k c] w fun e w' => ∃ v R, e = .returned v ∧ w'.ownsRow w.heap.size 3 1 v R.length (R.map encZ) ∧ OwnersOf L R ∧ Below w.heap.size w w' := by
  refine (callsIn_wide (n := 12)).1 ?_
  have hmm := @run_makeMap Tryz.prog
  have hf1 : Fence.wide.fn 114 := trivial
  refine callsIn_of_wp_marks Tryz.func56 rfl trivial ?_ rfl
  simp only [Tryz.ntmps56, List.size_toArray, List.length_cons, List.length_nil, Nat.reduceAdd, Nat.reduceSub, Array.replicate_succ, Array.replicate_zero, List.push_toArray, List.append_toArray, List.nil_append, List.cons_append]
  gi_wp2_with (gi_at_call 114; refine (owners_in _ _ _ _ _).mono ?_; rintro e w' ⟨rfl, rfl⟩)
  have hm0 := World.ownsMap_made w Tryz.prog 3 HV
  have cS := Go.Boxed.new (w.alloc (.map #[] 0)) 171 (.map (some w.heap.size))
  have cN := Go.Boxed.new ((w.alloc (.map #[] 0)).alloc (.cells #[.map (some w.heap.size)] 171)) 22 (.slice a k c)
  simp only [World.size_alloc] at cS cN
  have hB0 : Below w.heap.size w (((w.alloc (.map #[] 0)).alloc (.cells #[.map (some w.heap.size)] 171)).alloc (.cells #[.slice a k c] 22)) := (((Below.refl _ w).alloc (Nat.le_refl _) _).alloc (by simp) _).alloc (by simp; omega) _
  have hL0 := hL.below hB0
  refine wpIn_rangeFunc_ownG rfl (by omega) (gf := 168) (lb := #[.pointer (some ⟨w.heap.size + 1 + 1, 0, none⟩)]) rfl trivial (enters_of Tryz.func168 (by kernel_rfl) rfl)
    (owners_stops _ (by omega) (w.heap.size + 1 + 1) k c a L _ (by simp) cN.cell hL0 hk hw) (fun h h' => h.trans h') (fun W l o o' _ h1 h2 _ => KeepC.put o' h1 h2) (Below.refl _ _) (fun _ => rfl)
    (fun pre W => (W.cell? ⟨w.heap.size + 1, 0, none⟩ = some (.map (some w.heap.size)) ∧ W.ownsMap Tryz.prog 3 HV w.heap.size pre.length (sD pre)) ∧ Below w.heap.size w W)
    (fun _ _ _ => False)
    (OwnFrom.and (fun s A B row hs hg hr => ⟨cell_kept hs.1 hg (fun r e => (hr r e).2), hs.2.kept hg (fun e => by have := (hr _ e.symm).1; simp at this; omega)⟩) (ownFrom_below (Nat.le_refl _) (by simp; omega)))
    (fun _ _ _ _ _ hs _ _ => hs)
    ⟨⟨(cS.alloc _).cell, (hm0.alloc _).alloc _⟩, hB0⟩
    (fun x => { tmps := #[.slice a k c, undef, .slice none 0 0, .pointer (some ⟨w.heap.size + 1, 0, none⟩), .int .i64 x.1, .map (some w.heap.size), .slice a k c, .func (.func 168) #[] #[.pointer (some ⟨w.heap.size + 1 + 1, 0, none⟩)], .int .i64 x.1, undef, undef, undef, undef, undef, undef], defers := [] }) ?assign ?body ?done ?stop
  case assign =>
    intro l x W K hK
    gi_wp2
    exact hK
  case body =>
    rintro l pre x W ⟨⟨hc, hown⟩, hB⟩ hlt
    gi_wp2_with (gi_at_mapUpdate; refine wpListIn_mapUpdate_own _ rfl _ _ _ 171 rfl 3 175 (Maps.int_keyed Tryz.underlying3) Tryz.underlying171 _ w.heap.size pre.length _ rfl hown (by rw [us_length] at hlt; unfold maxLen; have := hL.1; omega) _ _ _ rfl rfl (Maps.keyOf_int_mk Tryz.underlying3 x.2) _ [] rfl ?_; intro w1 hown1 hgrow1)
    obtain ⟨es, ck, hh, _⟩ := hown
    exact ⟨KeepsFrom.of_grownBy hgrow1 (fun j e => by cases e; simp; omega), KeepC.grown hgrow1 (fun o ho => by rw [hh] at ho; cases ho; rfl),
      ⟨cell_kept hc hgrow1 (fun r e => by cases e; exact ⟨_, hh, rfl⟩), by rw [sD_snoc, List.length_append]; exact hown1⟩, hB.grown hgrow1 hB.size (fun k e => by cases e; exact Nat.le_refl _)⟩
  case done =>
    rintro D ys W hD rfl ⟨⟨hc, hown⟩, hB⟩ hK
    have hDl := (Array.getElem?_eq_some_iff.1 hK).1
    have hDw : w.heap.size ≤ D := by simp at hD; omega
    have hcnt : Maps.size (sD (us L)) ≤ 2000000 := by
      obtain ⟨es, clock, h1, h2, h3, h4⟩ := hown
      rw [h4]
      simp [Maps.size, length_sorted]
      have := us_length L
      have := hL.1
      omega
    have hbox := Go.Boxed.new W 171 (.map (some w.heap.size))
    have hseq : SeqGives Fence.wide 8 Tryz.prog 171 #[.pointer (some ⟨W.heap.size, 0, none⟩)] encZ _ (Maps.size (sD (us L))) (W.alloc (.cells #[.map (some w.heap.size)] 171)) :=
      (AnyZI.keys_stops (ρ := keysL_ren) { keysL with } Fence.wide 8 trivial rfl (by omega) W.heap.size w.heap.size _ (sD (us L)) _ (by simp) hbox.cell (hown.alloc _)).gives
    have cK : ∀ mb W, CallsIn Fence.wide 11 Tryz.prog 116 #[.map mb] W fun e w' => e = .returned (.func (.func 171) #[] #[.pointer (some ⟨W.heap.size, 0, none⟩)]) ∧ w' = W.alloc (.cells #[.map mb] 171) := fun mb W => AnyZI.keys_in keysL Fence.wide 11 trivial rfl mb W
    have cS := AnyZI.sorted_in sortedL Fence.wide 11 trivial trivial trivial trivial rfl (by omega) (sorts_in _) (enters_of Tryz.func170 (by kernel_rfl) rfl) 171 #[.pointer (some ⟨W.heap.size, 0, none⟩)] trivial (enters_of Tryz.func171 (by kernel_rfl) rfl) _ _ (by unfold maxLen; omega) (by omega) _ hseq
    change CallsIn _ _ Tryz.prog 115 _ _ _ at cS
    have hfK : Fence.wide.fn 116 := trivial
    have hfS : Fence.wide.fn 115 := trivial
    gi_wp2_with (first
      | (gi_at_call 116; refine (cK _ _).mono ?_; rintro e w' ⟨rfl, rfl⟩)
      | (gi_at_call 115; refine cS.mono ?_; rintro e W5 ⟨v, ss, rfl, hS, hrow, hnil, hb⟩))
    have hK5 : W5.heap[D]? = some (.deferred (some [])) := (hb.block D (by simp; omega)).trans ((Below.heap_alloc _ _ D hDl).trans hK)
    have hB5 : Below w.heap.size w W5 := hB.trans (((Below.refl w.heap.size W).alloc hB.size _).trans (hb.mono (by simp; have := hB.size; omega)))
    refine ⟨by simp, .inl ⟨_, _, rfl, run_takeDeferred hK5, ?_⟩⟩
    refine ⟨_, results_tmp rfl _ _ _, v, ss.mergeSort (fun x y => decide (x ≤ y)), rfl, ?_, ?_, hB5.trans (belowK_b (w := w) (Nat.le_refl _) W5 D _ _ hDw hK5 rfl rfl)⟩
    · rw [List.length_mergeSort]
      exact ownsRow_putObj (ownsRow_base_a hrow (by simp; have := hB.size; omega)) _ hK5 rfl
    · exact owners_sorted hown hS.1 hS.2
  case stop =>
    rintro D c pre W _ _ h _
    exact h.elim
end Go.Proofs.YtchcejjoncihkaaGreatDoor

/- Layer 8: whether a superblock may be, by the program. -/
namespace Go.Proofs.YtchcejjoncihkaaGreatDoor
set_option linter.unusedVariables false
open Go.RowKit Go.Maps
open Sup

/-- A superblock's cells. -/
def sbv (s : Sb) : Array Value := #[.int .i64 s.size, .int .i64 s.inodes, .int .i64 s.inodeAt, .int .i64 s.dirAt, .int .i64 s.fragAt, .int .i64 s.idAt, .int .i64 s.xattrAt, .int .i64 s.ids, .int .i64 s.frags, .int .i64 s.root]
/-- The places that must not fall. -/
def pl (s : Sb) : Nat → Int
  | 0 => 64
  | 1 => s.inodeAt
  | 2 => s.dirAt
  | 3 => s.fragAt
  | 4 => s.idAt
  | 5 => s.xattrAt
  | 6 => s.size
  | _ => 1048576
theorem rises_pl (s : Sb) : rises 8 (pl s) = s.srt := by
  unfold rises Sb.srt
  rw [decide_eq_decide]
  constructor
  · intro h
    exact ⟨h 0 (by omega), h 1 (by omega), h 2 (by omega), h 3 (by omega), h 4 (by omega), h 5 (by omega), h 6 (by omega)⟩
  · rintro ⟨h0, h1, h2, h3, h4, h5, h6⟩ i hi
    match i, hi with
    | 0, _ => exact h0
    | 1, _ => exact h1
    | 2, _ => exact h2
    | 3, _ => exact h3
    | 4, _ => exact h4
    | 5, _ => exact h5
    | 6, _ => exact h6
theorem sorted_at (q : Bool) (b c : Nat) (s : Sb) (w : World) (t : TypeId) (hq : s.srt = q) (hb : b = w.heap.size) :
    Calls Tryz.prog 87 #[.slice (some ⟨b, 0, none⟩) 8 c] (w.alloc (.cells #[.int .i64 64, .int .i64 s.inodeAt, .int .i64 s.dirAt, .int .i64 s.fragAt, .int .i64 s.idAt, .int .i64 s.xattrAt, .int .i64 s.size, .int .i64 1048576] t)) fun e w' => e = .returned (.bool q) ∧ ∃ n, w' = (w.alloc (.cells #[.int .i64 64, .int .i64 s.inodeAt, .int .i64 s.dirAt, .int .i64 s.fragAt, .int .i64 s.idAt, .int .i64 s.xattrAt, .int .i64 s.size, .int .i64 1048576] t)).drewN n := by
  subst hq hb
  rw [← rises_pl]
  refine IsSorted_any w.heap.size 8 c (pl s) _ (fun i hi => ?_) (by omega) (by omega)
  rw [cell_of_row _ w.heap.size i _ _ _ (heap_alloc_new _ _)]
  match i, hi with
  | 0, _ => rfl
  | 1, _ => rfl
  | 2, _ => rfl
  | 3, _ => rfl
  | 4, _ => rfl
  | 5, _ => rfl
  | 6, _ => rfl
  | 7, _ => rfl
set_option maxRecDepth 100000 in
set_option maxHeartbeats 16000000 in
theorem sMay_any (s : Sb) (w : World) : Calls Tryz.prog 38 #[.agg (sbv s)] w fun e w' => e = .returned (.bool s.may) ∧ Below w.heap.size w w' := by
  unfold sbv
  have HB : Hid (∀ (o o' : Obj) (n : Nat), Below w.heap.size w (((w.alloc o).alloc o').drewN n)) := fun o o' n => below_drewN (((Below.refl _ _).alloc (Nat.le_refl _) _).alloc (by simp) _) n
  cases h0 : s.srt with
  | false =>
    have HM : Hid (s.may = false) := by show _ = _; unfold Sb.may; rw [h0]; rfl
    have H0 := hide h0
    clear h0
    go_enter Tryz.func38, Tryz.ntmps38
    go_wp2_with (first
      | (go_at_call 88; refine (sWithin_any _ _ _ _).mono ?_; rintro e w1 ⟨rfl, rfl⟩)
      | (go_at_call 87; refine (sorted_at _ (w.heap.size + 1) 8 s _ _ H0.out (by simp)).mono ?_; rintro e w1 ⟨rfl, n, rfl⟩))
    go_ret
    exact ⟨ret_bool HM.out.symm, HB.out _ _ _⟩
  | true =>
    have H0 := hide h0
    cases h1 : inn s.inodes 1 1024 with
    | false =>
      have HM : Hid (s.may = false) := by show _ = _; unfold Sb.may; rw [h0, h1]; rfl
      clear h0
      go_enter Tryz.func38, Tryz.ntmps38
      go_wp2_with (first
        | (go_at_call 88; refine (sWithin_any _ _ _ _).mono ?_; rintro e w1 ⟨rfl, rfl⟩)
        | (go_at_call 87; refine (sorted_at _ (w.heap.size + 1) 8 s _ _ H0.out (by simp)).mono ?_; rintro e w1 ⟨rfl, n, rfl⟩))
      go_ret
      exact ⟨ret_bool HM.out.symm, HB.out _ _ _⟩
    | true =>
      cases h2 : inn s.ids 1 2048 with
      | false =>
        have HM : Hid (s.may = false) := by show _ = _; unfold Sb.may; rw [h0, h1, h2]; rfl
        clear h0
        go_enter Tryz.func38, Tryz.ntmps38
        go_wp2_with (first
          | (go_at_call 88; refine (sWithin_any _ _ _ _).mono ?_; rintro e w1 ⟨rfl, rfl⟩)
          | (go_at_call 87; refine (sorted_at _ (w.heap.size + 1) 8 s _ _ H0.out (by simp)).mono ?_; rintro e w1 ⟨rfl, n, rfl⟩))
        go_ret
        exact ⟨ret_bool HM.out.symm, HB.out _ _ _⟩
      | true =>
        cases h3 : inn s.frags 0 1024 with
        | false =>
          have HM : Hid (s.may = false) := by show _ = _; unfold Sb.may; rw [h0, h1, h2, h3]; rfl
          clear h0
          go_enter Tryz.func38, Tryz.ntmps38
          go_wp2_with (first
            | (go_at_call 88; refine (sWithin_any _ _ _ _).mono ?_; rintro e w1 ⟨rfl, rfl⟩)
            | (go_at_call 87; refine (sorted_at _ (w.heap.size + 1) 8 s _ _ H0.out (by simp)).mono ?_; rintro e w1 ⟨rfl, n, rfl⟩))
          go_ret
          exact ⟨ret_bool HM.out.symm, HB.out _ _ _⟩
        | true =>
          have HM : Hid (s.may = inn s.root 0 4294967295) := by show _ = _; unfold Sb.may; rw [h0, h1, h2, h3]; rfl
          clear h0
          go_enter Tryz.func38, Tryz.ntmps38
          go_wp2_with (first
            | (go_at_call 88; refine (sWithin_any _ _ _ _).mono ?_; rintro e w1 ⟨rfl, rfl⟩)
            | (go_at_call 87; refine (sorted_at _ (w.heap.size + 1) 8 s _ _ H0.out (by simp)).mono ?_; rintro e w1 ⟨rfl, n, rfl⟩))
          go_ret
          exact ⟨ret_bool HM.out.symm, HB.out _ _ _⟩
end Go.Proofs.YtchcejjoncihkaaGreatDoor

/- Layer 8: a superblock's bytes, by the program: numbersOf, blockOf. -/
namespace Go.Proofs.YtchcejjoncihkaaGreatDoor
set_option linter.unusedVariables false
open Go.RowKit Go.Maps
open Lz (g)
open Crc (ent more)
open Cur
open Sup

/-- The widths' cells: what the package variable holds. -/
def wdv : Array Value := #[.int .i64 4, .int .i64 4, .int .i64 4, .int .i64 4, .int .i64 4, .int .i64 4, .int .i64 4, .int .i64 2, .int .i64 2, .int .i64 2]
def Wid (w : World) : Prop := ∃ t fz, w.heap[0]? = some (.cells wdv t fz)
theorem Wid.below {w w' : World} {B : Nat} (h : Wid w) (hb : Below B w w') (hB : 0 < B) : Wid w' := by
  obtain ⟨t, fz, h⟩ := h
  exact ⟨t, fz, (hb.block 0 hB).trans h⟩
theorem Wid.pos {w : World} (h : Wid w) : 0 < w.heap.size := by
  obtain ⟨t, fz, h⟩ := h
  exact heap_lt h
theorem Wid.cell {w : World} (h : Wid w) (i : Nat) (hi : i < 10) : w.cell? ⟨0, i, none⟩ = some (.int .i64 (wd i)) := by
  obtain ⟨t, fz, h⟩ := h
  rw [cell_of_row w 0 i _ _ _ h]
  match i, hi with
  | 0, _ => rfl
  | 1, _ => rfl
  | 2, _ => rfl
  | 3, _ => rfl
  | 4, _ => rfl
  | 5, _ => rfl
  | 6, _ => rfl
  | 7, _ => rfl
  | 8, _ => rfl
  | 9, _ => rfl
/-- The numbers' cells, in the order in which they stand in a block. -/
def nv (s : Sb) : Array Value := #[.int .i64 s.size, .int .i64 s.inodeAt, .int .i64 s.dirAt, .int .i64 s.fragAt, .int .i64 s.idAt, .int .i64 s.xattrAt, .int .i64 s.root, .int .i64 s.inodes, .int .i64 s.ids, .int .i64 s.frags]
theorem nv_at (s : Sb) (i : Nat) (hi : i < 10) : (nv s)[i]? = some (.int .i64 (s.n i)) := by
  match i, hi with
  | 0, _ => rfl
  | 1, _ => rfl
  | 2, _ => rfl
  | 3, _ => rfl
  | 4, _ => rfl
  | 5, _ => rfl
  | 6, _ => rfl
  | 7, _ => rfl
  | 8, _ => rfl
  | 9, _ => rfl
theorem infoSuper : (Tryz.prog.info? 45).map (·.size) = some 10 := by kernel_rfl
theorem infoNums : (Tryz.prog.info? 149).map (·.size) = some 10 := by kernel_rfl
theorem infoBlock : (Tryz.prog.info? 96).map (·.size) = some 64 := by kernel_rfl
set_option maxRecDepth 100000 in
theorem numbersOf_any (s : Sb) (w : World) : Calls Tryz.prog 90 #[.agg (sbv s)] w fun e w' => e = .returned (.agg (nv s)) ∧ Below w.heap.size w w' := by
  unfold sbv
  go_enter Tryz.func90, Tryz.ntmps90
  go_wp2
  refine bodyPost_ret (v := .agg (nv s)) ?_ rfl ⟨rfl, ((Below.refl _ _).alloc (Nat.le_refl _) _).alloc (by simp) _⟩
  exact results_cell_row rfl _ _ (w.heap.size + 1) 149 (nv s) (0, 0) _ rfl (heap_new (by simp)) Tryz.underlying149 rfl infoNums
/-- Bytes as a block's cells. -/
def bl (zs : List Int) : Array Value := (bv zs).toArray
theorem zero64 : (Tryz.prog.info? 96).map (fun i => (i.zero, i.size)) = some (some (.agg (Array.replicate 64 (.int .u8 0))), 64) := by kernel_rfl
theorem run_index_int {t : TypeId} {n : Nat} (w : World) (C : Array Value) (i : Nat) (x : Int) (ht : Tryz.prog.underlying t = some (.array n 3)) (hi : i < n) (hC : C[i]? = some (.int .i64 x)) : (Instr.index t (.agg C) (.int .i64 i)).run Tryz.prog w = .ok (.int .i64 x) w := by
  simp [Instr.index, run_underlying ht, run_underlying Tryz.underlying3, asIntOf, part, isAgg, hC, go_sem]
  intro h; omega
theorem wNum_pre {s : Sb} (h : s.ok) (i : Nat) (hi : i < 10) : wNum (s.n i) (wd i) (pre s i, 0) = (pre s (i + 1), 0) := by
  have h1 := ok_fits h i hi
  have h2 := wd_fit i
  unfold wNum wByt
  rw [if_pos ⟨by omega, by omega, h1.1, by simpa using h1.2⟩, if_pos rfl, pre_succ]
  simp
theorem n_64 {s : Sb} (h : s.ok) (i : Nat) (hi : i < 10) : -9223372036854775808 ≤ s.n i ∧ s.n i ≤ 9223372036854775807 := by
  have h1 := ok_fits h i hi
  have h2 := pow256 (wd_fit i).2
  omega
theorem bl_size (T : Nat → Nat) (s : Sb) : (bl (put T s)).size = 64 := by simp [bl, bv, put_length]
theorem bl_one (zs : List Int) : (bl zs).all (·.oneCell') = true := by
  rw [Array.all_eq_true]
  intro i hi
  exact bv_one zs _ (by simp [bl])
theorem splice_full {T : Nat → Nat} {s : Sb} {F : List Int} (hF : F.length = 42) (hB : F ++ List.replicate 22 0 = put T s) : (splice (List.replicate 64 (Value.int .u8 0)) 0 (bv F)).toArray = bl (put T s) := by
  rw [← hB]
  unfold splice bl
  rw [bv_append, bv_length, hF]
  congr 1
theorem ssrc_of {w : World} {ao : Option Addr} {n : Nat} {zs : List Int} (h : Bs w ao n zs) (hn : n ≠ 0) : ∃ ad, ao = some ad ∧ ∀ j v, (bv zs)[j]? = some v → w.cell? (ad.add j) = some v := by
  obtain ⟨hz, hby, h0 | ⟨b, off, rfl, hb, hs⟩⟩ := h
  · omega
  · refine ⟨_, rfl, ?_⟩
    have := news_seg hs n
    rw [List.take_of_length_le (by omega)] at this
    exact this
set_option maxRecDepth 100000 in
set_option maxHeartbeats 16000000 in
theorem blockOf_any (tb : Nat) (T : Nat → Nat) (s : Sb) (w : World) (hs : s.ok) (hS : Small T) (hT : Tb w tb T) (htb : tb < w.heap.size) (hW : Wid w) :
    Calls Tryz.prog 39 #[.pointer (some ⟨tb, 0, none⟩), .agg (sbv s)] w fun e w' => e = .returned (.agg (bl (put T s))) ∧ Below w.heap.size w w' := by
  have kc : ∀ (o1 o2 o3 : Obj) (C : Array Value) (n c : Nat), (convert 25 25 (.slice (some ⟨w.heap.size + 1 + 1 + 1, 0, none⟩) n c)).run Tryz.prog ((((w.alloc o1).alloc o2).alloc o3).alloc (.cells C 5)) = .ok (.slice (some ⟨w.heap.size + 1 + 1 + 1, 0, none⟩) n c) ((((w.alloc o1).alloc o2).alloc o3).alloc (.cells C 5 (C.size, C.size + 1))) := fun o1 o2 o3 C n c => by
    have := Lib.run_convert_bytes_const (P := Tryz.prog) (((w.alloc o1).alloc o2).alloc o3) 25 5 C n c Tryz.underlying25 Tryz.underlying5
    have e : (((w.alloc o1).alloc o2).alloc o3).heap.size = w.heap.size + 1 + 1 + 1 := by simp
    rw [e] at this
    exact this
  obtain ⟨hz, hi'⟩ := zero_of_info zero64
  have HT := hide hT
  have HW := hide hW
  have HS := hide hs
  clear hT hW hs
  obtain ⟨W2, hW2⟩ : ∃ W2, W2 = (w.alloc (.cells (sbv s) 45)).alloc (.cells (Array.replicate 64 (.int .u8 0)) 96) := ⟨_, rfl⟩
  obtain ⟨W3, hW3⟩ : ∃ W3, W3 = W2.alloc (.cells #[.slice none 0 0, .int .i64 0] 156) := ⟨_, rfl⟩
  obtain ⟨W4, hW4⟩ : ∃ W4, W4 = W3.alloc (.cells #[.int .u8 76, .int .u8 77, .int .u8 76, .int .u8 65] 5 (4, 5)) := ⟨_, rfl⟩
  have s2 : W2.heap.size = w.heap.size + 1 + 1 := by rw [hW2]; simp
  have s3 : W3.heap.size = w.heap.size + 1 + 1 + 1 := by rw [hW3]; simp [s2]
  have s4 : W4.heap.size = w.heap.size + 1 + 1 + 1 + 1 := by rw [hW4]; simp [s3]
  have s3' : W3.heap.size = W2.heap.size + 1 := by rw [s3, s2]
  have b2 : Below w.heap.size w W2 := by rw [hW2]; exact ((Below.refl _ _).alloc (Nat.le_refl _) _).alloc (by simp) _
  have b4 : Below W2.heap.size W2 W4 := by rw [hW4, hW3]; exact ((Below.refl _ _).alloc (Nat.le_refl _) _).alloc (by simp) _
  have HR0 : Hid (W2.heap[w.heap.size + 1]? = some (.cells (Array.replicate 64 (.int .u8 0)) 96 (0, 0))) := by rw [hW2]; exact heap_new (by simp)
  have HB0 : Hid (W2.heap[w.heap.size]? = some (.cells (sbv s) 45 (0, 0))) := by
    rw [hW2]; exact (Below.heap_alloc _ _ _ (by simp)).trans (heap_new rfl)
  have HP4 : Hid (WrP W4 W2.heap.size W3.heap.size (.slice none 0 0) ([], 0)) := by
    have h := WrP.new W2 W3.heap.size
    rw [← hW3] at h
    rw [hW4]; exact h.below ((Below.refl _ _).alloc (Nat.le_refl _) _)
  have HL4 : Hid (Bs W4 (some ⟨W3.heap.size, 0, none⟩) 4 [76, 77, 76, 65]) := by
    rw [hW4]; exact bs_new W3 (4, 5) [76, 77, 76, 65] (pre_bytes s 0)
  have HW2 := hide hW2
  have HW3 := hide hW3
  have HW4 := hide hW4
  have HB2 := hide b2
  have HB4 := hide b4
  clear hW2 hW3 hW4 b2 b4
  unfold sbv at HW2
  unfold sbv
  go_enter Tryz.func39, Tryz.ntmps39
  go_wp2_with fail
  rw [← HW2.out, ← HW3.out, ← HW4.out, ← s2, ← s3']
  refine (wBytes_any W2.heap.size W3.heap.size 4 4 (some ⟨W3.heap.size, 0, none⟩) (.slice none 0 0) [76, 77, 76, 65] ([], 0) W4 HP4.out (by omega) HL4.out (fun h => by simp at h) (by simp)).mono ?_
  rintro r w5 ⟨rfl, v5, h5, f5, l5⟩
  have b5 : Below W2.heap.size W2 w5 := HB4.out.trans ((f5.two_below (by omega) (Nat.le_refl _) (fun k hk => by simp [Value.ownBlock] at hk)))
  have hb5 : w5.heap[w.heap.size]? = some (.cells (sbv s) 45 (0, 0)) := (b5.block _ (by omega)).trans HB0.out
  have HP5 : Hid (WrP w5 W2.heap.size W3.heap.size v5 (pre s 0, 0)) := h5
  have HB5 := hide b5
  have HS2 := hide s2
  have HS3 := hide s3
  have hw2 : w.heap.size + 2 ≤ W2.heap.size := by omega
  have hw3 : W2.heap.size < W3.heap.size := by omega
  have hw5 : W3.heap.size ≤ w5.heap.size := by have := f5.size; omega
  clear h5 f5 l5 HP4 HL4 b5 s2 s3 s4 s3' HB4 kc
  go_wp2_with (refine wpList_load_row rfl _ _ rfl w.heap.size rfl 45 (sbv s) (0, 0) _ hb5 Tryz.underlying45 rfl infoSuper ?_)
  refine (numbersOf_any s w5).mono ?_
  rintro r w6 ⟨rfl, b6⟩
  have HB6 : Hid (Below W2.heap.size W2 w6) := HB5.out.trans (b6.mono HB5.out.size)
  have HP6 := hide (HP5.out.below b6)
  have hw6 : W3.heap.size ≤ w6.heap.size := Nat.le_trans hw5 b6.size
  obtain ⟨C, hC⟩ : ∃ C, C = nv s := ⟨_, rfl⟩
  rw [← hC]
  have HC := hide hC
  clear hC b6 hb5 HB5 HP5 hw5
  go_wp2
  go_loopw [14] (fun s14 wr => ∃ (i : Nat) (v : Value), s14 = .int .i64 i ∧ i ≤ 10 ∧ WrP wr W2.heap.size W3.heap.size v (pre s i, 0) ∧ Below W2.heap.size W2 wr ∧ W3.heap.size ≤ wr.heap.size) (fun s14 _ => 10 - (intOf s14).toNat)
  case atStart => exact ⟨0, v5, rfl, by omega, HP6.out, HB6.out, hw6⟩
  case round =>
    obtain ⟨i, v, rfl, hi, hP, hB, hsz⟩ := hrel
    have HP := hide hP
    have HB := hide hB
    clear hP hB HP6 HB6 hw6
    by_cases hlt : i < 10
    · have hlt' : (i : Int) < 10 := by omega
      have hcn : C[i]? = some (.int .i64 (s.n i)) := by rw [HC.out]; exact nv_at s i hlt
      have hcw : wr.cell? ⟨0, i, none⟩ = some (.int .i64 (wd i)) := ((HW.out.below HB2.out HW.out.pos).below HB.out (by omega)).cell i hlt
      have hix : ∀ w', (Instr.index 149 (.agg C) (.int .i64 i)).run Tryz.prog w' = .ok (.int .i64 (s.n i)) w' := fun w' => run_index_int w' C i _ Tryz.underlying149 hlt hcn
      have HN := hide (wNum_any W2.heap.size W3.heap.size v (s.n i) (wd i) (pre s i, 0) wr HP.out hsz (by have := pre_length s i; have := spot_le i hlt; simp only [*]; omega) (n_64 HS.out i hlt) (by have := wd_fit i; omega))
      clear hcn
      go_wp2_with fail
      refine HN.out.mono ?_
      rintro r w7 ⟨rfl, hD⟩
      rw [wNum_pre HS.out i hlt] at hD
      obtain ⟨v7, h7, f7, l7⟩ := hD
      have HP7 := hide h7
      have HB7 : Hid (Below W2.heap.size W2 w7) := HB.out.trans (f7.two_below (by omega) (Nat.le_refl _) (fun k hk => Nat.le_trans (Nat.le_of_lt hw3) (HP.out.base k hk)))
      have hw7 : W3.heap.size ≤ w7.heap.size := Nat.le_trans hsz f7.size
      clear h7 f7 l7 HN hix
      go_wp2
      go_roundw
      case rel => exact ⟨i + 1, v7, by go_num, by omega, HP7.out, HB7.out, hw7⟩
      case measure => simp [intOf]; omega
    · obtain rfl : i = 10 := by omega
      have HP' : Hid (WrP wr W2.heap.size W3.heap.size v (body s, 0)) := HP.out
      have hbl := body_length s
      have HTr : Hid (Tb wr tb T) := (HT.out.below HB2.out htb).below HB.out (by omega)
      clear HP
      go_wp2_with fail
      refine (Done_any W2.heap.size W3.heap.size v (body s, 0) wr HP'.out (by simp only [hbl]; omega)).mono ?_
      rintro r w7 ⟨ao7, c7, rfl, B7, hc7, hm7, nil7, b7⟩
      obtain ⟨S, hS'⟩ : ∃ S, S = more T 0 (body s) := ⟨_, rfl⟩
      have hSl : S < 4294967296 := by rw [hS']; exact Crc.more_lt hS _ (by omega)
      have HS7 : Hid (Calls Tryz.prog 92 #[.pointer (some ⟨tb, 0, none⟩), .slice ao7 38 c7] w7 fun e w' => e = .returned (.int .u32 S) ∧ w' = w7) := by
        have := Sum_any tb (body s).length c7 T ao7 (body s) w7 (HTr.out.below b7 (by omega)) hS B7 (by omega)
        rw [hbl, ← hS'] at this
        exact this
      have HP7 := hide (HP'.out.below b7)
      have HB7 : Hid (Below W2.heap.size W2 w7) := HB.out.trans (b7.mono HB.out.size)
      have hw7 : W3.heap.size ≤ w7.heap.size := Nat.le_trans hsz b7.size
      have HSm := hide hS'
      have HN8 := hide (wNum_any W2.heap.size W3.heap.size v S 4 (body s, 0) w7 HP7.out hw7 (by simp only [hbl]; omega) (by omega) (by omega))
      have HE8 : Hid (wNum S 4 (body s, 0) = (body s ++ by' 4 S, 0)) := by
        show _ = _
        unfold wNum wByt
        rw [if_pos ⟨by omega, by omega, by omega, by show (S : Int) < 256 ^ 4; omega⟩, if_pos rfl]; rfl
      clear B7 nil7 b7 HP' HTr HB hS'
      go_wp2_with fail
      refine HS7.out.mono ?_
      rintro r w8 ⟨rfl, hw8⟩
      obtain rfl := hw8.symm
      clear hw8 HS7
      go_wp2_with fail
      refine HN8.out.mono ?_
      rintro r w8 ⟨rfl, hD⟩
      rw [HE8.out] at hD
      obtain ⟨v8, h8, f8, l8⟩ := hD
      have HP8 := hide h8
      have HB8 : Hid (Below W2.heap.size W2 w8) := HB7.out.trans (f8.two_below (by omega) (Nat.le_refl _) (fun k hk => Nat.le_trans (Nat.le_of_lt hw3) (HP7.out.base k hk)))
      have hw8 : W3.heap.size ≤ w8.heap.size := Nat.le_trans hw7 f8.size
      clear h8 f8 l8 HN8 HE8 HP7 HB7
      go_wp2_with fail
      obtain ⟨w9, hw9⟩ : ∃ w9, w9 = w8.alloc (.cells (Array.replicate 64 (.int .u8 0)) 96) := ⟨_, rfl⟩
      rw [← hw9]
      have b89 : Below w8.heap.size w8 w9 := by rw [hw9]; exact (Below.refl _ _).alloc (Nat.le_refl _) _
      have z9 : w9.heap[w8.heap.size]? = some (.cells (List.replicate 64 (Value.int .u8 0)).toArray 96 (0, 0)) := by rw [hw9, List.toArray_replicate]; exact heap_new rfl
      have hlt9 : w8.heap.size < w9.heap.size := heap_lt z9
      obtain ⟨F, hF⟩ : ∃ F, F = body s ++ by' 4 S := ⟨_, rfl⟩
      have hFl : F.length = 42 := by rw [hF]; simp [hbl, by_length]
      rw [← hF] at HP8
      have HD : Hid (Calls Tryz.prog 93 #[.pointer (some ⟨W2.heap.size, 0, none⟩)] w9.drew fun r w' => ∃ ao c, r = .returned (.slice ao 42 c) ∧ Bs w' ao 42 F ∧ Below w9.heap.size w9 w') := by
        have hp : WrP w9.drew W2.heap.size W3.heap.size v8 (F, 0) := HP8.out.below (b89.trans ((Below.refl _ w9).drew.mono b89.size))
        refine (Done_any W2.heap.size W3.heap.size v8 (F, 0) w9.drew hp (by simp only [hFl]; omega)).mono ?_
        rintro r w' ⟨ao, c, rfl, h1, h2, h3, h4, h5⟩
        rw [hFl] at h1
        exact ⟨ao, c, by rw [hFl], h1, ⟨h5.os, h5.tape, h5.output, h5.size, h5.block⟩⟩
      have HF := hide hF
      have HZ9 := hide z9
      have HB9 : Hid (Below W2.heap.size W2 w9) := HB8.out.trans (b89.mono HB8.out.size)
      have hw98 : W2.heap.size ≤ w8.heap.size := by omega
      clear hw9 b89 z9 hF HP8 hbl hc7
      have hcs : (bv F).length = 42 := by rw [bv_length, hFl]
      go_region_law ((first
        | (go_simp; go_at_call 93; refine HD.out.mono ?_; rintro r wD ⟨aoD, cD, rfl, hBD, hbD⟩; have HBD := hide hBD; have HbD := hide hbD; clear hBD hbD; dsimp only)
        | (refine step_copy_splice (by rfl) (.tmp 29) (.tmp 30) 25 25 (by rfl) 5 Tryz.underlying25 (by kernel_rfl) _ _ 64 64 42 cD (by rfl) (by rfl) w8.heap.size 0 (List.replicate 64 (Value.int .u8 0)) 96 ((HbD.out.block _ hlt9).trans HZ9.out) (bv F) (by rw [hcs]; decide) (fun _ => ⟨rfl, ssrc_of HBD.out (by omega)⟩) (by rw [hcs]; simp) (bv_one F) w8.heap.size w9 (HbD.out.mono (Nat.le_of_lt hlt9)) (Nat.le_refl _) ?_; intro w10 hg10 hb10; have HB10 := hide hb10; clear hb10)))
      obtain ⟨X, hX⟩ : ∃ X, X = bl (put T s) := ⟨_, rfl⟩
      have hXs : X.size = 64 := by rw [hX, bl_size]
      have hX1 : X.all (·.oneCell') = true := by rw [hX]; exact bl_one _
      have h10 : w10.heap[w8.heap.size]? = some (.cells X 96 (0, 0)) := by
        rw [hg10.out, hX, splice_full (T := T) (s := s) hFl (by rw [HF.out, HSm.out]; simp [put])]
      have hB10 : Below W2.heap.size W2 w10 := HB9.out.trans (HB10.out.mono hw98)
      have hR10 : w10.heap[w.heap.size + 1]? = some (.cells (Array.replicate 64 (.int .u8 0)) 96 (0, 0)) := (hB10.block _ (by omega)).trans HR0.out
      have HBf : Hid (Below w.heap.size w (w10.setRow (w.heap.size + 1) X)) := below_setRow (HB2.out.trans (hB10.mono HB2.out.size)) (by omega) X
      have HX := hide hX
      clear hX hg10 hB10 HB9 HB10 HBD HbD HZ9 hcs HD
      go_wp2_with (first
        | refine wpList_load_row rfl _ _ rfl w8.heap.size rfl 96 X (0, 0) _ h10 Tryz.underlying96 rfl (by rw [hXs]; exact infoBlock) ?_
        | refine wpList_store_row rfl _ _ _ rfl (w.heap.size + 1) X rfl rfl 96 (Array.replicate 64 (.int .u8 0)) hR10 (by rw [hXs]; exact infoBlock) (by rw [hXs]; simp) hX1 ?_)
      refine bodyPost_ret (v := .agg X) ?_ rfl ⟨by rw [HX.out], HBf.out⟩
      exact results_cell_row rfl _ _ (w.heap.size + 1) 96 X (0, 0) _ rfl (setRow_heap _ _ _ _ _ _ hR10) Tryz.underlying96 rfl (by rw [hXs]; exact infoBlock)
end Go.Proofs.YtchcejjoncihkaaGreatDoor

/- Layer 8: Put, by the program. -/
namespace Go.Proofs.YtchcejjoncihkaaGreatDoor
set_option linter.unusedVariables false
open Go.RowKit Go.Maps
open Lz (g)
open Crc (ent more)
open Cur
open Sup

/-- What Put answers: 64 bytes in a block of their own, or the error. -/
def SPutAns (T : Nat → Nat) (s : Sb) (w : World) (e : Ending) (w' : World) : Prop :=
  (s.ok ∧ ∃ b, e = .returned (.tuple #[.slice (some ⟨b, 0, none⟩) 64 64, .int .i64 0]) ∧ w.heap.size ≤ b ∧ w'.heap[b]? = some (.cells (bl (put T s)) 96 (0, 0))) ∨ (¬ s.ok ∧ e = .returned (.tuple #[.slice none 0 0, .int .i64 1]))
set_option maxRecDepth 100000 in
set_option maxHeartbeats 16000000 in
theorem sPut_any (tb : Nat) (T : Nat → Nat) (s : Sb) (w : World) (hS : Small T) (hT : Tb w tb T) (htb : tb < w.heap.size) (hW : Wid w) :
    Calls Tryz.prog 66 #[.pointer (some ⟨tb, 0, none⟩), .agg (sbv s)] w fun e w' => SPutAns T s w e w' ∧ Below w.heap.size w w' := by
  have HT := hide hT
  have HW := hide hW
  have hm := sMay_any s
  obtain ⟨hz, hi'⟩ := zero_of_info zero64
  clear hT hW
  obtain ⟨w1, hw1⟩ : ∃ w1, w1 = w.alloc (.cells (sbv s) 45) := ⟨_, rfl⟩
  have hb1 : w1.heap[w.heap.size]? = some (.cells (sbv s) 45 (0, 0)) := by rw [hw1]; exact heap_new rfl
  have b1 : Below w.heap.size w w1 := by rw [hw1]; exact (Below.refl _ _).alloc (Nat.le_refl _) _
  have hlt1 := heap_lt hb1
  have HW1 := hide hw1
  have HB1 := hide b1
  clear hw1 b1
  obtain ⟨C, hC⟩ : ∃ C, C = sbv s := ⟨_, rfl⟩
  have HC := hide hC
  rw [← hC]
  rw [← hC] at hb1 HW1 hm
  have HI : Hid ((Tryz.prog.info? 45).map (·.size) = some C.size) := by rw [hC]; exact infoSuper
  clear hC
  cases hq : s.may with
  | false =>
    rw [hq] at hm
    have HQ : Hid (¬ s.ok) := may_not.1 hq
    clear hq
    go_enter Tryz.func66, Tryz.ntmps66
    go_wp2_with (refine wpList_load_row rfl _ _ rfl w.heap.size rfl 45 C (0, 0) _ (heap_alloc_new w _) Tryz.underlying45 rfl HI.out ?_)
    rw [← HW1.out]
    refine (hm w1).mono ?_
    rintro r w2 ⟨rfl, b2⟩
    have HB2 : Hid (Below w.heap.size w w2) := HB1.out.trans (b2.mono HB1.out.size)
    clear b2
    go_wp2
    go_ret2
    exact ⟨.inr ⟨HQ.out, rfl⟩, HB2.out⟩
  | true =>
    rw [hq] at hm
    have HQ : Hid (s.ok) := may_iff.1 hq
    clear hq
    go_enter Tryz.func66, Tryz.ntmps66
    go_wp2_with (refine wpList_load_row rfl _ _ rfl w.heap.size rfl 45 C (0, 0) _ (heap_alloc_new w _) Tryz.underlying45 rfl HI.out ?_)
    rw [← HW1.out]
    refine (hm w1).mono ?_
    rintro r w2 ⟨rfl, b2⟩
    have HB2 : Hid (Below w.heap.size w w2) := HB1.out.trans (b2.mono HB1.out.size)
    have hb2 : w2.heap[w.heap.size]? = some (.cells C 45 (0, 0)) := (b2.block _ hlt1).trans hb1
    have hs2 := HB2.out.size
    have HK := hide (blockOf_any tb T s w2 HQ.out hS (HT.out.below HB2.out htb) (by omega) (HW.out.below HB2.out HW.out.pos))
    clear b2 hm
    rw [← HC.out] at HK
    go_wp2_with (refine wpList_load_row rfl _ _ rfl w.heap.size rfl 45 C (0, 0) _ hb2 Tryz.underlying45 rfl HI.out ?_)
    refine HK.out.mono ?_
    rintro r w3 ⟨rfl, b3⟩
    have HB3 : Hid (Below w.heap.size w w3) := HB2.out.trans (b3.mono HB2.out.size)
    obtain ⟨X, hX⟩ : ∃ X, X = bl (put T s) := ⟨_, rfl⟩
    have hXs : X.size = 64 := by rw [hX, bl_size]
    have hX1 : X.all (·.oneCell') = true := by rw [hX]; exact bl_one _
    rw [← hX]
    have HX := hide hX
    clear b3 hb2 hX HK
    go_wp2_with (refine wpList_store_row rfl _ _ _ rfl w3.heap.size X rfl rfl 96 (Array.replicate 64 (.int .u8 0)) (heap_alloc_new w3 _) (by rw [hXs]; exact infoBlock) (by rw [hXs]; simp) hX1 ?_; rw [World.setRow_alloc_new])
    go_ret2
    exact ⟨.inl ⟨HQ.out, w3.heap.size, rfl, HB3.out.size, by rw [← HX.out]; exact heap_new rfl⟩, HB3.out.alloc HB3.out.size _⟩
end Go.Proofs.YtchcejjoncihkaaGreatDoor

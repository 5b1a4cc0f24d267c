/- What the proof stands on: DirRow, DirLeaf, with what the proof reaches of it. -/
import Derived.Test.YtoohanojfoichaaGreatDoorSNamVal
import Derived.Test.YtoohanojfoichaaGreatDoorSDirPure
import Derived.Deep.MidRow
import Derived.Deep.SlicePairs
import Derived.Deep.RegionHeld3
import Derived.Laws.CopyOwn
import Derived.OwnWalk

/- Layer 10: entries in memory: one, a row of them that came in, a row of the call's own. Nothing here speaks of one function of the program. -/
namespace Go.Proofs.YtoohanojfoichaaGreatDoor
set_option linter.unusedVariables false
set_option maxRecDepth 100000
open Go.RowKit Go.Maps Go.ChangeShapes Go.WideShapes Go.ChangeAt
open Nam Cur Dir

namespace Dir
/-- An entry's cells. -/
def ev (E : Ent) : Array Value := #[.string E.name, .int .i64 E.kind, .int .i64 E.ref]
theorem infoRecs : (Tryz.prog.info? 199).map (fun i => (i.zero, i.size, i.bytes)) = some (some (.agg (ev z0)), 3, 32) := by kernel_rfl
/-- Entries' cells, one behind the other. -/
def evs (Ks : List Ent) : List Value := (Ks.map fun K => (ev K).toList).flatten
theorem evs_append (A B : List Ent) : evs (A ++ B) = evs A ++ evs B := by simp [evs]
theorem evs_length (Ks : List Ent) : (evs Ks).length = Ks.length * 3 := by
  induction Ks with
  | nil => rfl
  | cons K Ks ih =>
    have e : evs (K :: Ks) = (ev K).toList ++ evs Ks := by simp [evs]
    rw [e, List.length_append, ih, List.length_cons]
    have : (ev K).toList.length = 3 := rfl
    omega
theorem evs_get (Ks : List Ent) (j c : Nat) (h : j < Ks.length) (hc : c < 3) : (evs Ks)[j * 3 + c]? = (ev Ks[j]).toList[c]? := by
  have e : evs Ks = evs (Ks.take j) ++ ((ev Ks[j]).toList ++ evs (Ks.drop (j + 1))) := by
    have h1 : evs Ks = evs (Ks.take j ++ (Ks[j] :: Ks.drop (j + 1))) := by rw [List.getElem_cons_drop, List.take_append_drop]
    rw [h1, evs_append]
    unfold evs
    rw [List.map_cons, List.flatten_cons]
  have hl : (evs (Ks.take j)).length = j * 3 := by rw [evs_length, List.length_take, Nat.min_eq_left (by omega)]
  have hl2 : (ev Ks[j]).toList.length = 3 := rfl
  rw [e, List.getElem?_append_right (by omega), hl, List.getElem?_append_left (by omega)]
  congr 1
  omega
theorem range_below {w w' : World} {b o B : Nat} {cs : List Value} (h : w.rangeAt b o cs) (hb : Below B w w') (hlt : b < B) : w'.rangeAt b o cs := fun j v hv => (hb.cell (p := ⟨b, o + j, none⟩) hlt).trans (h j v hv)
/-- The slice at ao, n long, holds the entries L. -/
def Es (w : World) (ao : Option Addr) (n : Nat) (L : List Ent) : Prop :=
  L.length = n ∧ (n = 0 ∨ ∃ b off, ao = some ⟨b, off, none⟩ ∧ b < w.heap.size ∧ ∀ i, i < n → w.rangeAt b (off + i * 3) (ev (gl L i)).toList)
theorem Es.below {w w' : World} {ao : Option Addr} {n : Nat} {L : List Ent} (h : Es w ao n L) (hb : Below w.heap.size w w') : Es w' ao n L := by
  refine ⟨h.1, ?_⟩
  rcases h.2 with h0 | ⟨b, off, h1, h2, h3⟩
  · exact .inl h0
  · exact .inr ⟨b, off, h1, Nat.lt_of_lt_of_le h2 hb.size, fun i hi => range_below (h3 i hi) hb h2⟩
/-- The cells, where there is one. -/
theorem Es.at {w : World} {ao : Option Addr} {n : Nat} {L : List Ent} (h : Es w ao n L) (hn : 0 < n) : ∃ b off, ao = some ⟨b, off, none⟩ ∧ b < w.heap.size ∧ ∀ i, i < n → w.rangeAt b (off + i * 3) (ev (gl L i)).toList := by
  rcases h.2 with h0 | h0
  · omega
  · exact h0
/-- An entry's cells, one by one. -/
theorem range_cells {w : World} {b o : Nat} {K : Ent} (h : w.rangeAt b o (ev K).toList) : w.cell? ⟨b, o, none⟩ = some (.string K.name) ∧ w.cell? ⟨b, o + 1, none⟩ = some (.int .i64 K.kind) ∧ w.cell? ⟨b, o + 2, none⟩ = some (.int .i64 K.ref) :=
  ⟨h 0 _ rfl, h 1 _ rfl, h 2 _ rfl⟩
theorem es_of_owns {w : World} {B n c : Nat} {ao : Option Addr} {L : List Ent} (h : w.ownsRow B 199 3 (.slice ao n c) n (evs L)) : Es w ao n L := by
  have hlen : L.length = n := by have := h.1; rw [evs_length] at this; omega
  refine ⟨hlen, ?_⟩
  by_cases e : n = 0
  · exact .inl e
  · obtain ⟨gb, c', hv, _, hlt⟩ := h.form (by omega)
    obtain ⟨rfl, _, rfl⟩ : ao = some ⟨gb, 0, none⟩ ∧ n = n ∧ c = c' := by simpa using hv
    refine .inr ⟨gb, 0, rfl, hlt, fun i hi => ?_⟩
    rw [gl_lt L i (by omega), Nat.zero_add]
    intro j v hv
    have hj : j < 3 := by
      have := (List.getElem?_eq_some_iff.1 hv).1
      have e : (ev L[i]).toList.length = 3 := rfl
      omega
    rw [h.cellAt (i * 3 + j) (by omega), evs_get L i j (by omega) hj, hv]
theorem cap_own {w : World} {B e size n c : Nat} {ao : Option Addr} {vs : List Value} (h : w.ownsRow B e size (.slice ao n c) n vs) : n ≤ c ∧ c ≤ 9223372036854775807 ∧ (ao = none → c = 0) := by
  rcases h.2 with ⟨hv, h0⟩ | ⟨g, cap, cur, hv, _, _, h1, h2, _⟩
  · simp at hv
    obtain ⟨rfl, rfl, rfl⟩ := hv
    exact ⟨by omega, by omega, fun _ => rfl⟩
  · simp at hv
    obtain ⟨rfl, rfl⟩ := hv
    refine ⟨h1, ?_, fun h => by simp at h⟩
    unfold maxLen at h2; omega
end Dir
end Go.Proofs.YtoohanojfoichaaGreatDoor

/- Layer 10: whether an entry may stand in a list, by the program: isKind, mayBe, newList and the function that it hands out; few. -/
namespace Go.Proofs.YtoohanojfoichaaGreatDoor
set_option linter.unusedVariables false
set_option maxRecDepth 100000
open Go.RowKit Go.Maps
open Nam Cur Dir

theorem isKind_any (k : Int) (w : World) : Calls Tryz.prog 213 #[.int .i64 k] w fun e w' => e = .returned (.bool (decide (1 ≤ k ∧ k ≤ 3))) ∧ w' = w := by
  go_enter Tryz.func213, Tryz.ntmps213
  go_wp2
  all_goals
    go_ret
    refine ⟨ret_bool ?_, rfl⟩
    rw [Bool.eq_iff_iff, decide_eq_true_eq]
    simp_all
    try omega
theorem dMayBe_any (E : Ent) (w : World) : Calls Tryz.prog 203 #[.agg (ev E)] w fun e w' => e = .returned (.bool (ok E)) ∧ Below w.heap.size w w' := by
  obtain ⟨z, hz⟩ : ∃ z, valid E.name.toList = z := ⟨_, rfl⟩
  have HO : Hid (ok E = decide (z = 0 ∧ (1 ≤ E.kind ∧ E.kind ≤ 3) ∧ 0 ≤ E.ref ∧ E.ref ≤ 4294967295)) := by show ok E = _; unfold ok; rw [hz]
  have HZ := hide hz
  clear hz
  obtain ⟨w1, hw1⟩ : ∃ w1, w1 = w.alloc (.cells (ev E) 199) := ⟨_, rfl⟩
  have h1 : w1.heap[w.heap.size]? = some (.cells (ev E) 199 (0, 0)) := by rw [hw1]; exact heap_new rfl
  have HB1 : Hid (Below w.heap.size w w1) := by rw [hw1]; exact below_one _ _
  have HW1 := hide hw1
  have HC1 : Hid (∀ w2, Below w1.heap.size w1 w2 → ∀ k, w2.cell? ⟨w.heap.size, k, none⟩ = (ev E)[k]?) := fun w2 hb k => by
    rw [hb.cell (p := ⟨w.heap.size, k, none⟩) (heap_lt h1)]; exact cell_of_row _ _ _ _ _ _ h1
  clear h1 hw1
  unfold ev at HW1 HC1 ⊢
  go_enter Tryz.func203, Tryz.ntmps203
  go_wp2_with fail
  rw [← HW1.out]
  refine (Valid_any E.name w1).mono ?_
  rintro e w2 ⟨rfl, hb2⟩
  rw [HZ.out]
  have c1 : w2.cell? ⟨w.heap.size, 1, none⟩ = some (.int .i64 E.kind) := HC1.out w2 hb2 1
  have c2 : w2.cell? ⟨w.heap.size, 2, none⟩ = some (.int .i64 E.ref) := HC1.out w2 hb2 2
  have HB2 := hide (HB1.out.trans (hb2.mono HB1.out.size))
  clear hb2
  go_wp2_with (go_at_call 213; refine (isKind_any _ _).mono ?_; rintro e w' ⟨rfl, rfl⟩)
  all_goals
    go_ret
    refine ⟨ret_bool ?_, HB2.out⟩
    rw [HO.out, Bool.eq_iff_iff, decide_eq_true_eq]
    simp_all
    try omega
namespace Dir
/-- The variable of newList at the block q: the last name. -/
def Cl (w : World) (q : Nat) (s : ByteArray) : Prop := w.heap[q]? = some (.cells #[.string s] 9 (0, 0))
theorem Cl.cell {w : World} {q : Nat} {s : ByteArray} (h : Cl w q s) : w.cell? ⟨q, 0, none⟩ = some (.string s) := cell_of_row _ _ _ _ _ _ h
theorem Cl.free {w : World} {q : Nat} {s : ByteArray} (h : Cl w q s) (k : Nat) : w.frozen? ⟨q, k, none⟩ = false := by unfold Cl at h; simp [World.frozen?, h]
theorem Cl.lt {w : World} {q : Nat} {s : ByteArray} (h : Cl w q s) : q < w.heap.size := heap_lt h
theorem Cl.fr {S : Nat → Prop} {w w' : World} {q : Nat} {s : ByteArray} (h : Cl w q s) (hf : Fr S w w') (hn : ¬ S q) : Cl w' q s := (hf.block _ h.lt hn).trans h
theorem Cl.below {w w' : World} {q : Nat} {s : ByteArray} (h : Cl w q s) (hb : Below w.heap.size w w') : Cl w' q s := (hb.block _ h.lt).trans h
theorem Cl.set {w : World} {q : Nat} {s : ByteArray} (h : Cl w q s) (t : ByteArray) : Cl (w.setCell ⟨q, 0, none⟩ (.string t)) q t := by unfold Cl at *; rw [heap_setCell_self h]; rfl
end Dir
theorem newList_any (w : World) : Calls Tryz.prog 182 #[] w fun e w' => ∃ q, e = .returned (.func (.func 202) #[] #[.pointer (some ⟨q, 0, none⟩)]) ∧ Cl w' q em ∧ w.heap.size ≤ q ∧ Below w.heap.size w w' := by
  go_enter Tryz.func182, Tryz.ntmps182
  go_wp2
  go_ret
  exact ⟨w.heap.size, rfl, heap_new rfl, Nat.le_refl _, below_one _ _⟩
theorem goesOn_any (E : Ent) (q : Nat) (s : ByteArray) (w : World) (h : Cl w q s) : Calls Tryz.prog 202 #[.agg (ev E), .pointer (some ⟨q, 0, none⟩)] w fun e w' => e = .returned (.bool (nx s E)) ∧ Cl w' q E.name ∧ Fr (One q) w w' := by
  obtain ⟨b, hb⟩ : ∃ b, Op.bytesLess s.toList E.name.toList = b := ⟨_, rfl⟩
  have HE : Hid (nx s E = (b && ok E)) := by show nx s E = _; unfold nx; rw [hb]
  have HB := hide hb
  obtain ⟨w2, hw2⟩ : ∃ w2, w2 = (w.setCell ⟨q, 0, none⟩ (.string E.name)).alloc (.cells (ev E) 199) := ⟨_, rfl⟩
  have hq := h.lt
  have HC2 : Hid (Cl w2 q E.name) := by rw [hw2]; exact (h.set E.name).below (below_one _ _)
  have HF2 : Hid (Fr (One q) w w2) := by rw [hw2]; exact ((Fr.refl (One q) w).set (p := ⟨q, 0, none⟩) _ (fun _ => rfl)).alloc _
  have HW2 := hide hw2
  have c0 : w.cell? ⟨q, 0, none⟩ = some (.string s) := h.cell
  have f0 : w.frozen? ⟨q, 0, none⟩ = false := h.free 0
  have HM := hide (dMayBe_any E w2)
  clear hw2 h
  unfold ev at HM HW2 ⊢
  cases b with
  | false =>
    go_enter Tryz.func202, Tryz.ntmps202
    go_wp2_with fail
    rw [← HW2.out]
    go_ret
    exact ⟨ret_bool HE.out.symm, HC2.out, HF2.out⟩
  | true =>
    go_enter Tryz.func202, Tryz.ntmps202
    go_wp2_with fail
    rw [← HW2.out]
    refine HM.out.mono ?_
    rintro e w3 ⟨rfl, hb3⟩
    have HC3 := hide (HC2.out.below hb3)
    have HF3 := hide (HF2.out.then (Fr.of_below hb3))
    clear hb3
    go_wp2
    go_ret
    exact ⟨ret_bool HE.out.symm, HC3.out, HF3.out⟩
end Go.Proofs.YtoohanojfoichaaGreatDoor

/- The reference's writer of rows: its state in memory, and the walks of its Add and Done. -/
import Derived.Test.YtahbgebnmgnmoaaMetAdd
import Derived.Test.YtahbgebnmgnmoaaFrmRefPut
namespace Go.Proofs.Ytahbgebnmgnmoaa
set_option linter.unusedVariables false
open Go.RowKit Go.Maps
open Lz (g)
open Crc (ent)
open Frm Mtr

theorem add_lt {T : Nat → Nat} {z : List Int} (b : Int) (h : (rest z).length + 1 < 128) : fr T (z ++ [b]) ((z ++ [b]).length / 128) = fr T z (z.length / 128) ∧ rest (z ++ [b]) = rest z ++ [b] := by
  have h1 := rest_length z
  have e : (z ++ [b]).length / 128 = z.length / 128 := by rw [List.length_append, List.length_singleton]; omega
  rw [e, fr_append T z [b] _ (by omega)]
  refine ⟨rfl, ?_⟩
  unfold rest
  rw [e, List.drop_append_of_le_length (by omega)]
theorem add_eq {T : Nat → Nat} {z : List Int} (b : Int) (h : (rest z).length + 1 = 128) : fr T (z ++ [b]) ((z ++ [b]).length / 128) = fr T z (z.length / 128) ++ put T (rest z ++ [b]) ∧ rest (z ++ [b]) = [] := by
  have h1 := rest_length z
  have e : (z ++ [b]).length / 128 = z.length / 128 + 1 := by rw [List.length_append, List.length_singleton]; omega
  have h2 : blk (z ++ [b]) (z.length / 128) = rest z ++ [b] := by
    unfold blk
    rw [List.drop_append_of_le_length (by omega), List.take_of_length_le]
    · rfl
    · rw [List.length_append, List.length_drop, List.length_singleton]; omega
  rw [e, fr_succ, fr_append T z [b] _ (by omega), h2]
  refine ⟨rfl, ?_⟩
  apply List.eq_nil_of_length_eq_zero
  rw [rest_length, List.length_append, List.length_singleton]; omega

/-- The reference's writer's block. -/
def Yd (w : World) (q : Nat) (fo : Option Addr) (fn fc : Nat) (ro : Option Addr) (rn rc : Nat) : Prop := w.heap[q]? = some (.cells #[.slice fo fn fc, .slice ro rn rc] 35 (0, 0))
section
variable {w w' : World} {q fn fc rn rc : Nat} {fo ro : Option Addr}
theorem Yd.lt (h : Yd w q fo fn fc ro rn rc) : q < w.heap.size := heap_lt h
theorem Yd.c0 (h : Yd w q fo fn fc ro rn rc) : w.cell? ⟨q, 0, none⟩ = some (.slice fo fn fc) := by unfold Yd at h; simp [World.cell?, h]
theorem Yd.c1 (h : Yd w q fo fn fc ro rn rc) : w.cell? ⟨q, 1, none⟩ = some (.slice ro rn rc) := by unfold Yd at h; simp [World.cell?, h]
theorem Yd.f (h : Yd w q fo fn fc ro rn rc) (i : Nat) : w.frozen? ⟨q, i, none⟩ = false := by unfold Yd at h; simp [World.frozen?, h]
theorem Yd.set0 (h : Yd w q fo fn fc ro rn rc) (fo' : Option Addr) (fn' fc' : Nat) : Yd (w.setCell ⟨q, 0, none⟩ (.slice fo' fn' fc')) q fo' fn' fc' ro rn rc := by
  unfold Yd; rw [heap_setCell_self h]; rfl
theorem Yd.set1 (h : Yd w q fo fn fc ro rn rc) (ro' : Option Addr) (rn' rc' : Nat) : Yd (w.setCell ⟨q, 1, none⟩ (.slice ro' rn' rc')) q fo fn fc ro' rn' rc' := by
  unfold Yd; rw [heap_setCell_self h]; rfl
theorem Yd.fr {S : Nat → Prop} (h : Yd w q fo fn fc ro rn rc) (hf : Fr S w w') (hn : ¬ S q) : Yd w' q fo fn fc ro rn rc := (hf.block q h.lt hn).trans h
theorem Yd.ne {t : TypeId} {cur : Array Value} {k : Nat} (h : Yd w q fo fn fc ro rn rc) (hk : w.heap[k]? = some (.cells cur t (0, 0))) (ht : t ≠ 35) : k ≠ q := fun e => by
  subst e; unfold Yd at h; rw [h] at hk; simp at hk; exact ht hk.2.symm
end
/-- The reference's writer: what it has framed, and what it has not; O: the blocks that are its own. -/
structure WrY' (w : World) (q : Nat) (O : Nat → Prop) (F R : List Int) (fo : Option Addr) (fn fc : Nat) (ro : Option Addr) (rn rc : Nat) : Prop where
  yd : Yd w q fo fn fc ro rn rc
  oq : O q
  f : Rw w 0 fo fn fc F
  r : Rw w 0 ro rn rc R
  fo : ∀ k, (Value.slice fo fn fc).ownBlock = some k → O k ∧ (Value.slice ro rn rc).ownBlock ≠ some k
  ro : ∀ k, (Value.slice ro rn rc).ownBlock = some k → O k
  lt : ∀ k, O k → k < w.heap.size
def WrY (w : World) (q : Nat) (O : Nat → Prop) (F R : List Int) : Prop := ∃ fo fn fc ro rn rc, WrY' w q O F R fo fn fc ro rn rc
section
variable {w w' : World} {q fn fc rn rc : Nat} {fo ro : Option Addr} {O : Nat → Prop} {F R : List Int}
theorem WrY'.fr {S : Nat → Prop} (h : WrY' w q O F R fo fn fc ro rn rc) (hf : Fr S w w') (hn : ∀ k, O k → ¬ S k) : WrY' w' q O F R fo fn fc ro rn rc :=
  ⟨h.yd.fr hf (hn _ h.oq), h.oq, h.f.fr hf (fun k hk => hn _ (h.fo k hk).1), h.r.fr hf (fun k hk => hn _ (h.ro k hk)), h.fo, h.ro, fun k hk => Nat.lt_of_lt_of_le (h.lt k hk) hf.size⟩
theorem WrY.fr {S : Nat → Prop} (h : WrY w q O F R) (hf : Fr S w w') (hn : ∀ k, O k → ¬ S k) : WrY w' q O F R := by
  obtain ⟨_, _, _, _, _, _, h⟩ := h
  exact ⟨_, _, _, _, _, _, h.fr hf hn⟩
theorem WrY.below (h : WrY w q O F R) (hb : Below w.heap.size w w') : WrY w' q O F R := h.fr (Fr.of_below (S := fun _ => False) hb) (fun _ _ h => h)
theorem WrY.olt (h : WrY w q O F R) : ∀ k, O k → k < w.heap.size := by
  obtain ⟨_, _, _, _, _, _, h⟩ := h; exact h.lt
theorem WrY.new (w : World) : WrY (w.alloc (.cells #[.slice none 0 0, .slice none 0 0] 35)) w.heap.size (One w.heap.size) [] [] :=
  ⟨none, 0, 0, none, 0, 0, heap_alloc_new w _, rfl, Rw.none _ _, Rw.none _ _, fun k hk => by simp [Value.ownBlock] at hk, fun k hk => by simp [Value.ownBlock] at hk, fun k hk => by rw [show k = w.heap.size from hk]; simp⟩
/-- A byte more in the rest. -/
theorem WrY'.more {w1 w2 : World} {m c1 : Nat} {ao1 : Option Addr} {Z : List Int} (h : WrY' w q O F R fo fn fc ro rn rc) (hb : Below w.heap.size w w1)
    (hA : Rw w2 0 ao1 m c1 (R ++ Z)) (hg : w1.grownBy w2 (Value.slice ro rn rc).ownBlock) (hl : Lie w1 (.slice ro rn rc) (.slice ao1 m c1)) :
    Yd w2 q fo fn fc ro rn rc ∧ ∃ O', WrY' (w2.setCell ⟨q, 1, none⟩ (.slice ao1 m c1)) q O' F (R ++ Z) fo fn fc ao1 m c1 ∧ Fr O w (w2.setCell ⟨q, 1, none⟩ (.slice ao1 m c1)) ∧ Gr O O' w := by
  have f1 : Fr (fun _ => False) w w1 := Fr.of_below hb
  have h1 := h.fr f1 (fun _ _ => id)
  have f2 : Fr (fun k => (Value.slice ro rn rc).ownBlock = some k) w1 w2 := Fr.of_grown hg (fun k hk => hk)
  have hd2 : Yd w2 q fo fn fc ro rn rc := h1.yd.fr f2 (fun hk => by
    obtain ⟨_, _, cur, hc⟩ := h1.r.own hk
    exact h1.yd.ne hc (by decide) rfl)
  have hF2 : Rw w2 0 fo fn fc F := h1.f.fr f2 (fun k hk hx => (h.fo k hk).2 hx)
  have fs : Fr (One q) w2 (w2.setCell ⟨q, 1, none⟩ (.slice ao1 m c1)) := (Fr.refl (One q) _).set (p := ⟨q, 1, none⟩) _ (fun _ => rfl)
  have hn3 : ∀ k, (Value.slice ao1 m c1).ownBlock = some k → ¬ One q k := fun k hk hx => by
    obtain ⟨_, _, cur, hc⟩ := hA.own hk
    exact hd2.ne hc (by decide) hx
  have hn4 : ∀ k, (Value.slice fo fn fc).ownBlock = some k → ¬ One q k := fun k hk hx => by
    obtain ⟨_, _, cur, hc⟩ := hF2.own hk
    exact hd2.ne hc (by decide) hx
  have hs1 := hb.size
  have hs2 := hg.size
  have hs4 := fs.size
  refine ⟨hd2, fun k => O k ∨ (w.heap.size ≤ k ∧ k < w2.heap.size), ⟨hd2.set1 ao1 m c1, .inl h.oq, hF2.fr fs hn4, hA.fr fs hn3, fun k hk => ⟨.inl (h.fo k hk).1, fun hx => ?_⟩, fun k hk => ?_, fun k hk => ?_⟩, ?_, fun k hk => hk.imp id (fun h => h.1)⟩
  · rcases hl k hx with h' | h'
    · exact (h.fo k hk).2 h'
    · have := (h.f.own hk).2.1; omega
  · rcases hl k hk with h' | h'
    · exact .inl (h.ro k h')
    · exact .inr ⟨by omega, (hA.own hk).2.1⟩
  · rcases hk with hk | hk
    · have := h.lt k hk; omega
    · omega
  · have fO : Fr O w w2 := (f1.mono (S' := O) (fun _ _ h => h.elim)).trans f2 (fun i _ hi => h.ro i hi)
    exact fO.trans fs (fun i _ (hi : i = q) => by rw [hi]; exact h.oq)
/-- The rest is framed. -/
theorem WrY'.framed {w1 w2 : World} {m c1 : Nat} {ao1 : Option Addr} {P : List Int} (h : WrY' w q O F R fo fn fc ro rn rc) (hb : Below w.heap.size w w1)
    (hA : Rw w2 0 ao1 m c1 (F ++ P)) (hg : w1.grownBy w2 (Value.slice fo fn fc).ownBlock) (hl : Lie w1 (.slice fo fn fc) (.slice ao1 m c1)) :
    Yd w2 q fo fn fc ro rn rc ∧ ∃ O', WrY ((w2.setCell ⟨q, 0, none⟩ (.slice ao1 m c1)).setCell ⟨q, 1, none⟩ (.slice none 0 0)) q O' (F ++ P) [] ∧ Fr O w ((w2.setCell ⟨q, 0, none⟩ (.slice ao1 m c1)).setCell ⟨q, 1, none⟩ (.slice none 0 0)) ∧ Gr O O' w := by
  have f1 : Fr (fun _ => False) w w1 := Fr.of_below hb
  have h1 := h.fr f1 (fun _ _ => id)
  have f2 : Fr (fun k => (Value.slice fo fn fc).ownBlock = some k) w1 w2 := Fr.of_grown hg (fun k hk => hk)
  have hd2 : Yd w2 q fo fn fc ro rn rc := h1.yd.fr f2 (fun hk => by
    obtain ⟨_, _, cur, hc⟩ := h1.f.own hk
    exact h1.yd.ne hc (by decide) rfl)
  have fs : Fr (One q) w2 ((w2.setCell ⟨q, 0, none⟩ (.slice ao1 m c1)).setCell ⟨q, 1, none⟩ (.slice none 0 0)) := ((Fr.refl (One q) _).set (p := ⟨q, 0, none⟩) _ (fun _ => rfl)).set (p := ⟨q, 1, none⟩) _ (fun _ => rfl)
  have hn3 : ∀ k, (Value.slice ao1 m c1).ownBlock = some k → ¬ One q k := fun k hk hx => by
    obtain ⟨_, _, cur, hc⟩ := hA.own hk
    exact hd2.ne hc (by decide) hx
  have hs1 := hb.size
  have hs2 := hg.size
  have hs4 := fs.size
  refine ⟨hd2, fun k => O k ∨ (w.heap.size ≤ k ∧ k < w2.heap.size), ⟨ao1, m, c1, none, 0, 0, (hd2.set0 ao1 m c1).set1 none 0 0, .inl h.oq, hA.fr fs hn3, Rw.none _ _, fun k hk => ⟨?_, by simp [Value.ownBlock]⟩, fun k hk => by simp [Value.ownBlock] at hk, fun k hk => ?_⟩, ?_, fun k hk => hk.imp id (fun h => h.1)⟩
  · rcases hl k hk with h' | h'
    · exact .inl (h.fo k h').1
    · exact .inr ⟨by omega, (hA.own hk).2.1⟩
  · rcases hk with hk | hk
    · have := h.lt k hk; omega
    · omega
  · have fO : Fr O w w2 := (f1.mono (S' := O) (fun _ _ h => h.elim)).trans f2 (fun i _ hi => (h.fo i hi).1)
    exact fO.trans fs (fun i _ (hi : i = q) => by rw [hi]; exact h.oq)
end
end Go.Proofs.Ytahbgebnmgnmoaa

/- Layer 12: the reference's writer: its state in memory; hole, Frame. -/
import Derived.Test.YtifmikdknifcoaaDatPure
import Derived.Test.YtifmikdknifcoaaFrmRefPut
import Derived.Deep.RegionHeld3
namespace Go.Proofs.Ytifmikdknifcoaa
set_option linter.unusedVariables false
open Go.RowKit Go.Maps
open Lz (g)
open Crc (ent more)
open Frm Mtr Dat

namespace Dat
/-- A file's frames, as the reference keeps them: the slice, its bytes, the place. -/
structure Rn where
  a : Option Addr
  n : Nat
  c : Nat
  r : List Int
  st : Nat
def rnc (x : Rn) : List Value := [.slice x.a x.n x.c, .int .i64 (x.st : Nat)]
def rnv (L : List Rn) : List Value := (L.map rnc).flatten
def rnm (L : List Rn) : Wm := L.map fun x => (x.r, x.st)
theorem rnv_append (A B : List Rn) : rnv (A ++ B) = rnv A ++ rnv B := by simp [rnv]
theorem rnv_one (x : Rn) : rnv [x] = rnc x := by simp [rnv]
theorem rnv_length (L : List Rn) : (rnv L).length = L.length * 2 := by
  induction L with
  | nil => rfl
  | cons x L ih =>
    have e : rnv (x :: L) = rnc x ++ rnv L := by simp [rnv]
    rw [e, List.length_append, ih, List.length_cons]
    have : (rnc x).length = 2 := rfl
    omega
theorem rnv_get (L : List Rn) (j k : Nat) (h : j < L.length) (hk : k < 2) : (rnv L)[j * 2 + k]? = (rnc L[j])[k]? := by
  have e : rnv L = rnv (L.take j) ++ (rnc L[j] ++ rnv (L.drop (j + 1))) := by
    have h1 : rnv L = rnv (L.take j ++ (L[j] :: L.drop (j + 1))) := by rw [List.getElem_cons_drop, List.take_append_drop]
    rw [h1, rnv_append]
    unfold rnv
    rw [List.map_cons, List.flatten_cons]
  have hl : (rnv (L.take j)).length = j * 2 := by rw [rnv_length, List.length_take, Nat.min_eq_left (by omega)]
  have hl2 : (rnc L[j]).length = 2 := rfl
  rw [e, List.getElem?_append_right (by omega), hl, List.getElem?_append_left (by omega)]
  congr 1
  omega
theorem rnc_ones (x : Rn) : ∀ u ∈ rnc x, u.oneCell' = true := fun u hu => by
  simp [rnc] at hu
  rcases hu with rfl | rfl <;> rfl
theorem rnm_append (A B : List Rn) : rnm (A ++ B) = rnm A ++ rnm B := by simp [rnm]
/-- The first of a file's frames that are the same. -/
theorem rnm_look (r : List Int) : ∀ (L : List Rn) (i : Nat) (h : i < L.length), (∀ j (hj : j < i), L[j].r ≠ r) → L[i].r = r → look (rnm L) r = some L[i].st
  | [], _, h, _, _ => by simp at h
  | x :: L, 0, _, _, h2 => by
    simp at h2
    simp [look, rnm, h2]
  | x :: L, i + 1, h, h1, h2 => by
    have hx : x.r ≠ r := h1 0 (by omega)
    have := rnm_look r L i (by simpa using h) (fun j hj => by have := h1 (j + 1) (by omega); simpa using this) (by simpa using h2)
    have e : look (rnm (x :: L)) r = look (rnm L) r := by simp [look, rnm, hx]
    rw [e, this]; simp
theorem rnm_none (r : List Int) (L : List Rn) (h : ∀ j (hj : j < L.length), L[j].r ≠ r) : look (rnm L) r = none := by
  unfold look
  rw [Option.map_eq_none_iff, List.find?_eq_none]
  intro p hp
  unfold rnm at hp
  rw [List.mem_map] at hp
  obtain ⟨x, hx, rfl⟩ := hp
  obtain ⟨j, hj, rfl⟩ := List.getElem_of_mem hx
  simp [h j hj]
end Dat
theorem infoRun : (Try.prog.info? 69).map (fun i => (i.zero, i.size, i.bytes)) = some (some (.agg #[.slice none 0 0, .int .i64 0]), 2, 32) := by kernel_rfl
/-- The reference's writer's block. -/
def Zw (w : World) (q first : Nat) (bo : Option Addr) (bn bc : Nat) (ro : Option Addr) (rn rc : Nat) : Prop := w.heap[q]? = some (.cells #[.int .i64 first, .slice bo bn bc, .slice ro rn rc] 37 (0, 0))
section
variable {w w' : World} {q first bn bc rn rc : Nat} {bo ro : Option Addr}
theorem Zw.lt (h : Zw w q first bo bn bc ro rn rc) : q < w.heap.size := heap_lt h
theorem Zw.c0 (h : Zw w q first bo bn bc ro rn rc) : w.cell? ⟨q, 0, none⟩ = some (.int .i64 first) := by unfold Zw at h; simp [World.cell?, h]
theorem Zw.c1 (h : Zw w q first bo bn bc ro rn rc) : w.cell? ⟨q, 1, none⟩ = some (.slice bo bn bc) := by unfold Zw at h; simp [World.cell?, h]
theorem Zw.c2 (h : Zw w q first bo bn bc ro rn rc) : w.cell? ⟨q, 2, none⟩ = some (.slice ro rn rc) := by unfold Zw at h; simp [World.cell?, h]
theorem Zw.f (h : Zw w q first bo bn bc ro rn rc) (i : Nat) : w.frozen? ⟨q, i, none⟩ = false := by unfold Zw at h; simp [World.frozen?, h]
theorem Zw.set1 (h : Zw w q first bo bn bc ro rn rc) (bo' : Option Addr) (bn' bc' : Nat) : Zw (w.setCell ⟨q, 1, none⟩ (.slice bo' bn' bc')) q first bo' bn' bc' ro rn rc := by
  unfold Zw; rw [heap_setCell_self h]; rfl
theorem Zw.set2 (h : Zw w q first bo bn bc ro rn rc) (ro' : Option Addr) (rn' rc' : Nat) : Zw (w.setCell ⟨q, 2, none⟩ (.slice ro' rn' rc')) q first bo bn bc ro' rn' rc' := by
  unfold Zw; rw [heap_setCell_self h]; rfl
theorem Zw.fr {S : Nat → Prop} (h : Zw w q first bo bn bc ro rn rc) (hf : Fr S w w') (hn : ¬ S q) : Zw w' q first bo bn bc ro rn rc := (hf.block q h.lt hn).trans h
theorem Zw.ne {t : TypeId} {cur : Array Value} {k : Nat} (h : Zw w q first bo bn bc ro rn rc) (hk : w.heap[k]? = some (.cells cur t (0, 0))) (ht : t ≠ 37) : k ≠ q := fun e => by
  subst e; unfold Zw at h; rw [h] at hk; simp at hk; exact ht hk.2.symm
end
theorem owns_block {w : World} {B e size n k : Nat} {v : Value} {xs : List Value} (h : w.ownsRow B e size v n xs) (hk : v.ownBlock = some k) : k < w.heap.size ∧ ∃ cur, w.heap[k]? = some (.cells cur e (0, 0)) := by
  refine ⟨(h.lt k hk).2, ?_⟩
  rcases h.2 with ⟨rfl, _⟩ | ⟨gg, cap, cur, rfl, _, hg, _⟩
  · simp [Value.ownBlock] at hk
  · simp [Value.ownBlock] at hk
    subst hk
    exact ⟨cur, hg⟩
/-- The reference's writer: what it has; O: the blocks that are its own. -/
structure WrZ' (w : World) (q first : Nat) (O : Nat → Prop) (s : Ws) (L : List Rn) (bo : Option Addr) (bn bc : Nat) (ro : Option Addr) (rc : Nat) : Prop where
  zw : Zw w q first bo bn bc ro L.length rc
  oq : O q
  b : Rw w 0 bo bn bc s.1
  rr : w.ownsRow 0 69 2 (.slice ro L.length rc) L.length (rnv L)
  m : s.2 = rnm L
  ob : ∀ k, (Value.slice bo bn bc).ownBlock = some k → O k
  or : ∀ k, (Value.slice ro L.length rc).ownBlock = some k → O k
  each : ∀ x ∈ L, Rw w 0 x.a x.n x.c x.r ∧ ∀ k, (Value.slice x.a x.n x.c).ownBlock = some k → O k ∧ (Value.slice bo bn bc).ownBlock ≠ some k
  lt : ∀ k, O k → k < w.heap.size
def WrZ (w : World) (q first : Nat) (O : Nat → Prop) (s : Ws) : Prop := ∃ L bo bn bc ro rc, WrZ' w q first O s L bo bn bc ro rc
section
variable {w w' : World} {q first bn bc rc : Nat} {bo ro : Option Addr} {O : Nat → Prop} {s : Ws} {L : List Rn}
theorem WrZ'.fr {S : Nat → Prop} (h : WrZ' w q first O s L bo bn bc ro rc) (hf : Fr S w w') (hn : ∀ k, O k → ¬ S k) : WrZ' w' q first O s L bo bn bc ro rc :=
  ⟨h.zw.fr hf (hn _ h.oq), h.oq, h.b.fr hf (fun k hk => hn _ (h.ob k hk)), owns_fr h.rr hf (fun k hk => hn _ (h.or k hk)), h.m, h.ob, h.or, fun x hx => ⟨(h.each x hx).1.fr hf (fun k hk => hn _ ((h.each x hx).2 k hk).1), (h.each x hx).2⟩, fun k hk => Nat.lt_of_lt_of_le (h.lt k hk) hf.size⟩
theorem WrZ.fr {S : Nat → Prop} (h : WrZ w q first O s) (hf : Fr S w w') (hn : ∀ k, O k → ¬ S k) : WrZ w' q first O s := by
  obtain ⟨L, bo, bn, bc, ro, rc, h⟩ := h
  exact ⟨L, bo, bn, bc, ro, rc, h.fr hf hn⟩
theorem WrZ'.below (h : WrZ' w q first O s L bo bn bc ro rc) (hb : Below w.heap.size w w') : WrZ' w' q first O s L bo bn bc ro rc := h.fr (Fr.of_below (S := fun _ => False) hb) (fun _ _ h => h)
theorem WrZ.below (h : WrZ w q first O s) (hb : Below w.heap.size w w') : WrZ w' q first O s := h.fr (Fr.of_below (S := fun _ => False) hb) (fun _ _ h => h)
theorem WrZ.olt (h : WrZ w q first O s) : ∀ k, O k → k < w.heap.size := by
  obtain ⟨L, bo, bn, bc, ro, rc, h⟩ := h
  exact h.lt
theorem WrZ.new (w : World) (first : Nat) : WrZ (w.alloc (.cells #[.int .i64 first, .slice none 0 0, .slice none 0 0] 37)) w.heap.size first (One w.heap.size) ([], []) :=
  ⟨[], none, 0, 0, none, 0, heap_alloc_new w _, rfl, Rw.none _ _, World.ownsRow_nil _ _ _ _, rfl, fun k hk => by simp [Value.ownBlock] at hk, fun k hk => by simp [Value.ownBlock] at hk, fun x hx => by simp at hx, fun k hk => by rw [show k = w.heap.size from hk]; simp⟩
/-- What was laid down: a row more. -/
theorem WrZ'.lay {w1 : World} {bo' : Option Addr} {m bc' : Nat} {r : List Int} (h : WrZ' w q first O s L bo bn bc ro rc)
    (hA : Rw w1 0 bo' (bn + m) bc' (s.1 ++ r)) (hg : w.grownBy w1 (Value.slice bo bn bc).ownBlock) (hl : Lie w (.slice bo bn bc) (.slice bo' (bn + m) bc')) :
    Zw w1 q first bo bn bc ro L.length rc ∧ ∃ O', WrZ (w1.setCell ⟨q, 1, none⟩ (.slice bo' (bn + m) bc')) q first O' (s.1 ++ r, s.2) ∧ Fr O w (w1.setCell ⟨q, 1, none⟩ (.slice bo' (bn + m) bc')) ∧ Gr O O' w := by
  have f2 : Fr (fun k => (Value.slice bo bn bc).ownBlock = some k) w w1 := Fr.of_grown hg (fun k hk => hk)
  have hd2 : Zw w1 q first bo bn bc ro L.length rc := h.zw.fr f2 (fun hk => by
    obtain ⟨_, _, cur, hc⟩ := h.b.own hk
    exact h.zw.ne hc (by decide) rfl)
  have hr2 : w1.ownsRow 0 69 2 (.slice ro L.length rc) L.length (rnv L) := owns_fr h.rr f2 (fun k hk hx => by
    obtain ⟨_, c1, e1⟩ := owns_block h.rr hk
    obtain ⟨_, _, c2, e2⟩ := h.b.own hx
    rw [e1] at e2; simp at e2)
  have hx2 : ∀ x ∈ L, Rw w1 0 x.a x.n x.c x.r := fun x hx => (h.each x hx).1.fr f2 (fun k hk => ((h.each x hx).2 k hk).2)
  have fs : Fr (One q) w1 (w1.setCell ⟨q, 1, none⟩ (.slice bo' (bn + m) bc')) := (Fr.refl (One q) _).set (p := ⟨q, 1, none⟩) _ (fun _ => rfl)
  have hn3 : ∀ {ao n c zs}, Rw w1 0 ao n c zs → ∀ k, (Value.slice ao n c).ownBlock = some k → ¬ One q k := fun hR k hk hx => by
    obtain ⟨_, _, cur, hc⟩ := hR.own hk
    exact hd2.ne hc (by decide) hx
  have hn4 : ∀ k, (Value.slice ro L.length rc).ownBlock = some k → ¬ One q k := fun k hk hx => by
    obtain ⟨_, cur, hc⟩ := owns_block hr2 hk
    exact hd2.ne hc (by decide) hx
  have hs2 := hg.size
  have hs4 := fs.size
  refine ⟨hd2, fun k => O k ∨ (w.heap.size ≤ k ∧ k < w1.heap.size), ⟨L, bo', bn + m, bc', ro, rc, hd2.set1 bo' (bn + m) bc', .inl h.oq, hA.fr fs (hn3 hA), owns_fr hr2 fs hn4, h.m, fun k hk => ?_, fun k hk => .inl (h.or k hk), fun x hx => ⟨(hx2 x hx).fr fs (hn3 (hx2 x hx)), fun k hk => ⟨.inl ((h.each x hx).2 k hk).1, fun e => ?_⟩⟩, fun k hk => ?_⟩, ?_, fun k hk => hk.imp id (fun h => h.1)⟩
  · rcases hl k hk with h' | h'
    · exact .inl (h.ob k h')
    · exact .inr ⟨h', (hA.own hk).2.1⟩
  · rcases hl k e with h' | h'
    · exact ((h.each x hx).2 k hk).2 h'
    · have := ((h.each x hx).1.own hk).2.1; omega
  · rcases hk with hk | hk
    · have := h.lt k hk; omega
    · omega
  · have fO : Fr O w w1 := f2.mono (fun i _ hi => h.ob i hi)
    exact fO.trans fs (fun i _ (hi : i = q) => by rw [hi]; exact h.oq)
/-- A file's frames more. -/
theorem WrZ'.file {w1 : World} {ro' : Option Addr} {rc' : Nat} {x : Rn} (h : WrZ' w q first O s L bo bn bc ro rc) (hx : Rw w 0 x.a x.n x.c x.r) (hxn : ∀ k, (Value.slice x.a x.n x.c).ownBlock = some k → ¬ O k)
    (hA : w1.ownsRow 0 69 2 (.slice ro' (L.length + 1) rc') (L.length + 1) (rnv L ++ rnc x)) (hg : w.grownBy w1 (Value.slice ro L.length rc).ownBlock) (hl : (Value.slice ro' (L.length + 1) rc').ownBlock = (Value.slice ro L.length rc).ownBlock ∨ ∀ k, (Value.slice ro' (L.length + 1) rc').ownBlock = some k → w.heap.size ≤ k) :
    Zw w1 q first bo bn bc ro L.length rc ∧ ∃ O', WrZ' (w1.setCell ⟨q, 2, none⟩ (.slice ro' (L.length + 1) rc')) q first O' (s.1, s.2 ++ [(x.r, x.st)]) (L ++ [x]) bo bn bc ro' rc' ∧ Fr O w (w1.setCell ⟨q, 2, none⟩ (.slice ro' (L.length + 1) rc')) ∧ (∀ k, O' k → O k ∨ (Value.slice x.a x.n x.c).ownBlock = some k ∨ w.heap.size ≤ k) := by
  have f2 : Fr (fun k => (Value.slice ro L.length rc).ownBlock = some k) w w1 := Fr.of_grown hg (fun k hk => hk)
  have hne : ∀ {ao n c zs}, Rw w 0 ao n c zs → ∀ k, (Value.slice ao n c).ownBlock = some k → ¬ (Value.slice ro L.length rc).ownBlock = some k := fun hR k hk hx => by
    obtain ⟨_, c1, e1⟩ := owns_block h.rr hx
    obtain ⟨_, _, c2, e2⟩ := hR.own hk
    rw [e1] at e2; simp at e2
  have hd2 : Zw w1 q first bo bn bc ro L.length rc := h.zw.fr f2 (fun hk => by
    obtain ⟨_, cur, hc⟩ := owns_block h.rr hk
    exact h.zw.ne hc (by decide) rfl)
  have hb2 : Rw w1 0 bo bn bc s.1 := h.b.fr f2 (hne h.b)
  have hx2 : ∀ y ∈ L, Rw w1 0 y.a y.n y.c y.r := fun y hy => (h.each y hy).1.fr f2 (hne (h.each y hy).1)
  have hx3 : Rw w1 0 x.a x.n x.c x.r := hx.fr f2 (hne hx)
  have fs : Fr (One q) w1 (w1.setCell ⟨q, 2, none⟩ (.slice ro' (L.length + 1) rc')) := (Fr.refl (One q) _).set (p := ⟨q, 2, none⟩) _ (fun _ => rfl)
  have hn3 : ∀ {ao n c zs}, Rw w1 0 ao n c zs → ∀ k, (Value.slice ao n c).ownBlock = some k → ¬ One q k := fun hR k hk hx => by
    obtain ⟨_, _, cur, hc⟩ := hR.own hk
    exact hd2.ne hc (by decide) hx
  have hn4 : ∀ k, (Value.slice ro' (L.length + 1) rc').ownBlock = some k → ¬ One q k := fun k hk hx => by
    obtain ⟨_, cur, hc⟩ := owns_block hA hk
    exact hd2.ne hc (by decide) hx
  have hs2 := hg.size
  have hs4 := fs.size
  have hl1 : (L ++ [x]).length = L.length + 1 := by simp
  refine ⟨hd2, fun k => O k ∨ (Value.slice x.a x.n x.c).ownBlock = some k ∨ (w.heap.size ≤ k ∧ k < w1.heap.size), ⟨?_, .inl h.oq, hb2.fr fs (hn3 hb2), ?_, ?_, fun k hk => .inl (h.ob k hk), fun k hk => ?_, fun y hy => ?_, fun k hk => ?_⟩, ?_, fun k hk => hk.imp id (fun h => h.imp id (fun h => h.1))⟩
  · rw [hl1]; exact hd2.set2 ro' (L.length + 1) rc'
  · rw [hl1, rnv_append, rnv_one]
    exact owns_fr hA fs hn4
  · show s.2 ++ _ = _
    rw [rnm_append, h.m]; rfl
  · rw [hl1] at hk
    rcases hl with h' | h'
    · exact .inl (h.or k (by rw [← h']; exact hk))
    · exact .inr (.inr ⟨h' k hk, (owns_block hA hk).1⟩)
  · rcases List.mem_append.1 hy with hy | hy
    · exact ⟨(hx2 y hy).fr fs (hn3 (hx2 y hy)), fun k hk => ⟨.inl ((h.each y hy).2 k hk).1, ((h.each y hy).2 k hk).2⟩⟩
    · obtain rfl : y = x := by simpa using hy
      exact ⟨hx3.fr fs (hn3 hx3), fun k hk => ⟨.inr (.inl hk), fun e => hxn k hk (h.ob k e)⟩⟩
  · rcases hk with hk | hk | hk
    · have := h.lt k hk; omega
    · have := (hx.own hk).2.1; omega
    · omega
  · have fO : Fr O w w1 := f2.mono (fun i _ hi => h.or i hi)
    exact fO.trans fs (fun i _ (hi : i = q) => by rw [hi]; exact h.oq)
end
theorem hol_at (z : List Int) (i : Nat) (h : i < z.length) (h0 : g z i ≠ 0) : hol z = false := by
  unfold hol
  rw [List.all_eq_false]
  rw [Lz.g_lt z i h] at h0
  exact ⟨z[i], List.getElem_mem h, by simpa using h0⟩
theorem hol_all (z : List Int) (h : ∀ j, j < z.length → g z j = 0) : hol z = true := by
  unfold hol
  rw [List.all_eq_true]
  intro x hx
  obtain ⟨j, hj, rfl⟩ := List.getElem_of_mem hx
  have := h j hj
  rw [Lz.g_lt z j hj] at this
  simpa using this
set_option maxRecDepth 100000 in
theorem refHole_any (n c : Nat) (ao : Option Addr) (z : List Int) (w : World) (hb : Bs w ao n z) (hn : n ≤ 100000) :
    Calls Try.prog 29 #[.slice ao n c] w fun e w' => e = .returned (.bool (hol z)) ∧ w' = w := by
  have HB := hide hb
  have hz := hb.1
  clear hb
  go_enter Try.func29, Try.ntmps29
  go_wp2
  go_loopw [3] (fun s3 wr => ∃ i : Nat, s3 = .int .i64 i ∧ i ≤ n ∧ wr = w ∧ ∀ j, j < i → g z j = 0) (fun s3 _ => n - (intOf s3).toNat)
  case atStart => exact ⟨0, rfl, Nat.zero_le _, rfl, fun j hj => by omega⟩
  case round =>
    obtain ⟨i, rfl, hi, hwr, hall⟩ := hrel
    obtain rfl := hwr.symm
    clear hwr
    have HA := hide hall
    clear hall
    by_cases hgo : i < n
    · obtain ⟨b, off, rfl, hbl, hseg⟩ : ∃ b off, ao = some ⟨b, off, none⟩ ∧ b < w.heap.size ∧ Seg w b off z := by
        rcases HB.out.2.2 with h0 | h0
        · omega
        · exact h0
      have hcell := hseg i (by omega)
      have hg1 : (i : Int) < (n : Int) := by omega
      have hxb := HB.out.2.1 i
      have H0 := hide (hol_at z i (by omega))
      obtain ⟨x, hx⟩ : ∃ x, g z i = x := ⟨_, rfl⟩
      rw [hx] at hcell hxb H0
      have HX := hide hx
      clear hseg hx
      by_cases hx0 : x = 0
      · subst hx0
        go_wp2
        go_roundw
        case rel => exact ⟨i + 1, by go_num, by omega, by first | rfl | trivial, fun j hj => by
          by_cases e : j = i
          · rw [e]; exact HX.out
          · exact HA.out j (by omega)⟩
        case measure => simp [intOf]; omega
      · have hx1 : (x == 0) = false := by simp; exact hx0
        have HF := hide (H0.out hx0)
        go_wp2
        go_ret
        exact ⟨by rw [HF.out]; rfl, rfl⟩
    · obtain rfl : i = n := by omega
      have hg1 : decide ((i : Int) < (i : Int)) = false := by simp
      have HF := hide (hol_all z (fun j hj => HA.out j (by omega)))
      go_wp2
      go_ret
      exact ⟨by rw [HF.out]; rfl, rfl⟩
set_option maxRecDepth 100000 in
set_option maxHeartbeats 1000000 in
theorem refDFrame_any (q first n c : Nat) (O : Nat → Prop) (ao : Option Addr) (s : Ws) (z : List Int) (w : World) (h : WrZ w q first O s) (hb : Bs w ao n z) (hc : n ≤ c) (hnil : ao = none → c = 0) (hf : first ≤ 1000000) (hL : s.1.length ≤ 1000000) (hn : n ≤ 128) :
    Calls Try.prog 13 #[.pointer (some ⟨q, 0, none⟩), .slice ao n c] w fun e w' => e = .returned (.int .i64 ((first + s.1.length : Nat) : Int)) ∧ ∃ O', WrZ w' q first O' (s.1 ++ put ent z, s.2) ∧ Fr O w w' ∧ Gr O O' w := by
  have hz := hb.1
  have HP := hide (refPut_any n c ao z w hb hc hnil (by omega))
  have hpl := (put_length (T := ent) (b := z) (by omega)).2.2
  obtain ⟨L, bo, bn, bc, ro, rc, hz1⟩ := h
  have hbn := hz1.b.1
  rw [hbn] at hL ⊢
  have e1 : IntKind.i64.wrap ((first : Int) + (bn : Int)) = (first : Int) + bn := by rw [IntKind.wrap_i64]; omega
  have e2 : ((first + bn : Nat) : Int) = (first : Int) + bn := by omega
  rw [e2]
  obtain ⟨P, hP⟩ : ∃ P, put ent z = P := ⟨_, rfl⟩
  unfold RPuts at HP
  rw [hP] at HP hpl ⊢
  obtain ⟨pm, hpm⟩ : ∃ pm, P.length = pm := ⟨_, rfl⟩
  rw [hpm] at HP hpl
  have HW := hide hz1
  clear hb hnil hz1 hbn e2 hP hpm
  go_enter Try.func13, Try.ntmps13
  go_wp2_with fail
  refine HP.out.mono ?_
  rintro r w1 (⟨h1, _⟩ | ⟨_, ao1, c1, rfl, hB1, hb1, hn1⟩)
  · omega
  have Hb1 := hide hb1
  have hz1 := HW.out.below hb1
  have hd0 := hz1.zw.c0
  have hd1 := hz1.zw.c1
  have HB1 := hide hB1
  have HN1 := hide hn1
  have HZ := hide hz1
  clear hB1 hb1 hn1 HP hz1 HW
  go_wp2_with fail
  go_quiet (fail)
  have HRq : Hid (Rw (w1.drewN nq) 0 bo bn bc s.1) := HZ.out.b
  have HBq : Hid (Bs (w1.drewN nq) ao1 pm P) := HB1.out
  have c1q : (w1.drewN nq).cell? ⟨q, 1, none⟩ = some (.slice bo bn bc) := hd1
  clear hd0 hd1
  go_wp2_with (first
    | (at_builtin; refine wpList_append_rw _ rfl (.tmp 27) (.tmp 28) rfl 0 bo bn bc s.1 rfl HRq.out ao1 pm c1 P rfl HBq.out HN1.out (by omega) (Nat.zero_le _) ?_
       intro ao2 k2 w2 hA hg hl
       have HX1 := hide (HZ.out.lay hA (grown_drewN hg) hl)
       have c21 := HX1.out.1.c1
       have f21 := HX1.out.1.f 1
       clear hA hg hl))
  go_ret
  obtain ⟨_, O', k1, k2, k3⟩ := HX1.out
  exact ⟨rfl, O', k1, (Fr.of_below Hb1.out).then k2, fun k hk => (k3 k hk).imp id (fun h => Nat.le_trans Hb1.out.size h)⟩
end Go.Proofs.Ytifmikdknifcoaa

import Derived.Test.YtoohanojfoichaaGreatDoorOJOwn
import Derived.Test.YtoohanojfoichaaGreatDoorOJInts
import Derived.Deep.RegionHeld3
import Derived.Deep.CutBlock
import Derived.Deep.CutRange
set_option linter.unusedVariables false
namespace Go.Proofs.YtoohanojfoichaaGreatDoor.Frg
open Lz (g)
open Frm
abbrev Bl := List (List Int)
def szs (L : Bl) : List Int := L.map fun b => (b.length : Int)
theorem szs_length (L : Bl) : (szs L).length = L.length := by simp [szs]
theorem szs_append (A B : Bl) : szs (A ++ B) = szs A ++ szs B := by simp [szs]
theorem szs_one (b : List Int) : szs [b] = [(b.length : Int)] := rfl
theorem szs_at (L : Bl) (i : Nat) (h : i < L.length) : g (szs L) i = (L[i].length : Int) := by simp [szs, g, h]
def top (L : Bl) : List Int := L.getLastD []
theorem top_app (K : Bl) (t : List Int) : top (K ++ [t]) = t := by simp [top]
def add (L : Bl) (z : List Int) : Bl × Nat × Nat :=
 if z.length < 1 ∨ 128 ≤ z.length then (L, 0, 0)
 else if L.length = 0 ∨ 128 < (top L).length + z.length then (L ++ [z], L.length + 1, 0)
 else (L.dropLast ++ [top L ++ z], L.length, (top L).length)
theorem split_last (L : Bl) (h : L.length ≠ 0) : ∃ K t, L = K ++ [t] :=
 ⟨L.dropLast, L.getLast (fun e => h (by rw [e]; rfl)), (List.dropLast_concat_getLast _).symm⟩
theorem add_bad {L : Bl} {z : List Int} (h : z.length < 1 ∨ 128 ≤ z.length) : add L z = (L, 0, 0) := by unfold add; rw [if_pos h]
theorem add_new {L : Bl} {z : List Int} (h : ¬ (z.length < 1 ∨ 128 ≤ z.length)) (h2 : L.length = 0 ∨ 128 < (top L).length + z.length) : add L z = (L ++ [z], L.length + 1, 0) := by unfold add; rw [if_neg h, if_pos h2]
theorem add_in {K : Bl} {t z : List Int} (h : ¬ (z.length < 1 ∨ 128 ≤ z.length)) (h2 : t.length + z.length ≤ 128) : add (K ++ [t]) z = (K ++ [t ++ z], K.length + 1, t.length) := by
 unfold add
 rw [if_neg h, if_neg (by rw [top_app]; simp; omega), top_app]
 simp
theorem add_cases (L : Bl) (z : List Int) : ((z.length < 1 ∨ 128 ≤ z.length) ∧ add L z = (L, 0, 0)) ∨
  (¬ (z.length < 1 ∨ 128 ≤ z.length) ∧ (L = [] ∨ ∃ K t, L = K ++ [t] ∧ 128 < t.length + z.length) ∧ add L z = (L ++ [z], L.length + 1, 0)) ∨
  (¬ (z.length < 1 ∨ 128 ≤ z.length) ∧ ∃ K t, L = K ++ [t] ∧ t.length + z.length ≤ 128 ∧ add L z = (K ++ [t ++ z], K.length + 1, t.length)) := by
 by_cases h : z.length < 1 ∨ 128 ≤ z.length
 ·exact .inl ⟨h, add_bad h⟩
 ·by_cases h0 : L.length = 0
  ·exact .inr (.inl ⟨h, .inl (List.eq_nil_of_length_eq_zero h0), add_new h (.inl h0)⟩)
  ·obtain ⟨K, t, rfl⟩ := split_last L h0
   by_cases h2 : 128 < t.length + z.length
   ·exact .inr (.inl ⟨h, .inr ⟨K, t, rfl, h2⟩, add_new h (.inr (by rw [top_app]; exact h2))⟩)
   ·exact .inr (.inr ⟨h, K, t, rfl, by omega, add_in h (by omega)⟩)
def Ok (L : Bl) : Prop := ∀ b ∈ L, 1 ≤ b.length ∧ b.length ≤ 128
theorem ok_nil : Ok [] := fun b hb => by simp at hb
theorem ok_add {L : Bl} (h : Ok L) (z : List Int) : Ok (add L z).1 := by
 rcases add_cases L z with ⟨_, e⟩ | ⟨h1, _, e⟩ | ⟨h1, K, t, rfl, h2, e⟩
 ·rw [e]; exact h
 ·rw [e]
  intro b hb
  rcases List.mem_append.1 hb with hb | hb
  ·exact h b hb
  ·obtain rfl : b = z := by simpa using hb
   omega
 ·rw [e]
  intro b hb
  rcases List.mem_append.1 hb with hb | hb
  ·exact h b (by simp [hb])
  ·obtain rfl : b = t ++ z := by simpa using hb
   rw [List.length_append]; omega
theorem add_length (L : Bl) (z : List Int) : L.length ≤ (add L z).1.length ∧ (add L z).1.length ≤ L.length + 1 := by
 rcases add_cases L z with ⟨_, e⟩ | ⟨h1, _, e⟩ | ⟨h1, K, t, rfl, h2, e⟩
 ·rw [e]; simp
 ·rw [e]; simp
 ·rw [e]; simp
theorem add_flat (L : Bl) (z : List Int) : (add L z).1.flatten.length ≤ L.flatten.length + z.length := by
 rcases add_cases L z with ⟨_, e⟩ | ⟨h1, _, e⟩ | ⟨h1, K, t, rfl, h2, e⟩
 ·rw [e]; simp
 ·rw [e]; simp
 ·rw [e]; simp; omega
def Has (L : Bl) (z : List Int) (n o : Nat) : Prop := 1 ≤ n ∧ ∃ b, L[n - 1]? = some b ∧ o + z.length ≤ b.length ∧ (b.drop o).take z.length = z
theorem has_add {L : Bl} {z : List Int} (h : ¬ (z.length < 1 ∨ 128 ≤ z.length)) : Has (add L z).1 z (add L z).2.1 (add L z).2.2 := by
 rcases add_cases L z with ⟨h1, e⟩ | ⟨h1, _, e⟩ | ⟨h1, K, t, rfl, h2, e⟩
 ·exact absurd h1 h
 ·rw [e]
  exact ⟨by simp, z, by simp, by simp, by simp⟩
 ·rw [e]
  exact ⟨by simp, t ++ z, by simp, by simp, by simp⟩
theorem has_on {L : Bl} {y : List Int} {n o : Nat} (h : Has L y n o) (z : List Int) : Has (add L z).1 y n o := by
 obtain ⟨h1, b, hb, h2, h3⟩ := h
 have hlt : n - 1 < L.length := (List.getElem?_eq_some_iff.1 hb).1
 rcases add_cases L z with ⟨_, e⟩ | ⟨_, _, e⟩ | ⟨_, K, t, rfl, _, e⟩
 ·rw [e]; exact ⟨h1, b, hb, h2, h3⟩
 ·rw [e]
  exact ⟨h1, b, by show (L ++ [z])[n - 1]? = _; rw [List.getElem?_append_left hlt]; exact hb, h2, h3⟩
 ·rw [e]
  by_cases hk : n - 1 < K.length
  ·rw [List.getElem?_append_left hk] at hb
   exact ⟨h1, b, by show (K ++ [t ++ z])[n - 1]? = _; rw [List.getElem?_append_left hk]; exact hb, h2, h3⟩
  ·have hn : n - 1 = K.length := by simp at hlt; omega
   rw [hn] at hb
   obtain rfl : t = b := by simpa using hb
   refine ⟨h1, t ++ z, by show (K ++ [t ++ z])[n - 1]? = _; rw [hn]; simp, by rw [List.length_append]; omega, ?_⟩
   rw [List.drop_append_of_le_length (by omega), List.take_append_of_le_length (by rw [List.length_drop]; omega)]
   exact h3
def rd (T : Nat → Nat) (z : List Int) (P : List Int) (number off n : Int) : List Int × Int :=
 if number < 1 ∨ (P.length : Int) < number ∨ off < 0 ∨ n < 0 then ([], 1)
 else if (take T z (g P (number - 1).toNat)).2.2 ≠ 0 ∨ (take T z (g P (number - 1).toNat)).1.length = 0 ∨ ((take T z (g P (number - 1).toNat)).1.length : Int) - off < n then ([], 35)
 else (((take T z (g P (number - 1).toNat)).1.drop off.toNat).take n.toNat, 0)
theorem rd_ok {T : Nat → Nat} {z P : List Int} {number off n : Int} (h : ¬ (number < 1 ∨ (P.length : Int) < number ∨ off < 0 ∨ n < 0)) (h2 : ¬ ((take T z (g P (number - 1).toNat)).2.2 ≠ 0 ∨ (take T z (g P (number - 1).toNat)).1.length = 0 ∨ ((take T z (g P (number - 1).toNat)).1.length : Int) - off < n)) : rd T z P number off n = (((take T z (g P (number - 1).toNat)).1.drop off.toNat).take n.toNat, 0) := by unfold rd; rw [if_neg h, if_neg h2]
def frs (T : Nat → Nat) (L : Bl) (k : Nat) : List Int := ((L.take k).map (put T)).flatten
theorem frs_succ (T : Nat → Nat) (L : Bl) (k : Nat) (h : k < L.length) : frs T L (k + 1) = frs T L k ++ put T L[k] := by
 unfold frs
 rw [List.take_succ_eq_append_getElem h]
 simp only [List.map_append, List.map_cons, List.map_nil, List.flatten_append, List.flatten_cons, List.flatten_nil, List.append_nil]
def plc (T : Nat → Nat) (A : List Int) (L : Bl) (k : Nat) : List Int := (List.range k).map fun j => ((A.length + (frs T L j).length : Nat) : Int)
theorem plc_succ (T : Nat → Nat) (A : List Int) (L : Bl) (k : Nat) : plc T A L (k + 1) = plc T A L k ++ [((A.length + (frs T L k).length : Nat) : Int)] := by simp [plc, List.range_succ]
theorem plc_length (T : Nat → Nat) (A : List Int) (L : Bl) (k : Nat) : (plc T A L k).length = k := by simp [plc]
theorem plc_at (T : Nat → Nat) (A : List Int) (L : Bl) (k j : Nat) (h : j < k) : g (plc T A L k) j = ((A.length + (frs T L j).length : Nat) : Int) := by simp [plc, g, h]
theorem frs_split (T : Nat → Nat) (L : Bl) (j : Nat) (h : j < L.length) : ∃ Z, frs T L L.length = frs T L j ++ (put T L[j] ++ Z) := by
 refine ⟨((L.drop (j + 1)).map (put T)).flatten, ?_⟩
 unfold frs
 rw [List.take_length, ← List.append_assoc]
 conv => lhs; rw [← List.take_append_drop (j + 1) L]
 rw [List.take_succ_eq_append_getElem h]
 simp only [List.map_append, List.map_cons, List.map_nil, List.flatten_append, List.flatten_cons, List.flatten_nil, List.append_nil, List.append_assoc]
end Go.Proofs.YtoohanojfoichaaGreatDoor.Frg
namespace Go.Proofs.YtoohanojfoichaaGreatDoor
open Go.RowKit Go.Maps
open Lz (g)
open Frm Mtr
def Fpk (w : World) (p : Nat) (ro : Option Addr) (rn rc : Nat) (so : Option Addr) (sn sc : Nat) : Prop := w.heap[p]? = some (.cells #[.slice ro rn rc, .slice so sn sc] 138 (0, 0))
section
variable {w w' : World} {p rn rc sn sc : Nat} {ro so : Option Addr}
theorem Fpk.lt (h : Fpk w p ro rn rc so sn sc) : p < w.heap.size := heap_lt h
theorem Fpk.c0 (h : Fpk w p ro rn rc so sn sc) : w.cell? ⟨p, 0, none⟩ = some (.slice ro rn rc) := by unfold Fpk at h; simp [World.cell?, h]
theorem Fpk.c1 (h : Fpk w p ro rn rc so sn sc) : w.cell? ⟨p, 1, none⟩ = some (.slice so sn sc) := by unfold Fpk at h; simp [World.cell?, h]
theorem Fpk.f (h : Fpk w p ro rn rc so sn sc) (i : Nat) : w.frozen? ⟨p, i, none⟩ = false := by unfold Fpk at h; simp [World.frozen?, h]
theorem Fpk.set0 (h : Fpk w p ro rn rc so sn sc) (ro' : Option Addr) (rn' rc' : Nat) : Fpk (w.setCell ⟨p, 0, none⟩ (.slice ro' rn' rc')) p ro' rn' rc' so sn sc := by
 unfold Fpk; rw [heap_setCell_self h]; rfl
theorem Fpk.set1 (h : Fpk w p ro rn rc so sn sc) (so' : Option Addr) (sn' sc' : Nat) : Fpk (w.setCell ⟨p, 1, none⟩ (.slice so' sn' sc')) p ro rn rc so' sn' sc' := by
 unfold Fpk; rw [heap_setCell_self h]; rfl
theorem Fpk.fr {S : Nat → Prop} (h : Fpk w p ro rn rc so sn sc) (hf : Fr S w w') (hn : ¬ S p) : Fpk w' p ro rn rc so sn sc := (hf.block p h.lt hn).trans h
theorem Fpk.ne {t : TypeId} {cur : Array Value} {k : Nat} (h : Fpk w p ro rn rc so sn sc) (hk : w.heap[k]? = some (.cells cur t (0, 0))) (ht : t ≠ 138) : k ≠ p := fun e => by
 subst e; unfold Fpk at h; rw [h] at hk; simp at hk; exact ht hk.2.symm
end
theorem owns_blockF {w : World} {B e size n k : Nat} {v : Value} {xs : List Value} (h : w.ownsRow B e size v n xs) (hk : v.ownBlock = some k) : k < w.heap.size ∧ ∃ cur, w.heap[k]? = some (.cells cur e (0, 0)) := ⟨(h.lt k hk).2, owns_obj h hk⟩
structure PkQ (w : World) (p : Nat) (O : Nat → Prop) (R S : List Int) (ro : Option Addr) (rn rc : Nat) (so : Option Addr) (sn sc : Nat) : Prop where
 pk : Fpk w p ro rn rc so sn sc
 op : O p
 r : Rw w 0 ro rn rc R
 s : w.ownsRow 0 3 1 (.slice so sn sc) sn (zv S)
 orow : ∀ k, (Value.slice ro rn rc).ownBlock = some k → O k
 osiz : ∀ k, (Value.slice so sn sc).ownBlock = some k → O k
 lt : ∀ k, O k → k < w.heap.size
def PkP (w : World) (p : Nat) (O : Nat → Prop) (L : Frg.Bl) : Prop := ∃ ro rn rc so sn sc, PkQ w p O L.flatten (Frg.szs L) ro rn rc so sn sc
section
variable {w w' : World} {p rn rc sn sc : Nat} {ro so : Option Addr} {O : Nat → Prop} {R S : List Int} {L : Frg.Bl}
theorem PkQ.fr {X : Nat → Prop} (h : PkQ w p O R S ro rn rc so sn sc) (hf : Fr X w w') (hn : ∀ k, O k → ¬ X k) : PkQ w' p O R S ro rn rc so sn sc :=
 ⟨h.pk.fr hf (hn _ h.op), h.op, h.r.fr hf (fun k hk => hn _ (h.orow k hk)), owns_fr h.s hf (fun k hk => hn _ (h.osiz k hk)), h.orow, h.osiz, fun k hk => Nat.lt_of_lt_of_le (h.lt k hk) hf.size⟩
theorem PkP.fr {X : Nat → Prop} (h : PkP w p O L) (hf : Fr X w w') (hn : ∀ k, O k → ¬ X k) : PkP w' p O L := by
 obtain ⟨ro, rn, rc, so, sn, sc, h⟩ := h
 exact ⟨ro, rn, rc, so, sn, sc, h.fr hf hn⟩
theorem PkP.below (h : PkP w p O L) (hb : Below w.heap.size w w') : PkP w' p O L := h.fr (Fr.of_below (S := fun _ => False) hb) (fun _ _ h => h)
theorem PkP.olt (h : PkP w p O L) : ∀ k, O k → k < w.heap.size := by
 obtain ⟨ro, rn, rc, so, sn, sc, h⟩ := h
 exact h.lt
theorem PkQ.len (h : PkQ w p O R S ro rn rc so sn sc) : R.length = rn ∧ S.length = sn := ⟨h.r.1, by have := h.s.1; rw [zv_length] at this; omega⟩
theorem PkQ.push {o : Obj} {w1 : World} {sb c' : Nat} {x : Int} (h : PkQ w p O R S ro rn rc so sn sc) (hA : w1.ownsRow 0 3 1 (.slice (some ⟨sb, 0, none⟩) (sn + 1) c') (sn + 1) (zv (S ++ [x])))
  (hg : (w.alloc o).grownBy w1 (Value.slice so sn sc).ownBlock) (hl : (Value.slice so sn sc).ownBlock = some sb ∨ sb = (w.alloc o).heap.size) :
  Fpk w1 p ro rn rc so sn sc ∧ ∃ O', PkQ (w1.setCell ⟨p, 1, none⟩ (.slice (some ⟨sb, 0, none⟩) (sn + 1) c')) p O' R (S ++ [x]) ro rn rc (some ⟨sb, 0, none⟩) (sn + 1) c' ∧ Fr O w (w1.setCell ⟨p, 1, none⟩ (.slice (some ⟨sb, 0, none⟩) (sn + 1) c')) ∧ Gr O O' w := by
 have ha := h.fr (Fr.of_below (S := fun _ => False) (below_one w o)) (fun _ _ h => h)
 have f2 : Fr (fun k => (Value.slice so sn sc).ownBlock = some k) (w.alloc o) w1 := Fr.of_grown hg (fun k hk => hk)
 have hd2 : Fpk w1 p ro rn rc so sn sc := ha.pk.fr f2 (fun hk => by
  obtain ⟨_, cur, hc⟩ := owns_blockF ha.s hk
  exact ha.pk.ne hc (by decide) rfl)
 have hr2 : Rw w1 0 ro rn rc R := ha.r.fr f2 (fun k hk hx => by
  obtain ⟨_, c1, e1⟩ := owns_blockF ha.s hx
  obtain ⟨_, _, c2, e2⟩ := ha.r.own hk
  rw [e1] at e2; simp at e2)
 have fs : Fr (One p) w1 (w1.setCell ⟨p, 1, none⟩ (.slice (some ⟨sb, 0, none⟩) (sn + 1) c')) := (Fr.refl (One p) _).set (p := ⟨p, 1, none⟩) _ (fun _ => rfl)
 have hs2 := hg.size
 have hs4 := fs.size
 have hs0 : (w.alloc o).heap.size = w.heap.size + 1 := by simp
 refine ⟨hd2, fun k => O k ∨ (w.heap.size ≤ k ∧ k < w1.heap.size), ⟨hd2.set1 _ _ _, .inl h.op, hr2.fr fs (fun k hk hx => ?_), owns_fr hA fs (fun k hk hx => ?_), fun k hk => .inl (h.orow k hk), fun k hk => ?_, fun k hk => ?_⟩, ?_, fun k hk => hk.imp id (fun h => h.1)⟩
 ·obtain ⟨_, _, cur, hc⟩ := hr2.own hk
  exact hd2.ne hc (by decide) hx
 ·obtain ⟨_, cur, hc⟩ := owns_blockF hA hk
  exact hd2.ne hc (by decide) hx
 ·obtain rfl : sb = k := by simpa [Value.ownBlock] using hk
  rcases hl with h' | h'
  ·exact .inl (h.osiz _ h')
  ·exact .inr ⟨by omega, (owns_blockF hA (by simp [Value.ownBlock])).1⟩
 ·rcases hk with hk | hk
  ·have := h.lt k hk; omega
  ·omega
 ·have fO : Fr O w w1 := ((Fr.refl O w).alloc o).trans f2 (fun i _ hi => h.osiz i hi)
  exact fO.trans fs (fun i _ (hi : i = p) => by rw [hi]; exact h.op)
theorem PkQ.more {w1 : World} {ro' : Option Addr} {m rc' : Nat} {z : List Int} (h : PkQ w p O R S ro rn rc so sn sc) (hA : Rw w1 0 ro' (rn + m) rc' (R ++ z))
  (hg : w.grownBy w1 (Value.slice ro rn rc).ownBlock) (hl : Lie w (.slice ro rn rc) (.slice ro' (rn + m) rc')) :
  Fpk w1 p ro rn rc so sn sc ∧ ∃ O', PkQ (w1.setCell ⟨p, 0, none⟩ (.slice ro' (rn + m) rc')) p O' (R ++ z) S ro' (rn + m) rc' so sn sc ∧ Fr O w (w1.setCell ⟨p, 0, none⟩ (.slice ro' (rn + m) rc')) ∧ Gr O O' w := by
 have f2 : Fr (fun k => (Value.slice ro rn rc).ownBlock = some k) w w1 := Fr.of_grown hg (fun k hk => hk)
 have hd2 : Fpk w1 p ro rn rc so sn sc := h.pk.fr f2 (fun hk => by
  obtain ⟨_, _, cur, hc⟩ := h.r.own hk
  exact h.pk.ne hc (by decide) rfl)
 have hr2 : w1.ownsRow 0 3 1 (.slice so sn sc) sn (zv S) := owns_fr h.s f2 (fun k hk hx => by
  obtain ⟨_, c1, e1⟩ := owns_blockF h.s hk
  obtain ⟨_, _, c2, e2⟩ := h.r.own hx
  rw [e1] at e2; simp at e2)
 have fs : Fr (One p) w1 (w1.setCell ⟨p, 0, none⟩ (.slice ro' (rn + m) rc')) := (Fr.refl (One p) _).set (p := ⟨p, 0, none⟩) _ (fun _ => rfl)
 have hs2 := hg.size
 have hs4 := fs.size
 refine ⟨hd2, fun k => O k ∨ (w.heap.size ≤ k ∧ k < w1.heap.size), ⟨hd2.set0 _ _ _, .inl h.op, hA.fr fs (fun k hk hx => ?_), owns_fr hr2 fs (fun k hk hx => ?_), fun k hk => ?_, fun k hk => .inl (h.osiz k hk), fun k hk => ?_⟩, ?_, fun k hk => hk.imp id (fun h => h.1)⟩
 ·obtain ⟨_, _, cur, hc⟩ := hA.own hk
  exact hd2.ne hc (by decide) hx
 ·obtain ⟨_, cur, hc⟩ := owns_blockF hr2 hk
  exact hd2.ne hc (by decide) hx
 ·rcases hl k hk with h' | h'
  ·exact .inl (h.orow k h')
  ·exact .inr ⟨h', (hA.own hk).2.1⟩
 ·rcases hk with hk | hk
  ·have := h.lt k hk; omega
  ·omega
 ·have fO : Fr O w w1 := f2.mono (fun i _ hi => h.orow i hi)
  exact fO.trans fs (fun i _ (hi : i = p) => by rw [hi]; exact h.op)
theorem PkQ.turn {sb : Nat} (h : PkQ w p O R S ro rn rc (some ⟨sb, 0, none⟩) sn sc) (i : Nat) (x : Int) (hi : i < sn) :
  PkQ (w.setCell ⟨sb, i, none⟩ (.int .i64 x)) p O R (S.set i x) ro rn rc (some ⟨sb, 0, none⟩) sn sc ∧ Fr O w (w.setCell ⟨sb, i, none⟩ (.int .i64 x)) := by
 have hsb : O sb := h.osiz sb (by simp [Value.ownBlock])
 have fs : Fr (One sb) w (w.setCell ⟨sb, i, none⟩ (.int .i64 x)) := (Fr.refl (One sb) _).set (p := ⟨sb, i, none⟩) _ (fun _ => rfl)
 obtain ⟨_, cur, hc⟩ := owns_blockF h.s (by simp [Value.ownBlock] : (Value.slice (some ⟨sb, 0, none⟩) sn sc).ownBlock = some sb)
 refine ⟨⟨h.pk.fr fs (fun e => ?_), h.op, h.r.fr fs (fun k hk hx => ?_), ?_, h.orow, h.osiz, fun k hk => Nat.lt_of_lt_of_le (h.lt k hk) fs.size⟩, fs.mono (fun k _ (hk : k = sb) => by rw [hk]; exact hsb)⟩
 ·exact h.pk.ne hc (by decide) (show sb = p from (show p = sb from e).symm)
 ·obtain ⟨_, _, c2, e2⟩ := h.r.own hk
  have hx : k = sb := hx
  rw [hx, hc] at e2; simp at e2
 ·have := h.s.stored i (.int .i64 x)
  rw [zv_set] at this
  exact this.1
end
set_option maxRecDepth 100000 in
theorem fNew_any (w : World) : Calls Tryz.prog 36 #[] w fun r w' => r = .returned (.pointer (some ⟨w.heap.size, 0, none⟩)) ∧ PkP w' w.heap.size (One w.heap.size) [] ∧ Below w.heap.size w w' ∧ w'.heap.size = w.heap.size + 1 := by
 go_enter Tryz.func36, Tryz.ntmps36
 go_wp2
 go_ret
 exact ⟨rfl, ⟨none, 0, 0, none, 0, 0, heap_alloc_new w _, rfl, Rw.none _ _, World.ownsRow_nil _ _ _ _, fun k hk => by simp [Value.ownBlock] at hk, fun k hk => by simp [Value.ownBlock] at hk, fun k hk => by rw [show k = w.heap.size from hk]; simp⟩, below_one _ _, by simp⟩
def Frg.room (S : List Int) : Int := if S.length = 0 then 0 else 128 - g S (S.length - 1)
set_option maxRecDepth 100000 in
theorem room_any (p : Nat) (w : World) (O : Nat → Prop) (R S : List Int) (ro so : Option Addr) (rn rc sn sc : Nat) (h : PkQ w p O R S ro rn rc so sn sc) (hn : sn ≤ 1000000) (hS : ∀ x ∈ S, 0 ≤ x ∧ x ≤ 128) :
  Calls Tryz.prog 85 #[.pointer (some ⟨p, 0, none⟩)] w fun r w' => r = .returned (.int .i64 (Frg.room S)) ∧ ∃ k, w' = w.drewN k := by
 have c1 := h.pk.c1
 have hl := h.len.2
 by_cases h0 : sn = 0
 ·subst h0
  have e : Frg.room S = 0 := by unfold Frg.room; rw [if_pos hl]
  rw [e]
  clear e h hS hl
  go_enter Tryz.func85, Tryz.ntmps85
  go_wp2
  go_ret
  exact ⟨rfl, 0, rfl⟩
 ·obtain ⟨b, off, rfl, hlt, hc⟩ := (Zs.of h.s).at (by omega)
  have hcell := hc (sn - 1) (by omega)
  have e : Frg.room S = 128 - g S (sn - 1) := by unfold Frg.room; rw [if_neg (by omega), hl]
  have hx : 0 ≤ g S (sn - 1) ∧ g S (sn - 1) ≤ 128 := by
   rw [g_get _ _ (by omega)]; exact hS _ (List.getElem_mem _)
  rw [e]
  generalize g S (sn - 1) = x at *
  obtain ⟨t, ht⟩ : ∃ t, sn - 1 = t := ⟨_, rfl⟩
  rw [ht] at hcell
  have h0' : ((sn : Int) == 0) = false := by simp; omega
  have e1 : IntKind.i64.wrap ((sn : Int) - 1) = (t : Int) := by rw [IntKind.wrap_i64]; omega
  have e2 : IntKind.i64.wrap (128 - x) = 128 - x := by rw [IntKind.wrap_i64]; omega
  have e3 : (t : Int) < (sn : Int) := by omega
  clear e h hS hl hc ht
  go_enter Tryz.func85, Tryz.ntmps85
  go_wp2_with fail
  go_quiet (fail)
  go_wp2
  go_ret
  exact ⟨rfl, _, rfl⟩
end Go.Proofs.YtoohanojfoichaaGreatDoor
namespace Go.Proofs.YtoohanojfoichaaGreatDoor
open Go.RowKit Go.Maps
open Lz (g)
open Frm Mtr
namespace Frg
theorem room_app (K : Bl) (t : List Int) : room (szs (K ++ [t])) = 128 - (t.length : Int) := by
 unfold room
 rw [if_neg (by rw [szs_length]; simp), szs_length, szs_at _ _ (by simp)]
 simp
theorem room_nil : room (szs []) = 0 := rfl
theorem add_good {L : Bl} {z : List Int} (h : ¬ (z.length < 1 ∨ 128 ≤ z.length)) : ∃ K t, add L z = (K ++ [t ++ z], K.length + 1, t.length) ∧ L.flatten = (K ++ [t]).flatten ∧ t.length + z.length ≤ 128 ∧
  ((L = K ∧ t = [] ∧ room (szs L) < (z.length : Int)) ∨ (L = K ++ [t] ∧ (z.length : Int) ≤ room (szs L))) := by
 rcases add_cases L z with ⟨h1, e⟩ | ⟨h1, h2, e⟩ | ⟨h1, K, t, rfl, h2, e⟩
 ·exact absurd h1 h
 ·refine ⟨L, [], by rw [e]; simp, by simp, by simp; omega, .inl ⟨rfl, rfl, ?_⟩⟩
  rcases h2 with rfl | ⟨K, t, rfl, h3⟩
  ·rw [room_nil]; omega
  ·rw [room_app]; omega
 ·exact ⟨K, t, e, rfl, h2, .inr ⟨rfl, by rw [room_app]; omega⟩⟩
theorem szs_set (K : Bl) (t z : List Int) (n : Nat) (h : z.length = n) : (szs (K ++ [t])).set K.length ((t.length : Int) + n) = szs (K ++ [t ++ z]) := by
 rw [szs_append, szs_append, szs_one, szs_one, List.set_append_right _ _ (by rw [szs_length]; exact Nat.le_refl _), szs_length, Nat.sub_self]
 simp [h]
theorem szs_bd {L : Bl} (h : Ok L) : ∀ x ∈ szs L, 0 ≤ x ∧ x ≤ 128 := fun x hx => by
 unfold szs at hx
 rw [List.mem_map] at hx
 obtain ⟨b, hb, rfl⟩ := hx
 have := h b hb
 omega
theorem szs_last (K : Bl) (t : List Int) : g (szs (K ++ [t])) K.length = (t.length : Int) := by
 rw [szs_at _ _ (by simp)]; simp
end Frg
open Frg
theorem PkQ.last {w : World} {p rn rc n1 sc sb kn x : Nat} {ro : Option Addr} {O : Nat → Prop} {R : List Int} {K : Bl} {t : List Int} (h : PkQ w p O R (szs (K ++ [t])) ro rn rc (some ⟨sb, 0, none⟩) n1 sc) (h1 : K.length = kn) (h2 : kn + 1 = n1) (h3 : t.length = x) :
  w.cell? ⟨sb, kn, none⟩ = some (.int .i64 (x : Int)) ∧ w.frozen? ⟨sb, kn, none⟩ = false := by
 obtain ⟨b, off, e, _, hc⟩ := (Zs.of h.s).at (by omega)
 obtain ⟨rfl, rfl⟩ : sb = b ∧ 0 = off := by simpa using e
 have := hc kn (by omega)
 rw [Nat.zero_add] at this
 exact ⟨by rw [this, ← h1, szs_last, h3], h.s.frozenAt kn⟩
def FAdds (L : Bl) (z : List Int) (p : Nat) (O : Nat → Prop) (w w' : World) (e : Ending) : Prop :=
 e = .returned (.tuple #[.int .i64 ((add L z).2.1 : Nat), .int .i64 ((add L z).2.2 : Nat)]) ∧ ∃ O', PkP w' p O' (add L z).1 ∧ Fr O w w' ∧ Gr O O' w
set_option maxRecDepth 100000 in
set_option maxHeartbeats 1000000 in
theorem fAdd_any (p n c : Nat) (O : Nat → Prop) (ao : Option Addr) (L : Bl) (z : List Int) (w : World) (h : PkP w p O L) (hk : Ok L) (hb : Bs w ao n z) (hnil : ao = none → c = 0) (hno : ∀ a, ao = some a → 0 < n → ¬ O a.block) (hL : L.length ≤ 100000) (hR : L.flatten.length ≤ 10000000) (hn : n ≤ 9223372036854775807) :
    Calls Tryz.prog 38 #[.pointer (some ⟨p, 0, none⟩), .slice ao n c] w fun e w' => FAdds L z p O w w' e := by
  have hz := hb.1
  by_cases hbad : z.length < 1 ∨ 128 ≤ z.length
  · have HA : Hid (FAdds L z p O w w (.returned (.tuple #[.int .i64 0, .int .i64 0]))) := by
      show FAdds L z p O w w _
      unfold FAdds
      rw [add_bad hbad]
      exact ⟨rfl, O, h, Fr.refl _ _, Gr.refl _ _⟩
    have hc : n = 0 ∨ (((n : Int) == 0) = false ∧ (128 : Int) ≤ (n : Int)) := by
      by_cases e : n = 0
      · exact .inl e
      · exact .inr ⟨by simp; omega, by omega⟩
    clear h hb hz hbad
    rcases hc with rfl | ⟨h1, h2⟩
    all_goals
      go_enter Tryz.func38, Tryz.ntmps38
      go_wp2
      go_ret2
      exact HA.out
  · obtain ⟨ro, rn, rc, so, sn, sc, hq⟩ := h
    obtain ⟨hlR, hlS⟩ := hq.len
    rw [szs_length] at hlS
    obtain ⟨K, t, hadd, hflat, htz, hcase⟩ := add_good (L := L) hbad
    have HRm := hide (room_any p w O L.flatten (szs L) ro so rn rc sn sc hq (by omega) (szs_bd hk))
    have HQ := hide hq
    have h0' : ((n : Int) == 0) = false := by simp; omega
    have h128 : ¬ (128 : Int) ≤ (n : Int) := by omega
    have h128' : decide ((128 : Int) ≤ (n : Int)) = false := by simp; omega
    have HB := hide hb
    have HN := hide hnil
    have HNo := hide hno
    have HAdd := hide hadd
    have HFl := hide hflat
    obtain ⟨kn, hkn⟩ : ∃ kn, K.length = kn := ⟨_, rfl⟩
    obtain ⟨n1, hn1⟩ : ∃ n1, kn + 1 = n1 := ⟨_, rfl⟩
    obtain ⟨x, hx⟩ : ∃ x, t.length = x := ⟨_, rfl⟩
    have HKN := hide hkn
    have HX := hide hx
    have hkl : kn ≤ 100000 := by
      rcases hcase with ⟨e, _⟩ | ⟨e, _⟩
      · rw [e] at hL; omega
      · rw [e] at hL; simp at hL; omega
    have htb : x + n ≤ 128 := by omega
    have HC : Hid ((L = K ∧ t = [] ∧ room (szs L) < (n : Int)) ∨ (L = K ++ [t] ∧ (n : Int) ≤ room (szs L))) := by rw [← hz]; exact hcase
    obtain ⟨rm, hrm⟩ : ∃ rm, room (szs L) = rm := ⟨_, rfl⟩
    rw [hrm] at HRm HC
    rw [hlR] at hR
    have hns : n1 ≤ 100001 := by omega
    have e1 : IntKind.i64.wrap ((n1 : Int) - 1) = (kn : Int) := by rw [IntKind.wrap_i64]; omega
    have e2 : IntKind.i64.wrap ((x : Int) + (n : Int)) = (x : Int) + n := by rw [IntKind.wrap_i64]; omega
    have e3 : (kn : Int) < (n1 : Int) := by omega
    have e4 : IntKind.i64.wrap ((kn : Int) + 1) = (kn : Int) + 1 := by rw [IntKind.wrap_i64]; omega
    have hzn : z.length = n := hz
    have HZ := hide hzn
    have HN1 := hide hn1
    have HSN := hide hlS
    clear hq hb hnil hno hz hbad hadd hflat hkn hn1 hx hcase hrm hlR hk hzn hlS hL
    go_enter Tryz.func38, Tryz.ntmps38
    go_upto_if 19 with (first | (go_at_call 85; refine HRm.out.mono ?_; rintro r w1 ⟨rfl, q, rfl⟩) | fail)
    have HQ1 := hide (HQ.out.fr ((Fr.refl (fun _ => False) w).drewN q) (fun _ _ h => h))
    have HF1 := hide ((Fr.refl O w).drewN q)
    have HB1 : Hid (Bs (w.drewN q) ao n z) := HB.out
    obtain ⟨w1, hw1⟩ : ∃ w1, w1 = w.drewN q := ⟨_, rfl⟩
    rw [← hw1] at HQ1 HF1 HB1 ⊢
    have hs1 : w.heap.size ≤ w1.heap.size := HF1.out.size
    clear hw1 HQ HRm HB
    go_cut [19] from 20 to 28 (fun s19 wx => ∃ O2 sb sc2, PkQ wx p O2 L.flatten (szs (K ++ [t])) ro rn rc (some ⟨sb, 0, none⟩) n1 sc2 ∧ Fr O w wx ∧ Gr O O2 w ∧ Bs wx ao n z)
    case first =>
      have c1 := HQ1.out.pk.c1
      rcases HC.out with ⟨hLK, ht0, hlt⟩ | ⟨hLK, hge⟩
      · have HE : Hid (szs L ++ [0] = szs (K ++ [t]) ∧ sn + 1 = n1) := ⟨by rw [hLK, ht0, szs_append]; rfl, by rw [← HSN.out, hLK, HKN.out, HN1.out]⟩
        have HO1 := hide (HQ1.out.s.alloc (.cells #[.int .i64 0] 3))
        have hsn : sn ≤ 100000 := by have := HE.out.2; omega
        clear hLK ht0 HC
        go_wp2_with (first
          | (at_builtin
             refine wpList_append_num_at _ rfl (.tmp 24) (.tmp 25) rfl 0 so sn sc _ rfl HO1.out w1.heap.size 0 rfl (by simp) (by omega) (Nat.zero_le _) ?_
             intro b' c' w2 ho2 hg2 hl2
             have HX2 := hide (HQ1.out.push ho2 hg2 hl2)
             have HB2 : Hid (Bs w2 ao n z) := (HB1.out.below (below_one _ _)).fr (Fr.of_grown (S := fun k => (Value.slice so sn sc).ownBlock = some k) hg2 (fun k hk => hk)) (fun a ha h0 hx => HNo.out a ha h0 (HQ1.out.osiz _ hx))
             have c21 := HX2.out.1.c1
             have f21 := HX2.out.1.f 1
             clear ho2 hg2 hl2))
        go_meet
        case rel =>
          obtain ⟨_, O2, k1, k2, k3⟩ := HX2.out
          rw [HE.out.1, HE.out.2] at k1
          rw [HE.out.2] at k2 ⊢
          refine ⟨O2, b', c', k1, HF1.out.then k2, fun k hk => (k3 k hk).imp id (fun h => Nat.le_trans hs1 h), HB2.out.fr ((Fr.refl (One p) _).set (p := ⟨p, 1, none⟩) _ (fun _ => rfl)) (fun a ha h0 hx => HNo.out a ha h0 ?_)⟩
          rw [show a.block = p from hx]; exact HQ1.out.op
      · have hge' : decide (rm < (n : Int)) = false := by simp; omega
        have HE : Hid (szs L = szs (K ++ [t]) ∧ sn = n1) := ⟨by rw [hLK], by rw [← HSN.out, hLK, List.length_append, HKN.out, ← HN1.out]; rfl⟩
        clear hLK HC
        go_wp2
        go_meet
        case rel =>
          have hq := HQ1.out
          rw [HE.out.1, HE.out.2] at hq
          obtain ⟨b, c', hv, _, hlt⟩ := hq.s.form (by omega)
          obtain ⟨rfl, rfl⟩ : so = some ⟨b, 0, none⟩ ∧ sc = c' := by simpa using hv
          exact ⟨O, b, sc, hq, HF1.out, Gr.refl _ _, HB1.out⟩
    case rest =>
      obtain ⟨O2, sb, sc2, hq2, hF2, hG2, hB2⟩ := hcut
      have HQ2 := hide hq2
      have HF2 := hide hF2
      have HG2 := hide hG2
      have HB2 := hide hB2
      have c1 := hq2.pk.c1
      have c0 := hq2.pk.c0
      have hcx := (hq2.last HKN.out HN1.out HX.out).1
      clear hq2 hF2 hG2 hB2 HC HF1 HQ1 HB1
      go_wp2_with (first
        | (at_builtin
           refine wpList_append_rw _ rfl (.tmp 46) (.tmp 47) rfl 0 ro rn rc L.flatten rfl HQ2.out.r ao n c z rfl HB2.out HN.out (by omega) (Nat.zero_le _) ?_
           intro ao3 c3 w3 hA hg hl
           have HX3 := hide (HQ2.out.more hA hg hl)
           have c03 := HX3.out.1.c0
           have f03 := HX3.out.1.f 0
           obtain ⟨_, O4, hq4, hF4, hG4⟩ := HX3.out
           have HQ4 := hide hq4
           have HF4 := hide hF4
           have HG4 := hide hG4
           have c14 := hq4.pk.c1
           have hcx4 := (hq4.last HKN.out HN1.out HX.out).1
           have hfx4 := (hq4.last HKN.out HN1.out HX.out).2
           clear hA hg hl hq4 hF4 hG4))
      go_ret2
      show FAdds L z p O w _ _
      obtain ⟨k1, k2⟩ := HQ4.out.turn kn ((x : Int) + n) (by have := HN1.out; omega)
      have e5 : (szs (K ++ [t])).set kn ((x : Int) + n) = szs (K ++ [t ++ z]) := by rw [← HKN.out, ← HX.out]; exact szs_set K t z n HZ.out
      have e6 : L.flatten ++ z = (K ++ [t ++ z]).flatten := by rw [HFl.out]; simp
      rw [e5, e6] at k1
      unfold FAdds
      rw [HAdd.out, HKN.out, HX.out]
      refine ⟨rfl, O4, ⟨_, _, _, _, _, _, k1⟩, (HF2.out.gr HG2.out HF4.out).gr (HG2.out.trans HG4.out HF2.out.size) k2, HG2.out.trans HG4.out HF2.out.size⟩
end Go.Proofs.YtoohanojfoichaaGreatDoor

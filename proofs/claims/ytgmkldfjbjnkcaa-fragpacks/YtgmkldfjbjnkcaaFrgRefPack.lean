/- Layer 13: the reference's packer: its state in memory; Add. -/
import Derived.Test.YtgmkldfjbjnkcaaFrgAdd
import Derived.Test.YtgmkldfjbjnkcaaMats
import Derived.Deep.RegionLaw
import Derived.Deep.AppendLies
namespace Go.Proofs.Ytgmkldfjbjnkcaa
set_option linter.unusedVariables false
open Go.RowKit Go.Maps
open Lz (g)
open Frm Mtr Frg

/-- A block, as the reference keeps it: where it lies, its room, its bytes. -/
structure Frg.Zn where
  a : Option Addr
  c : Nat
  b : List Int
namespace Frg
def znc (x : Zn) : Value := .slice x.a x.b.length x.c
def znv (Z : List Zn) : List Value := Z.map znc
def znb (Z : List Zn) : Bl := Z.map Zn.b
theorem znv_append (A B : List Zn) : znv (A ++ B) = znv A ++ znv B := by simp [znv]
theorem znv_length (Z : List Zn) : (znv Z).length = Z.length := by simp [znv]
theorem znb_append (A B : List Zn) : znb (A ++ B) = znb A ++ znb B := by simp [znb]
theorem znb_length (Z : List Zn) : (znb Z).length = Z.length := by simp [znb]
theorem znv_set (Z : List Zn) (i : Nat) (x : Zn) : (znv Z).set i (znc x) = znv (Z.set i x) := by simp [znv, List.map_set]
theorem znb_split {Z : List Zn} {K : Bl} {t : List Int} (h : znb Z = K ++ [t]) : ∃ Y x, Z = Y ++ [x] ∧ znb Y = K ∧ x.b = t := by
  have hl : Z.length = K.length + 1 := by rw [← znb_length, h]; simp
  have hne : Z ≠ [] := fun e => by rw [e] at hl; simp at hl
  refine ⟨Z.dropLast, Z.getLast hne, (List.dropLast_concat_getLast hne).symm, ?_⟩
  rw [← List.dropLast_concat_getLast hne, znb_append] at h
  have h2 := List.append_inj h (by rw [znb_length, List.length_dropLast, hl]; rfl)
  exact ⟨h2.1, by simpa [znb] using h2.2⟩
end Frg
/-- The reference's packer's block. -/
def Zk (w : World) (q : Nat) (lo : Option Addr) (ln lc : Nat) : Prop := w.heap[q]? = some (.cells #[.slice lo ln lc] 29 (0, 0))
section
variable {w w' : World} {q ln lc : Nat} {lo : Option Addr}
theorem Zk.lt (h : Zk w q lo ln lc) : q < w.heap.size := heap_lt h
theorem Zk.c0 (h : Zk w q lo ln lc) : w.cell? ⟨q, 0, none⟩ = some (.slice lo ln lc) := by unfold Zk at h; simp [World.cell?, h]
theorem Zk.f (h : Zk w q lo ln lc) (i : Nat) : w.frozen? ⟨q, i, none⟩ = false := by unfold Zk at h; simp [World.frozen?, h]
theorem Zk.set0 (h : Zk w q lo ln lc) (lo' : Option Addr) (ln' lc' : Nat) : Zk (w.setCell ⟨q, 0, none⟩ (.slice lo' ln' lc')) q lo' ln' lc' := by
  unfold Zk; rw [heap_setCell_self h]; rfl
theorem Zk.fr {S : Nat → Prop} (h : Zk w q lo ln lc) (hf : Fr S w w') (hn : ¬ S q) : Zk w' q lo ln lc := (hf.block q h.lt hn).trans h
theorem Zk.ne {t : TypeId} {cur : Array Value} {k : Nat} (h : Zk w q lo ln lc) (hk : w.heap[k]? = some (.cells cur t (0, 0))) (ht : t ≠ 29) : k ≠ q := fun e => by
  subst e; unfold Zk at h; rw [h] at hk; simp at hk; exact ht hk.2.symm
end
/-- The reference's packer: its blocks; O: the memory that is its own. -/
structure PkZ' (w : World) (q : Nat) (O : Nat → Prop) (Z : List Zn) (lo : Option Addr) (ln lc : Nat) : Prop where
  len : Z.length = ln
  zk : Zk w q lo ln lc
  oq : O q
  row : w.ownsRow 0 30 1 (.slice lo ln lc) ln (znv Z)
  orow : ∀ k, (Value.slice lo ln lc).ownBlock = some k → O k
  each : ∀ x ∈ Z, Rw w 0 x.a x.b.length x.c x.b ∧ ∀ k, (Value.slice x.a x.b.length x.c).ownBlock = some k → O k
  lt : ∀ k, O k → k < w.heap.size
def PkZ (w : World) (q : Nat) (O : Nat → Prop) (L : Bl) : Prop := ∃ Z lo ln lc, znb Z = L ∧ PkZ' w q O Z lo ln lc
section
variable {w w' : World} {q ln lc : Nat} {lo : Option Addr} {O : Nat → Prop} {Z : List Zn} {L : Bl}
theorem PkZ'.fr {S : Nat → Prop} (h : PkZ' w q O Z lo ln lc) (hf : Fr S w w') (hn : ∀ k, O k → ¬ S k) : PkZ' w' q O Z lo ln lc :=
  ⟨h.len, h.zk.fr hf (hn _ h.oq), h.oq, owns_fr h.row hf (fun k hk => hn _ (h.orow k hk)), h.orow, fun x hx => ⟨(h.each x hx).1.fr hf (fun k hk => hn _ ((h.each x hx).2 k hk)), (h.each x hx).2⟩, fun k hk => Nat.lt_of_lt_of_le (h.lt k hk) hf.size⟩
theorem PkZ'.below (h : PkZ' w q O Z lo ln lc) (hb : Below w.heap.size w w') : PkZ' w' q O Z lo ln lc := h.fr (Fr.of_below (S := fun _ => False) hb) (fun _ _ h => h)
theorem PkZ.fr {S : Nat → Prop} (h : PkZ w q O L) (hf : Fr S w w') (hn : ∀ k, O k → ¬ S k) : PkZ w' q O L := by
  obtain ⟨Z, lo, ln, lc, e, h⟩ := h
  exact ⟨Z, lo, ln, lc, e, h.fr hf hn⟩
theorem PkZ.below (h : PkZ w q O L) (hb : Below w.heap.size w w') : PkZ w' q O L := h.fr (Fr.of_below (S := fun _ => False) hb) (fun _ _ h => h)
theorem PkZ.olt (h : PkZ w q O L) : ∀ k, O k → k < w.heap.size := by
  obtain ⟨Z, lo, ln, lc, e, h⟩ := h
  exact h.lt
theorem PkZ.new (w : World) : PkZ (w.alloc (.cells #[.slice none 0 0] 29)) w.heap.size (One w.heap.size) [] :=
  ⟨[], none, 0, 0, rfl, rfl, heap_alloc_new w _, rfl, World.ownsRow_nil _ _ _ _, fun k hk => by simp [Value.ownBlock] at hk, fun x hx => by simp at hx, fun k hk => by rw [show k = w.heap.size from hk]; simp⟩
/-- A block more. -/
theorem PkZ'.push {w1 : World} {gb c' : Nat} {x : Zn} (h : PkZ' w q O Z lo ln lc) (hx : Rw w 0 x.a x.b.length x.c x.b)
    (hA : w1.ownsRow 0 30 1 (.slice (some ⟨gb, 0, none⟩) (ln + 1) c') (ln + 1) (znv Z ++ [znc x])) (hg : w.grownBy w1 (Value.slice lo ln lc).ownBlock) (hl : (Value.slice lo ln lc).ownBlock = some gb ∨ gb = w.heap.size) :
    Zk w1 q lo ln lc ∧ ∃ O', PkZ' (w1.setCell ⟨q, 0, none⟩ (.slice (some ⟨gb, 0, none⟩) (ln + 1) c')) q O' (Z ++ [x]) (some ⟨gb, 0, none⟩) (ln + 1) c' ∧ Fr O w (w1.setCell ⟨q, 0, none⟩ (.slice (some ⟨gb, 0, none⟩) (ln + 1) c')) ∧ (∀ k, O' k → O k ∨ (Value.slice x.a x.b.length x.c).ownBlock = some k ∨ w.heap.size ≤ k) := by
  have f2 : Fr (fun k => (Value.slice lo ln lc).ownBlock = some k) w w1 := Fr.of_grown hg (fun k hk => hk)
  have hne : ∀ {ao n c zs}, Rw w 0 ao n c zs → ∀ k, (Value.slice ao n c).ownBlock = some k → ¬ (Value.slice lo ln lc).ownBlock = some k := fun hR k hk hx => by
    obtain ⟨_, c1, e1⟩ := owns_blockF h.row hx
    obtain ⟨_, _, c2, e2⟩ := hR.own hk
    rw [e1] at e2; simp at e2
  have hd2 : Zk w1 q lo ln lc := h.zk.fr f2 (fun hk => by
    obtain ⟨_, cur, hc⟩ := owns_blockF h.row hk
    exact h.zk.ne hc (by decide) rfl)
  have hx2 : ∀ y ∈ Z, Rw w1 0 y.a y.b.length y.c y.b := fun y hy => (h.each y hy).1.fr f2 (hne (h.each y hy).1)
  have hx3 : Rw w1 0 x.a x.b.length x.c x.b := hx.fr f2 (hne hx)
  have fs : Fr (One q) w1 (w1.setCell ⟨q, 0, none⟩ (.slice (some ⟨gb, 0, none⟩) (ln + 1) c')) := (Fr.refl (One q) _).set (p := ⟨q, 0, none⟩) _ (fun _ => rfl)
  have hn3 : ∀ {ao n c zs}, Rw w1 0 ao n c zs → ∀ k, (Value.slice ao n c).ownBlock = some k → ¬ One q k := fun hR k hk hx => by
    obtain ⟨_, _, cur, hc⟩ := hR.own hk
    exact hd2.ne hc (by decide) hx
  have hs2 := hg.size
  have hs4 := fs.size
  have hl1 : (Z ++ [x]).length = ln + 1 := by rw [List.length_append, h.len]; rfl
  refine ⟨hd2, fun k => O k ∨ (Value.slice x.a x.b.length x.c).ownBlock = some k ∨ (w.heap.size ≤ k ∧ k < w1.heap.size), ⟨hl1, hd2.set0 _ _ _, .inl h.oq, ?_, fun k hk => ?_, fun y hy => ?_, fun k hk => ?_⟩, ?_, fun k hk => hk.imp id (fun h => h.imp id (fun h => h.1))⟩
  · rw [znv_append]
    refine owns_fr hA fs (fun k hk hx => ?_)
    obtain ⟨_, cur, hc⟩ := owns_blockF hA hk
    exact hd2.ne hc (by decide) hx
  · obtain rfl : gb = k := by simpa [Value.ownBlock] using hk
    rcases hl with h' | h'
    · exact .inl (h.orow _ h')
    · exact .inr (.inr ⟨by omega, (owns_blockF hA (by simp [Value.ownBlock])).1⟩)
  · rcases List.mem_append.1 hy with hy | hy
    · exact ⟨(hx2 y hy).fr fs (hn3 (hx2 y hy)), fun k hk => .inl ((h.each y hy).2 k hk)⟩
    · obtain rfl : y = x := by simpa using hy
      exact ⟨hx3.fr fs (hn3 hx3), fun k hk => .inr (.inl hk)⟩
  · rcases hk with hk | hk | hk
    · have := h.lt k hk; omega
    · have := (hx.own hk).2.1; omega
    · omega
  · have fO : Fr O w w1 := f2.mono (fun i _ hi => h.orow i hi)
    exact fO.trans fs (fun i _ (hi : i = q) => by rw [hi]; exact h.oq)
/-- A block turned. -/
theorem PkZ'.turn {lb : Nat} {x : Zn} (h : PkZ' w q O Z (some ⟨lb, 0, none⟩) ln lc) (hx : Rw w 0 x.a x.b.length x.c x.b) (i : Nat) :
    ∃ O', PkZ' (w.setCell ⟨lb, i, none⟩ (znc x)) q O' (Z.set i x) (some ⟨lb, 0, none⟩) ln lc ∧ Fr O w (w.setCell ⟨lb, i, none⟩ (znc x)) ∧ (∀ k, O' k → O k ∨ (Value.slice x.a x.b.length x.c).ownBlock = some k) := by
  have hlb : O lb := h.orow lb (by simp [Value.ownBlock])
  have fs : Fr (One lb) w (w.setCell ⟨lb, i, none⟩ (znc x)) := (Fr.refl (One lb) _).set (p := ⟨lb, i, none⟩) _ (fun _ => rfl)
  obtain ⟨_, cur, hc⟩ := owns_blockF h.row (by simp [Value.ownBlock] : (Value.slice (some ⟨lb, 0, none⟩) ln lc).ownBlock = some lb)
  have hn3 : ∀ {ao n c zs}, Rw w 0 ao n c zs → ∀ k, (Value.slice ao n c).ownBlock = some k → ¬ One lb k := fun hR k hk hx => by
    obtain ⟨_, _, c2, e2⟩ := hR.own hk
    have hx : k = lb := hx
    rw [hx, hc] at e2; simp at e2
  have hs4 := fs.size
  have hl1 : (Z.set i x).length = ln := by rw [List.length_set, h.len]
  refine ⟨fun k => O k ∨ (Value.slice x.a x.b.length x.c).ownBlock = some k, ⟨hl1, ?_, .inl h.oq, ?_, fun k hk => .inl (h.orow k hk), fun y hy => ?_, fun k hk => ?_⟩, fs.mono (fun k _ (hk : k = lb) => by rw [hk]; exact hlb), fun k hk => hk⟩
  · exact h.zk.fr fs (fun e => h.zk.ne hc (by decide) (show lb = q from (show q = lb from e).symm))
  · rw [← znv_set]
    exact (h.row.stored i (znc x)).1
  · rcases List.mem_or_eq_of_mem_set hy with hy | rfl
    · exact ⟨(h.each y hy).1.fr fs (hn3 (h.each y hy).1), fun k hk => .inl ((h.each y hy).2 k hk)⟩
    · exact ⟨hx.fr fs (hn3 hx), fun k hk => .inr hk⟩
  · rcases hk with hk | hk
    · have := h.lt k hk; omega
    · have := (hx.own hk).2.1; omega
end
end Go.Proofs.Ytgmkldfjbjnkcaa

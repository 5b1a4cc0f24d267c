/- Layer 13: the program's packer: its state in memory; New, room, Add. -/
import Derived.Test.YtgmkldfjbjnkcaaFrgPure
import Derived.Deep.RegionHeld3
namespace Go.Proofs.Ytgmkldfjbjnkcaa
set_option linter.unusedVariables false
open Go.RowKit Go.Maps
open Lz (g)
open Frm Mtr

/-- The packer's block. -/
def Pk (w : World) (p : Nat) (ro : Option Addr) (rn rc : Nat) (so : Option Addr) (sn sc : Nat) : Prop := w.heap[p]? = some (.cells #[.slice ro rn rc, .slice so sn sc] 52 (0, 0))
section
variable {w w' : World} {p rn rc sn sc : Nat} {ro so : Option Addr}
theorem Pk.lt (h : Pk w p ro rn rc so sn sc) : p < w.heap.size := heap_lt h
theorem Pk.c0 (h : Pk w p ro rn rc so sn sc) : w.cell? ⟨p, 0, none⟩ = some (.slice ro rn rc) := by unfold Pk at h; simp [World.cell?, h]
theorem Pk.c1 (h : Pk w p ro rn rc so sn sc) : w.cell? ⟨p, 1, none⟩ = some (.slice so sn sc) := by unfold Pk at h; simp [World.cell?, h]
theorem Pk.f (h : Pk w p ro rn rc so sn sc) (i : Nat) : w.frozen? ⟨p, i, none⟩ = false := by unfold Pk at h; simp [World.frozen?, h]
theorem Pk.set0 (h : Pk w p ro rn rc so sn sc) (ro' : Option Addr) (rn' rc' : Nat) : Pk (w.setCell ⟨p, 0, none⟩ (.slice ro' rn' rc')) p ro' rn' rc' so sn sc := by
  unfold Pk; rw [heap_setCell_self h]; rfl
theorem Pk.set1 (h : Pk w p ro rn rc so sn sc) (so' : Option Addr) (sn' sc' : Nat) : Pk (w.setCell ⟨p, 1, none⟩ (.slice so' sn' sc')) p ro rn rc so' sn' sc' := by
  unfold Pk; rw [heap_setCell_self h]; rfl
theorem Pk.fr {S : Nat → Prop} (h : Pk w p ro rn rc so sn sc) (hf : Fr S w w') (hn : ¬ S p) : Pk w' p ro rn rc so sn sc := (hf.block p h.lt hn).trans h
theorem Pk.ne {t : TypeId} {cur : Array Value} {k : Nat} (h : Pk w p ro rn rc so sn sc) (hk : w.heap[k]? = some (.cells cur t (0, 0))) (ht : t ≠ 52) : k ≠ p := fun e => by
  subst e; unfold Pk at h; rw [h] at hk; simp at hk; exact ht hk.2.symm
end
theorem owns_blockF {w : World} {B e size n k : Nat} {v : Value} {xs : List Value} (h : w.ownsRow B e size v n xs) (hk : v.ownBlock = some k) : k < w.heap.size ∧ ∃ cur, w.heap[k]? = some (.cells cur e (0, 0)) := ⟨(h.lt k hk).2, owns_obj h hk⟩
/-- The packer: a row of bytes R, and numbers S; O: the blocks that are its own. -/
structure PkQ (w : World) (p : Nat) (O : Nat → Prop) (R S : List Int) (ro : Option Addr) (rn rc : Nat) (so : Option Addr) (sn sc : Nat) : Prop where
  pk : Pk w p ro rn rc so sn sc
  op : O p
  r : Rw w 0 ro rn rc R
  s : w.ownsRow 0 3 1 (.slice so sn sc) sn (zv S)
  orow : ∀ k, (Value.slice ro rn rc).ownBlock = some k → O k
  osiz : ∀ k, (Value.slice so sn sc).ownBlock = some k → O k
  lt : ∀ k, O k → k < w.heap.size
def PkP (w : World) (p : Nat) (O : Nat → Prop) (L : Frg.Bl) : Prop := ∃ ro rn rc so sn sc, PkQ w p O L.flatten (Frg.szs L) ro rn rc so sn sc
section
variable {w w' : World} {p rn rc sn sc : Nat} {ro so : Option Addr} {O : Nat → Prop} {R S : List Int} {L : Frg.Bl}
theorem PkQ.fr {X : Nat → Prop} (h : PkQ w p O R S ro rn rc so sn sc) (hf : Fr X w w') (hn : ∀ k, O k → ¬ X k) : PkQ w' p O R S ro rn rc so sn sc :=
  ⟨h.pk.fr hf (hn _ h.op), h.op, h.r.fr hf (fun k hk => hn _ (h.orow k hk)), owns_fr h.s hf (fun k hk => hn _ (h.osiz k hk)), h.orow, h.osiz, fun k hk => Nat.lt_of_lt_of_le (h.lt k hk) hf.size⟩
theorem PkP.fr {X : Nat → Prop} (h : PkP w p O L) (hf : Fr X w w') (hn : ∀ k, O k → ¬ X k) : PkP w' p O L := by
  obtain ⟨ro, rn, rc, so, sn, sc, h⟩ := h
  exact ⟨ro, rn, rc, so, sn, sc, h.fr hf hn⟩
theorem PkP.below (h : PkP w p O L) (hb : Below w.heap.size w w') : PkP w' p O L := h.fr (Fr.of_below (S := fun _ => False) hb) (fun _ _ h => h)
theorem PkP.olt (h : PkP w p O L) : ∀ k, O k → k < w.heap.size := by
  obtain ⟨ro, rn, rc, so, sn, sc, h⟩ := h
  exact h.lt
theorem PkQ.len (h : PkQ w p O R S ro rn rc so sn sc) : R.length = rn ∧ S.length = sn := ⟨h.r.1, by have := h.s.1; rw [zv_length] at this; omega⟩
/-- A number more. -/
theorem PkQ.push {o : Obj} {w1 : World} {sb c' : Nat} {x : Int} (h : PkQ w p O R S ro rn rc so sn sc) (hA : w1.ownsRow 0 3 1 (.slice (some ⟨sb, 0, none⟩) (sn + 1) c') (sn + 1) (zv (S ++ [x])))
    (hg : (w.alloc o).grownBy w1 (Value.slice so sn sc).ownBlock) (hl : (Value.slice so sn sc).ownBlock = some sb ∨ sb = (w.alloc o).heap.size) :
    Pk w1 p ro rn rc so sn sc ∧ ∃ O', PkQ (w1.setCell ⟨p, 1, none⟩ (.slice (some ⟨sb, 0, none⟩) (sn + 1) c')) p O' R (S ++ [x]) ro rn rc (some ⟨sb, 0, none⟩) (sn + 1) c' ∧ Fr O w (w1.setCell ⟨p, 1, none⟩ (.slice (some ⟨sb, 0, none⟩) (sn + 1) c')) ∧ Gr O O' w := by
  have ha := h.fr (Fr.of_below (S := fun _ => False) (below_one w o)) (fun _ _ h => h)
  have f2 : Fr (fun k => (Value.slice so sn sc).ownBlock = some k) (w.alloc o) w1 := Fr.of_grown hg (fun k hk => hk)
  have hd2 : Pk w1 p ro rn rc so sn sc := ha.pk.fr f2 (fun hk => by
    obtain ⟨_, cur, hc⟩ := owns_blockF ha.s hk
    exact ha.pk.ne hc (by decide) rfl)
  have hr2 : Rw w1 0 ro rn rc R := ha.r.fr f2 (fun k hk hx => by
    obtain ⟨_, c1, e1⟩ := owns_blockF ha.s hx
    obtain ⟨_, _, c2, e2⟩ := ha.r.own hk
    rw [e1] at e2; simp at e2)
  have fs : Fr (One p) w1 (w1.setCell ⟨p, 1, none⟩ (.slice (some ⟨sb, 0, none⟩) (sn + 1) c')) := (Fr.refl (One p) _).set (p := ⟨p, 1, none⟩) _ (fun _ => rfl)
  have hs2 := hg.size
  have hs4 := fs.size
  have hs0 : (w.alloc o).heap.size = w.heap.size + 1 := by simp
  refine ⟨hd2, fun k => O k ∨ (w.heap.size ≤ k ∧ k < w1.heap.size), ⟨hd2.set1 _ _ _, .inl h.op, hr2.fr fs (fun k hk hx => ?_), owns_fr hA fs (fun k hk hx => ?_), fun k hk => .inl (h.orow k hk), fun k hk => ?_, fun k hk => ?_⟩, ?_, fun k hk => hk.imp id (fun h => h.1)⟩
  · obtain ⟨_, _, cur, hc⟩ := hr2.own hk
    exact hd2.ne hc (by decide) hx
  · obtain ⟨_, cur, hc⟩ := owns_blockF hA hk
    exact hd2.ne hc (by decide) hx
  · obtain rfl : sb = k := by simpa [Value.ownBlock] using hk
    rcases hl with h' | h'
    · exact .inl (h.osiz _ h')
    · exact .inr ⟨by omega, (owns_blockF hA (by simp [Value.ownBlock])).1⟩
  · rcases hk with hk | hk
    · have := h.lt k hk; omega
    · omega
  · have fO : Fr O w w1 := ((Fr.refl O w).alloc o).trans f2 (fun i _ hi => h.osiz i hi)
    exact fO.trans fs (fun i _ (hi : i = p) => by rw [hi]; exact h.op)
/-- Bytes more. -/
theorem PkQ.more {w1 : World} {ro' : Option Addr} {m rc' : Nat} {z : List Int} (h : PkQ w p O R S ro rn rc so sn sc) (hA : Rw w1 0 ro' (rn + m) rc' (R ++ z))
    (hg : w.grownBy w1 (Value.slice ro rn rc).ownBlock) (hl : Lie w (.slice ro rn rc) (.slice ro' (rn + m) rc')) :
    Pk w1 p ro rn rc so sn sc ∧ ∃ O', PkQ (w1.setCell ⟨p, 0, none⟩ (.slice ro' (rn + m) rc')) p O' (R ++ z) S ro' (rn + m) rc' so sn sc ∧ Fr O w (w1.setCell ⟨p, 0, none⟩ (.slice ro' (rn + m) rc')) ∧ Gr O O' w := by
  have f2 : Fr (fun k => (Value.slice ro rn rc).ownBlock = some k) w w1 := Fr.of_grown hg (fun k hk => hk)
  have hd2 : Pk w1 p ro rn rc so sn sc := h.pk.fr f2 (fun hk => by
    obtain ⟨_, _, cur, hc⟩ := h.r.own hk
    exact h.pk.ne hc (by decide) rfl)
  have hr2 : w1.ownsRow 0 3 1 (.slice so sn sc) sn (zv S) := owns_fr h.s f2 (fun k hk hx => by
    obtain ⟨_, c1, e1⟩ := owns_blockF h.s hk
    obtain ⟨_, _, c2, e2⟩ := h.r.own hx
    rw [e1] at e2; simp at e2)
  have fs : Fr (One p) w1 (w1.setCell ⟨p, 0, none⟩ (.slice ro' (rn + m) rc')) := (Fr.refl (One p) _).set (p := ⟨p, 0, none⟩) _ (fun _ => rfl)
  have hs2 := hg.size
  have hs4 := fs.size
  refine ⟨hd2, fun k => O k ∨ (w.heap.size ≤ k ∧ k < w1.heap.size), ⟨hd2.set0 _ _ _, .inl h.op, hA.fr fs (fun k hk hx => ?_), owns_fr hr2 fs (fun k hk hx => ?_), fun k hk => ?_, fun k hk => .inl (h.osiz k hk), fun k hk => ?_⟩, ?_, fun k hk => hk.imp id (fun h => h.1)⟩
  · obtain ⟨_, _, cur, hc⟩ := hA.own hk
    exact hd2.ne hc (by decide) hx
  · obtain ⟨_, cur, hc⟩ := owns_blockF hr2 hk
    exact hd2.ne hc (by decide) hx
  · rcases hl k hk with h' | h'
    · exact .inl (h.orow k h')
    · exact .inr ⟨h', (hA.own hk).2.1⟩
  · rcases hk with hk | hk
    · have := h.lt k hk; omega
    · omega
  · have fO : Fr O w w1 := f2.mono (fun i _ hi => h.orow i hi)
    exact fO.trans fs (fun i _ (hi : i = p) => by rw [hi]; exact h.op)
/-- A number turned. -/
theorem PkQ.turn {sb : Nat} (h : PkQ w p O R S ro rn rc (some ⟨sb, 0, none⟩) sn sc) (i : Nat) (x : Int) (hi : i < sn) :
    PkQ (w.setCell ⟨sb, i, none⟩ (.int .i64 x)) p O R (S.set i x) ro rn rc (some ⟨sb, 0, none⟩) sn sc ∧ Fr O w (w.setCell ⟨sb, i, none⟩ (.int .i64 x)) := by
  have hsb : O sb := h.osiz sb (by simp [Value.ownBlock])
  have fs : Fr (One sb) w (w.setCell ⟨sb, i, none⟩ (.int .i64 x)) := (Fr.refl (One sb) _).set (p := ⟨sb, i, none⟩) _ (fun _ => rfl)
  obtain ⟨_, cur, hc⟩ := owns_blockF h.s (by simp [Value.ownBlock] : (Value.slice (some ⟨sb, 0, none⟩) sn sc).ownBlock = some sb)
  refine ⟨⟨h.pk.fr fs (fun e => ?_), h.op, h.r.fr fs (fun k hk hx => ?_), ?_, h.orow, h.osiz, fun k hk => Nat.lt_of_lt_of_le (h.lt k hk) fs.size⟩, fs.mono (fun k _ (hk : k = sb) => by rw [hk]; exact hsb)⟩
  · exact h.pk.ne hc (by decide) (show sb = p from (show p = sb from e).symm)
  · obtain ⟨_, _, c2, e2⟩ := h.r.own hk
    have hx : k = sb := hx
    rw [hx, hc] at e2; simp at e2
  · have := h.s.stored i (.int .i64 x)
    rw [zv_set] at this
    exact this.1
end
set_option maxRecDepth 100000 in
theorem fNew_any (w : World) : Calls Try.prog 9 #[] w fun r w' => r = .returned (.pointer (some ⟨w.heap.size, 0, none⟩)) ∧ PkP w' w.heap.size (One w.heap.size) [] ∧ Below w.heap.size w w' ∧ w'.heap.size = w.heap.size + 1 := by
  go_enter Try.func9, Try.ntmps9
  go_wp2
  go_ret
  exact ⟨rfl, ⟨none, 0, 0, none, 0, 0, heap_alloc_new w _, rfl, Rw.none _ _, World.ownsRow_nil _ _ _ _, fun k hk => by simp [Value.ownBlock] at hk, fun k hk => by simp [Value.ownBlock] at hk, fun k hk => by rw [show k = w.heap.size from hk]; simp⟩, below_one _ _, by simp⟩
/-- The room that is left. -/
def Frg.room (S : List Int) : Int := if S.length = 0 then 0 else 128 - g S (S.length - 1)
set_option maxRecDepth 100000 in
theorem room_any (p : Nat) (w : World) (O : Nat → Prop) (R S : List Int) (ro so : Option Addr) (rn rc sn sc : Nat) (h : PkQ w p O R S ro rn rc so sn sc) (hn : sn ≤ 1000000) (hS : ∀ x ∈ S, 0 ≤ x ∧ x ≤ 128) :
    Calls Try.prog 17 #[.pointer (some ⟨p, 0, none⟩)] w fun r w' => r = .returned (.int .i64 (Frg.room S)) ∧ ∃ k, w' = w.drewN k := by
  have c1 := h.pk.c1
  have hl := h.len.2
  by_cases h0 : sn = 0
  · subst h0
    have e : Frg.room S = 0 := by unfold Frg.room; rw [if_pos hl]
    rw [e]
    clear e h hS hl
    go_enter Try.func17, Try.ntmps17
    go_wp2
    go_ret
    exact ⟨rfl, 0, rfl⟩
  · obtain ⟨b, off, rfl, hlt, hc⟩ := (Zs.of h.s).at (by omega)
    have hcell := hc (sn - 1) (by omega)
    have e : Frg.room S = 128 - g S (sn - 1) := by unfold Frg.room; rw [if_neg (by omega), hl]
    have hx : 0 ≤ g S (sn - 1) ∧ g S (sn - 1) ≤ 128 := by
      rw [g_get _ _ (by omega)]; exact hS _ (List.getElem_mem _)
    rw [e]
    generalize g S (sn - 1) = x at *
    obtain ⟨t, ht⟩ : ∃ t, sn - 1 = t := ⟨_, rfl⟩
    rw [ht] at hcell
    have h0' : ((sn : Int) == 0) = false := by simp; omega
    have e1 : IntKind.i64.wrap ((sn : Int) - 1) = (t : Int) := by rw [IntKind.wrap_i64]; omega
    have e2 : IntKind.i64.wrap (128 - x) = 128 - x := by rw [IntKind.wrap_i64]; omega
    have e3 : (t : Int) < (sn : Int) := by omega
    clear e h hS hl hc ht
    go_enter Try.func17, Try.ntmps17
    go_wp2_with fail
    go_quiet (fail)
    go_wp2
    go_ret
    exact ⟨rfl, _, rfl⟩
end Go.Proofs.Ytgmkldfjbjnkcaa

/- Layer 13: what FragBack has: the tails that are told a place, their asks and their rows beside a packer; an image and its places that grow. -/
import Derived.Test.YtgmkldfjbjnkcaaFrgRows
import Derived.Test.YtgmkldfjbjnkcaaFrgRead
namespace Go.Proofs.Ytgmkldfjbjnkcaa
set_option linter.unusedVariables false
open Go.RowKit Go.Maps
open Lz (g)
open Crc (ent more)
open Frm Mtr Frg

namespace Frg
/-- Is a row a tail? -/
def good (z : Nat → List Int) (j : Nat) : Bool := decide (¬ ((z j).length < 1 ∨ 128 ≤ (z j).length))
theorem good_true {z : Nat → List Int} {j : Nat} : good z j = true ↔ ¬ ((z j).length < 1 ∨ 128 ≤ (z j).length) := by unfold good; rw [decide_eq_true_eq]
/-- Those that are, of the first i. -/
def gi (z : Nat → List Int) (i : Nat) : List Nat := (List.range i).filter (good z)
theorem gi_good {z : Nat → List Int} {i : Nat} (h : good z i = true) : gi z (i + 1) = gi z i ++ [i] := by simp [gi, List.range_succ, List.filter_append, h]
theorem gi_bad {z : Nat → List Int} {i : Nat} (h : good z i = false) : gi z (i + 1) = gi z i := by simp [gi, List.range_succ, List.filter_append, h]
theorem gi_mem {z : Nat → List Int} {i j : Nat} (h : j ∈ gi z i) : j < i ∧ good z j = true := by
  unfold gi at h
  rw [List.mem_filter, List.mem_range] at h
  exact h
theorem gi_le (z : Nat → List Int) (i : Nat) : (gi z i).length ≤ i := by
  have := List.length_filter_le (good z) (List.range i)
  unfold gi
  simpa using this
/-- An ask's cells. -/
def akc (z : Nat → List Int) (j : Nat) : List Value := [.int .i64 ((add (stt z j) (z j)).2.1 : Nat), .int .i64 ((add (stt z j) (z j)).2.2 : Nat), .int .i64 ((z j).length : Nat)]
def akv (z : Nat → List Int) (G : List Nat) : List Value := (G.map (akc z)).flatten
theorem akv_append (z : Nat → List Int) (A B : List Nat) : akv z (A ++ B) = akv z A ++ akv z B := by simp [akv]
theorem akv_one (z : Nat → List Int) (j : Nat) : akv z [j] = akc z j := by simp [akv]
theorem akv_length (z : Nat → List Int) (G : List Nat) : (akv z G).length = G.length * 3 := by
  induction G with
  | nil => rfl
  | cons x G ih =>
    have e : akv z (x :: G) = akc z x ++ akv z G := by simp [akv]
    rw [e, List.length_append, ih, List.length_cons]
    have : (akc z x).length = 3 := rfl
    omega
theorem akv_get (z : Nat → List Int) (G : List Nat) (a k : Nat) (h : a < G.length) (hk : k < 3) : (akv z G)[a * 3 + k]? = (akc z G[a])[k]? := by
  have e : akv z G = akv z (G.take a) ++ (akc z G[a] ++ akv z (G.drop (a + 1))) := by
    have h1 : akv z G = akv z (G.take a ++ (G[a] :: G.drop (a + 1))) := by rw [List.getElem_cons_drop, List.take_append_drop]
    rw [h1, akv_append]
    unfold akv
    rw [List.map_cons, List.flatten_cons]
  have hl : (akv z (G.take a)).length = a * 3 := by rw [akv_length, List.length_take, Nat.min_eq_left (by omega)]
  have hl2 : (akc z G[a]).length = 3 := rfl
  rw [e, List.getElem?_append_right (by omega), hl, List.getElem?_append_left (by omega)]
  congr 1
  omega
theorem akc_ones (z : Nat → List Int) (j : Nat) : ∀ u ∈ akc z j, u.oneCell' = true := fun u hu => by
  simp [akc] at hu
  rcases hu with rfl | rfl | rfl <;> rfl
end Frg
theorem infoAskF : (Try.prog.info? 46).map (fun i => (i.zero, i.size, i.bytes)) = some (some (.agg #[.int .i64 0, .int .i64 0, .int .i64 0]), 3, 24) := by kernel_rfl
/-- A packer, a row of asks and a row of rows beside it. -/
structure FB (w : World) (p : Nat) (O : Nat → Prop) (L : Bl) (ko : Option Addr) (kn kc : Nat) (AV : List Value) (io : Option Addr) (n ic : Nat) (IV : List Value) (W : World) : Prop where
  fs : Fps w p O L W
  ask : W.ownsRow w.heap.size 46 3 (.slice ko kn kc) kn AV
  ins : W.ownsRow w.heap.size 30 1 (.slice io n ic) n IV
  noa : ∀ k, (Value.slice ko kn kc).ownBlock = some k → ¬ O k
  noi : ∀ k, (Value.slice io n ic).ownBlock = some k → ¬ O k
section
variable {w W W' : World} {p kn kc n ic : Nat} {O : Nat → Prop} {L : Bl} {ko io : Option Addr} {AV IV : List Value}
theorem FB.below (h : FB w p O L ko kn kc AV io n ic IV W) (hb : Below W.heap.size W W') : FB w p O L ko kn kc AV io n ic IV W' := ⟨h.fs.below hb, owns_below h.ask hb, owns_below h.ins hb, h.noa, h.noi⟩
theorem FB.step {O' : Nat → Prop} {L' : Bl} (h : FB w p O L ko kn kc AV io n ic IV W) (h1 : Fps w p O' L' W') (h2 : Fr O W W') (h3 : Gr O O' W) : FB w p O' L' ko kn kc AV io n ic IV W' :=
  ⟨h1, owns_fr h.ask h2 h.noa, owns_fr h.ins h2 h.noi, fun k hk hx => by
    rcases h3 k hx with hx | hx
    · exact h.noa k hk hx
    · have := (h.ask.lt k hk).2; omega, fun k hk hx => by
    rcases h3 k hx with hx | hx
    · exact h.noi k hk hx
    · have := (h.ins.lt k hk).2; omega⟩
theorem FB.putA {o : Obj} {b' c' H : Nat} {AV' : List Value} (h : FB w p O L ko kn kc AV io n ic IV W) (h1 : W'.ownsRow w.heap.size 46 3 (.slice (some ⟨b', 0, none⟩) (kn + 1) c') (kn + 1) AV') (hg : (W.alloc o).grownBy W' (Value.slice ko kn kc).ownBlock) (hl : (Value.slice ko kn kc).ownBlock = some b' ∨ b' = H) (hH : W.heap.size ≤ H) : FB w p O L (some ⟨b', 0, none⟩) (kn + 1) c' AV' io n ic IV W' := by
  have hd := h.below (below_one W o)
  have hf : Fr (fun k => (Value.slice ko kn kc).ownBlock = some k) (W.alloc o) W' := Fr.of_grown hg (fun k hk => hk)
  refine ⟨hd.fs.turn hf (fun k hk hx => h.noa k hx hk) (fun k hk => (h.ask.lt k hk).1), h1, owns_fr hd.ins hf (fun k hk hx => ?_), fun k hk hx => ?_, h.noi⟩
  · obtain ⟨_, c1, e1⟩ := owns_blockF hd.ins hk
    obtain ⟨_, c2, e2⟩ := owns_blockF hd.ask hx
    rw [e1] at e2; simp at e2
  · obtain rfl : b' = k := by simpa [Value.ownBlock] using hk
    rcases hl with h7 | h7
    · exact h.noa b' h7 hx
    · have := h.fs.pk.olt b' hx; omega
theorem FB.putI {o : Obj} {b' c' H : Nat} {IV' : List Value} (h : FB w p O L ko kn kc AV io n ic IV W) (h1 : W'.ownsRow w.heap.size 30 1 (.slice (some ⟨b', 0, none⟩) (n + 1) c') (n + 1) IV') (hg : (W.alloc o).grownBy W' (Value.slice io n ic).ownBlock) (hl : (Value.slice io n ic).ownBlock = some b' ∨ b' = H) (hH : W.heap.size ≤ H) : FB w p O L ko kn kc AV (some ⟨b', 0, none⟩) (n + 1) c' IV' W' := by
  have hd := h.below (below_one W o)
  have hf : Fr (fun k => (Value.slice io n ic).ownBlock = some k) (W.alloc o) W' := Fr.of_grown hg (fun k hk => hk)
  refine ⟨hd.fs.turn hf (fun k hk hx => h.noi k hx hk) (fun k hk => (h.ins.lt k hk).1), owns_fr hd.ask hf (fun k hk hx => ?_), h1, h.noa, fun k hk hx => ?_⟩
  · obtain ⟨_, c1, e1⟩ := owns_blockF hd.ins hx
    obtain ⟨_, c2, e2⟩ := owns_blockF hd.ask hk
    rw [e1] at e2; simp at e2
  · obtain rfl : b' = k := by simpa [Value.ownBlock] using hk
    rcases hl with h7 | h7
    · exact h.noi b' h7 hx
    · have := h.fs.pk.olt b' hx; omega
end
/-- An image and its places, since a world; of what was there then, only blocks of Y may have turned. -/
structure FI (w : World) (Y : Nat → Prop) (io : Option Addr) (n ic : Nat) (Im : List Int) (po : Option Addr) (pn pc : Nat) (P : List Int) (W : World) : Prop where
  fr : Fr Y w W
  im : Rw W 0 io n ic Im
  pl : W.ownsRow 0 3 1 (.slice po pn pc) pn (zv P)
  yi : ∀ k, (Value.slice io n ic).ownBlock = some k → Y k ∨ w.heap.size ≤ k
  yp : ∀ k, (Value.slice po pn pc).ownBlock = some k → Y k ∨ w.heap.size ≤ k
section
variable {w W W' : World} {n ic pn pc : Nat} {Y : Nat → Prop} {io po : Option Addr} {Im P : List Int}
theorem FI.below (h : FI w Y io n ic Im po pn pc P W) (hb : Below W.heap.size W W') : FI w Y io n ic Im po pn pc P W' :=
  ⟨h.fr.then (Fr.of_below hb), h.im.fr (Fr.of_below (S := fun _ => False) hb) (fun _ _ => id), owns_below h.pl hb, h.yi, h.yp⟩
theorem FI.putP {o : Obj} {b' c' : Nat} {P' : List Int} (h : FI w Y io n ic Im po pn pc P W) (h1 : W'.ownsRow 0 3 1 (.slice (some ⟨b', 0, none⟩) (pn + 1) c') (pn + 1) (zv P')) (hg : (W.alloc o).grownBy W' (Value.slice po pn pc).ownBlock) (hl : (Value.slice po pn pc).ownBlock = some b' ∨ b' = (W.alloc o).heap.size) : FI w Y io n ic Im (some ⟨b', 0, none⟩) (pn + 1) c' P' W' := by
  have hd := h.below (below_one W o)
  have hf : Fr (fun k => (Value.slice po pn pc).ownBlock = some k) (W.alloc o) W' := Fr.of_grown hg (fun k hk => hk)
  refine ⟨hd.fr.trans hf (fun i hi hx => (h.yp i hx).elim id (fun h => by omega)), hd.im.fr hf (fun k hk hx => ?_), h1, h.yi, fun k hk => ?_⟩
  · obtain ⟨_, c1, e1⟩ := owns_blockF hd.pl hx
    obtain ⟨_, _, c2, e2⟩ := hd.im.own hk
    rw [e1] at e2; simp at e2
  · obtain rfl : b' = k := by simpa [Value.ownBlock] using hk
    rcases hl with h7 | h7
    · exact h.yp b' h7
    · have := h.fr.size
      simp at h7
      exact .inr (by omega)
theorem FI.putI {io' : Option Addr} {m ic' : Nat} {z : List Int} (h : FI w Y io n ic Im po pn pc P W) (h1 : Rw W' 0 io' (n + m) ic' (Im ++ z)) (hg : W.grownBy W' (Value.slice io n ic).ownBlock) (hl : Lie W (.slice io n ic) (.slice io' (n + m) ic')) : FI w Y io' (n + m) ic' (Im ++ z) po pn pc P W' := by
  have hf : Fr (fun k => (Value.slice io n ic).ownBlock = some k) W W' := Fr.of_grown hg (fun k hk => hk)
  refine ⟨h.fr.trans hf (fun i hi hx => (h.yi i hx).elim id (fun h => by omega)), h1, owns_fr h.pl hf (fun k hk hx => ?_), fun k hk => ?_, h.yp⟩
  · obtain ⟨_, c1, e1⟩ := owns_blockF h.pl hk
    obtain ⟨_, _, c2, e2⟩ := h.im.own hx
    rw [e1] at e2; simp at e2
  · rcases hl k hk with h7 | h7
    · exact h.yi k h7
    · exact .inr (Nat.le_trans h.fr.size h7)
end
end Go.Proofs.Ytgmkldfjbjnkcaa

/- The walk of the reference's Pack: it comes to the tokens that the document says. -/
import Derived.Test.YtaobfoenopccjabPack
namespace Go.Proofs.Ytaobfoenopccjab
set_option linter.unusedVariables false
open Go.RowKit Go.Maps
open Lz (g runs mt pk pack)

theorem emptyB {w : World} {B : Nat} (hB : B ≤ w.heap.size) : (w.alloc (.cells #[] 5)).ownsRow B 5 1 (.slice (some ⟨w.heap.size, 0, none⟩) 0 0) 0 (bv []) :=
  ⟨rfl, .inr ⟨w.heap.size, 0, #[], rfl, hB, heap_alloc_new w _, Nat.le_refl _, by unfold maxLen; omega, rfl, rfl⟩⟩

/-- What a row of bytes of the call's own holds, as a source. -/
theorem src_of {w : World} {B n c : Nat} {ao : Option Addr} {v : Value} {l : List Int} (h : w.ownsRow B 5 1 (.slice ao n c) n (bv l)) (hne : (Value.slice ao n c).ownBlock ≠ v.ownBlock) (hby : ∀ i, 0 ≤ g l i ∧ g l i ≤ 255) : Src w v ao n l := by
  have hlen : l.length = n := by have := h.1; rw [bv_length] at this; omega
  refine ⟨hlen, hby, ?_⟩
  by_cases e : n = 0
  · exact .inl e
  · obtain ⟨gb, c', hv, _, hlt⟩ := h.form (by omega)
    obtain ⟨rfl, _, rfl⟩ : ao = some ⟨gb, 0, none⟩ ∧ n = n ∧ c = c' := by simpa using hv
    refine .inr ⟨gb, 0, rfl, hlt, by simpa [Value.ownBlock] using hne, fun i hi => ?_⟩
    rw [Nat.zero_add, h.cellAt i (by omega)]
    unfold bv
    rw [List.getElem?_map, List.getElem?_eq_getElem hi, Lz.g_lt _ _ hi]; rfl

theorem grown_drewN {w w1 : World} {nq : Nat} {row : Option Nat} (h : (w.drewN nq).grownBy w1 row) : w.grownBy w1 row := ⟨h.os, h.tape, h.output, h.size, h.block⟩
theorem lies_ne {w : World} {r r' v : Value} {B e size n : Nat} {xs : List Value} (h : Lies w r r') (ho : w.ownsRow B e size v n xs) (hne : r.ownBlock ≠ v.ownBlock) : r'.ownBlock ≠ v.ownBlock := by
  rcases h with h | ⟨k, h, hk⟩
  · rw [h]; exact hne
  · rw [h]
    intro e
    have := (ho.lt k e.symm).2
    omega
theorem news2 (w : World) (o : Obj) (xs : List Int) : ∀ j u, (bv xs)[j]? = some u → ((w.alloc o).alloc (.cells (bv xs).toArray 5)).cell? ((⟨w.heap.size + 1, 0, none⟩ : Addr).add j) = some u := by
  have h := heap_alloc_new (w.alloc o) (Obj.cells (bv xs).toArray 5)
  have e : (w.alloc o).heap.size = w.heap.size + 1 := by simp
  rw [e] at h
  have := World.news_of_block h
  simpa using this
theorem mtI_nat (zs : List Int) (a : Nat) : mtI zs (a : Int) = mt zs a := by
  unfold mtI
  rw [if_neg (by omega)]; rfl
theorem take_snoc (zs : List Int) (run a : Nat) (h : a < zs.length) (hr : run ≤ a) : (zs.take (a + 1)).drop run = (zs.take a).drop run ++ [g zs a] := by
  rw [List.take_succ_eq_append_getElem h, List.drop_append_of_le_length (by simp; omega), Lz.g_lt zs a h]
theorem drop_none (zs : List Int) (a : Nat) : (zs.take a).drop a = [] := by
  apply List.drop_eq_nil_of_le; simp; omega

end Go.Proofs.Ytaobfoenopccjab

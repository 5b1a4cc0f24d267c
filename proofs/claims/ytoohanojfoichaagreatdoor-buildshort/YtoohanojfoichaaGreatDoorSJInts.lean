/- What the proof stands on: Ints, Nums, with what the proof reaches of it. -/
import Derived.Test.YtoohanojfoichaaGreatDoorSJBase
import Derived.ProofKit
import Derived.OpenShut

/- Ints in memory that came in. Nothing here speaks of one function of the program. -/
namespace Go.Proofs.YtoohanojfoichaaGreatDoor
set_option linter.unusedVariables false
set_option maxRecDepth 100000
open Go.RowKit Go.Maps Go.ChangeShapes Go.WideShapes Go.ChangeAt

end Go.Proofs.YtoohanojfoichaaGreatDoor

/- Rows of ints: of the call's own, and to be read. Nothing here speaks of one function of the program. -/
namespace Go.Proofs.YtoohanojfoichaaGreatDoor
set_option linter.unusedVariables false
open Go.RowKit Go.Maps
open Lz (g)

/-- Numbers as cells. -/
def zv (l : List Int) : List Value := l.map (Value.int .i64)
theorem zv_length (l : List Int) : (zv l).length = l.length := by simp [zv]
theorem zv_append (l m : List Int) : zv (l ++ m) = zv l ++ zv m := by simp [zv]
theorem zv_set (l : List Int) (i : Nat) (x : Int) : (zv l).set i (.int .i64 x) = zv (l.set i x) := by simp [zv, List.map_set]
/-- A slice of ints that may be read. -/
def Zs (w : World) (ao : Option Addr) (n : Nat) (l : List Int) : Prop :=
  l.length = n ∧ (n = 0 ∨ ∃ b off, ao = some ⟨b, off, none⟩ ∧ b < w.heap.size ∧ ∀ i, i < n → w.cell? ⟨b, off + i, none⟩ = some (.int .i64 (g l i)))
theorem Zs.below {w w' : World} {ao : Option Addr} {n : Nat} {l : List Int} (h : Zs w ao n l) (hb : Below w.heap.size w w') : Zs w' ao n l := by
  refine ⟨h.1, ?_⟩
  rcases h.2 with h0 | ⟨b, off, h1, h2, h3⟩
  · exact .inl h0
  · exact .inr ⟨b, off, h1, Nat.lt_of_lt_of_le h2 hb.size, fun i hi => (hb.cell (by exact h2)).trans (h3 i hi)⟩
theorem Zs.at {w : World} {ao : Option Addr} {n : Nat} {l : List Int} (h : Zs w ao n l) (hn : 0 < n) : ∃ b off, ao = some ⟨b, off, none⟩ ∧ b < w.heap.size ∧ ∀ i, i < n → w.cell? ⟨b, off + i, none⟩ = some (.int .i64 (g l i)) := by
  rcases h.2 with h0 | h1
  · omega
  · exact h1
theorem g_get (l : List Int) (i : Nat) (h : i < l.length) : g l i = l[i] := by simp [g, h]
theorem Zs.of {w : World} {B n c : Nat} {ao : Option Addr} {l : List Int} (h : w.ownsRow B 3 1 (.slice ao n c) n (zv l)) : Zs w ao n l := by
  have hl : l.length = n := by have := h.1; simpa [zv] using this
  refine ⟨hl, ?_⟩
  by_cases hm0 : n = 0
  · exact .inl hm0
  · obtain ⟨b, c', hv, hg, _⟩ := h.form (by omega)
    obtain ⟨rfl, rfl⟩ : ao = some ⟨b, 0, none⟩ ∧ c = c' := by simpa using hv
    refine .inr ⟨b, 0, rfl, (h.lt b rfl).2, fun i hi => ?_⟩
    rw [Nat.zero_add, h.cellAt i (by omega)]
    simp [zv, g, hl, hi]
theorem infoNum : (Tryz.prog.info? 3).map (fun i => (i.zero, i.size, i.bytes)) = some (some (.int .i64 0), 1, 8) := by kernel_rfl
/-- 'append' of one number to a row of the call's own, and where the row lies. -/
theorem wpList_append_num_at (w : World) {ops : Array Oper} {rest : List Oper} {o : Oper} {a : Act} {Q : Exit → Act → World → Prop} (hgd : o.guard = none) (s x : Operand)
    (ho : o.op = .call { callee := .builtin .append, args := #[s, x], argTypes := #[49, 49] })
    (base : Nat) (vo : Option Addr) (n vc : Nat) (l : List Int) (hs : a.eval s = .slice vo n vc) (hown : w.ownsRow base 3 1 (.slice vo n vc) n (zv l))
    (p : Nat) (t : Int) (hx : a.eval x = .slice (some ⟨p, 0, none⟩) 1 1) (hp : w.cell? ⟨p, 0, none⟩ = some (.int .i64 t))
    (hbd : n + 1 ≤ 100000000) (hbase : base ≤ w.heap.size)
    (h : ∀ b' c' w', w'.ownsRow base 3 1 (.slice (some ⟨b', 0, none⟩) (n + 1) c') (n + 1) (zv (l ++ [t])) → w.grownBy w' (Value.slice vo n vc).ownBlock → ((Value.slice vo n vc).ownBlock = some b' ∨ b' = w.heap.size) → wpList Tryz.prog ops Q rest (a.put o.dst (.slice (some ⟨b', 0, none⟩) (n + 1) c')) w') :
    wpList Tryz.prog ops Q (o :: rest) a w := by
  obtain ⟨i0, hi, hz0, hz1, hz2⟩ := info_parts infoNum
  refine wpList_append_own_at w hgd s x _ ho base 3 i0 (.int .i64 0) 1 8 Tryz.underlying49 hi hz0 hz1 hz2 rfl (by decide) _ n _ hs hown ⟨p, 0, none⟩ 1 1 [.int .i64 t] hx (by simp) ?_ (by simp; rfl) (by unfold maxLen; omega) (by omega) hbase ?_
  · intro j u hj
    match j, hj with
    | 0, hj => simp at hj; subst hj; simpa [Addr.add] using hp
  · intro v' w' h2 h3 _ h5
    obtain ⟨g', c', rfl, _⟩ := h2.form (by omega)
    refine h g' c' w' (by rw [zv_append]; exact h2) h3 ?_
    rcases h5 with h5 | h5
    · exact .inl h5.symm
    · exact .inr (by simpa [Value.ownBlock] using h5)
end Go.Proofs.YtoohanojfoichaaGreatDoor

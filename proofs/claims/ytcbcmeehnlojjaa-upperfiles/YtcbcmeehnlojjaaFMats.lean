import Derived.Test.YtcbcmeehnlojjaaFJBase
import Derived.Deep.Matrix
import Derived.ProofKit
set_option linter.unusedVariables false
namespace Go.Proofs.Ytcbcmeehnlojjaa
open Go.RowKit Go.Maps Go.ChangeShapes Go.WideShapes Go.ChangeAt
open Lz (g)
def MatB (w : World) (a : Option Addr) (len cap : Nat) (R : Nat → Option Addr × Nat × Nat × List Int) : Prop :=
 (a = none ∧ len = 0 ∧ cap = 0) ∨
 ∃ x, a = some x ∧ len ≤ cap ∧ cap ≤ maxLen ∧ ∀ r, r < len → w.cell? (x.add r) = some (.slice (R r).1 (R r).2.1 (R r).2.2.1) ∧ RowB w (R r).1 (R r).2.1 (R r).2.2.1 (R r).2.2.2
set_option maxRecDepth 100000 in
theorem open_rows {H : Type} {enc : TypeId × Value → H} {W : World} {base : Nat} {v : Value} {d : DataW H} {p : List MemPlace} (hok : Value.okWide Try.prog W .any base 52 v)
  (h : DataW.Trod enc Try.prog W 0 (fun _ => true) true 52 v d p) : ∃ a len cap R, v = .slice a len cap ∧ MatB W a len cap R := by
 obtain ⟨a, len, cap, rfl⟩ := okWide_slice Try.underlying52 hok
 obtain ⟨fuel, hf⟩ := h
 rcases Deep.open_int_rows Try.underlying52 Try.underlying25 Try.underlying5 (by kernel_rfl) (by kernel_rfl) hf with ⟨hcs, _⟩ | ⟨x, l, c, A, L, C, Z, hcs, _, hl, hm, _, hr⟩
 ·simp [Value.cells] at hcs
  obtain ⟨rfl, rfl, rfl⟩ := hcs
  exact ⟨none, 0, 0, fun _ => (none, 0, 0, []), rfl, .inl ⟨rfl, rfl, rfl⟩⟩
 ·simp [Value.cells] at hcs
  obtain ⟨rfl, rfl, rfl⟩ := hcs
  refine ⟨_, _, _, fun r => (A r, L r, C r, Z r), rfl, .inr ⟨x, rfl, hl, hm, fun r hlt => ?_⟩⟩
  obtain ⟨h1, h2, h3, h4, h5, h6, h7⟩ := hr r (by omega)
  refine ⟨h1, ?_⟩
  show RowB W (A r) (L r) (C r) (Z r)
  cases hA : A r with
  | none =>
   have hC := h6 hA
   have hz : Z r = [] := List.eq_nil_of_length_eq_zero (by omega)
   exact .inl ⟨rfl, by omega, hC, hz⟩
  | some a' =>
   exact .inr ⟨a', rfl, h2, h3, h4, fun i hi => (h7 a' hA).2 i (by omega), h5⟩
end Go.Proofs.Ytcbcmeehnlojjaa

/- Ints that came in, with their capacity. Nothing here speaks of one function of the program. -/
import Derived.Test.YtgmkldfjbjnkcaaInts
namespace Go.Proofs.Ytgmkldfjbjnkcaa
set_option linter.unusedVariables false
set_option maxRecDepth 100000
open Go.RowKit Go.Maps Go.ChangeShapes Go.WideShapes Go.ChangeAt

/-- A slice of ints that came in, with its capacity. -/
theorem open_intsc {H : Type} {enc : TypeId × Value → H} {W : World} {base : Nat} {v : Value} {d : DataW H} {p : List MemPlace} (hok : Value.okWide Try.prog W .any base 35 v)
    (h : DataW.Trod enc Try.prog W 0 (fun _ => true) true 35 v d p) : ∃ a len cap Z, v = .slice a len cap ∧ IntsB W a len cap Z ∧ len ≤ cap ∧ cap ≤ 9223372036854775807 := by
  obtain ⟨a, len, cap, Z, rfl, hI⟩ := open_ints' hok h
  refine ⟨a, len, cap, Z, rfl, hI, ?_⟩
  obtain ⟨fuel, hf⟩ := h
  rcases open_ints Try.underlying35 Try.underlying3 (by kernel_rfl) hf with ⟨hcs, _⟩ | ⟨x, l, c, zs, hcs, _, hl, hm, _⟩
  · simp [Value.cells] at hcs
    obtain ⟨rfl, rfl, rfl⟩ := hcs
    exact ⟨Nat.le_refl _, by omega⟩
  · simp [Value.cells] at hcs
    obtain ⟨rfl, rfl, rfl⟩ := hcs
    exact ⟨hl, by unfold maxLen at hm; omega⟩
end Go.Proofs.Ytgmkldfjbjnkcaa

/- A table that came in, opened: 256 numbers that fit. -/
import Derived.Test.YthdmmachaplmjaaOf
import Derived.ProofKit
import Derived.OpenShut
namespace Go.Proofs.Ythdmmachaplmjaa
set_option linter.unusedVariables false
open Go.ChangeShapes Go.WideShapes Go.ChangeAt Go.RowKit

theorem open_table {H : Type} {enc : TypeId × Value → H} {W : World} {base : Nat} {sp : Nat → Bool} {v : Value} {d : DataW H} {p : List MemPlace} (hok : Value.okWide Try.prog W .any base 24 v)
    (h : DataW.Trod enc Try.prog W 0 sp true 24 v d p) : ∃ T, v = .agg (tab T) ∧ Small T := by
  have hu := Try.underlying24
  have hc : Try.prog.cellsOf 24 = 256 := by kernel_rfl
  have he : Try.prog.cellsOf 23 = 1 := by kernel_rfl
  unfold Value.okWide at hok
  rw [hu] at hok
  obtain ⟨cs, rfl, hsz, _⟩ := hok
  rw [hc] at hsz
  obtain ⟨fuel, hf⟩ := h
  obtain ⟨xs, m, _, _, _, hxl, hel⟩ := DataW.trod_array hu hf
  have each : ∀ i, i < 256 → ∃ n : Int, cs[i]? = some (.int .u32 n) ∧ (Lit.int .u32 n).wf = true := fun i hi => by
    have h1 := hel i hi
    rw [he, Nat.mul_one, List.getElem?_eq_getElem (by omega)] at h1
    obtain ⟨n, hcs, _, hwf⟩ := DataW.trod_int Try.underlying23 h1
    refine ⟨n, ?_, hwf⟩
    have h2 : (((Value.agg cs).cells.toList.drop i).take 1)[0]? = some (.int .u32 n) := by rw [hcs]; rfl
    rw [List.getElem?_take_of_lt (by omega), List.getElem?_drop, Nat.add_zero] at h2
    simpa [Value.cells] using h2
  refine ⟨fun i => match cs[i]? with | some (.int _ n) => n.toNat | _ => 0, ?_, ?_⟩
  · congr 1
    apply Array.ext_getElem?
    intro i
    by_cases hi : i < 256
    · obtain ⟨n, h1, hwf⟩ := each i hi
      rw [tab_at _ _ hi, h1]
      have := wf_u32 hwf
      simp only [Option.some.injEq, Value.int.injEq, true_and]
      omega
    · rw [Array.getElem?_eq_none (by omega), Array.getElem?_eq_none (by rw [tab_size]; omega)]
  · intro i hi
    obtain ⟨n, h1, hwf⟩ := each i hi
    have := wf_u32 hwf
    simp only [h1]
    omega
end Go.Proofs.Ythdmmachaplmjaa

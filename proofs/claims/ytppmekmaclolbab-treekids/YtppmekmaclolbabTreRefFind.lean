/- Layer 7: the reference's Find and isDir. -/
import Derived.Test.YtppmekmaclolbabTreName
import Derived.Test.YtppmekmaclolbabNamCmp
namespace Go.Proofs.Ytppmekmaclolbab
set_option linter.unusedVariables false
open Go.RowKit Go.Maps
open Nam Tre

theorem nm_dec (l k : List ByteArray) : decide (nm l = nm k) = decide (l = k) := by
  rw [Bool.eq_iff_iff, decide_eq_true_eq, decide_eq_true_eq]
  exact ⟨nm_inj, fun h => by rw [h]⟩
namespace Tre
/-- The node of some names. -/
def nmd (m : List ByteArray) (n : Nod) : Bool := decide (n.names = m)
theorem fi_spec (p : Nod → Bool) : ∀ (l : List Nod) (i : Nat), (fi p i l = -1 ∧ l.find? p = none) ∨ ∃ j, fi p i l = ((i + j : Nat) : Int) ∧ ∃ (h : j < l.length), l.find? p = some l[j]
  | [], i => .inl ⟨rfl, rfl⟩
  | n :: r, i => by
    unfold fi
    rw [List.find?_cons]
    cases hp : p n with
    | true => exact .inr ⟨0, by simp, by simp, rfl⟩
    | false =>
      simp only [Bool.false_eq_true, if_false]
      rcases fi_spec p r (i + 1) with h | ⟨j, h1, h2, h3⟩
      · exact .inl h
      · exact .inr ⟨j + 1, by rw [h1]; congr 1; omega, by simp; omega, by simpa using h3⟩
end Tre
end Go.Proofs.Ytppmekmaclolbab

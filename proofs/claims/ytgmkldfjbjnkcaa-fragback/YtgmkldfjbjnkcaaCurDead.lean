/- Readers behind an error: nothing turns any more; numbers that fit; what is left of a reader. -/
import Derived.Test.YtgmkldfjbjnkcaaCurRead
namespace Go.Proofs.Ytgmkldfjbjnkcaa
set_option linter.unusedVariables false
open Go.RowKit Go.Maps
open Lz (g)
open Cur

theorem rLeft_any (p L : Nat) (s : St) (w : World) (h : RdP w p L s) : Calls Try.prog 45 #[.pointer (some ⟨p, 0, none⟩)] w fun e w' => e = .returned (.int .i64 s.1.length) ∧ w' = w := by
  obtain ⟨ao, n, c, h1, h2, _⟩ := h
  rw [h2.1]
  exact Left_any _ p n c ao s.2 w h1
/-- Behind an error nothing turns any more. -/
theorem dead_fl (k e : Int) (he : e ≠ 0) : fl k ([], e) = ([], e) := by unfold fl; rw [if_neg he]
theorem dead_ps (k : Nat) (e : Int) (he : e ≠ 0) : ps k ([], e) = ([], e) := by unfold ps; split; exact dead_fl _ _ he; simp
theorem dead_pa (k : Nat) (e : Int) : pa k ([], e) = [] := by unfold pa; split <;> simp
theorem dead_numS (n e : Int) (he : e ≠ 0) : numS n ([], e) = ([], e) := by unfold numS; split; exact dead_ps _ _ he; exact dead_fl _ _ he
theorem dead_numA (n e : Int) : numA n ([], e) = 0 := by unfold numA; split; rw [dead_pa]; rfl; rfl
theorem dead_bytS (n e : Int) (he : e ≠ 0) : bytS n ([], e) = ([], e) := by unfold bytS; split; exact dead_fl _ _ he; exact dead_ps _ _ he
theorem dead_bytA (n e : Int) : bytA n ([], e) = [] := by unfold bytA; split; rfl; exact dead_pa _ _
theorem dead_txtS (e : Int) (he : e ≠ 0) : txtS ([], e) = ([], e) := by unfold txtS; rw [dead_numS _ _ he]; exact dead_ps _ _ he
theorem dead_txtA (e : Int) (he : e ≠ 0) : txtA ([], e) = [] := by unfold txtA; rw [dead_numS _ _ he]; exact dead_pa _ _
theorem dead_endS (e : Int) : endS ([], e) = ([], e) := by unfold endS; rw [if_neg (by simp)]
end Go.Proofs.Ytgmkldfjbjnkcaa

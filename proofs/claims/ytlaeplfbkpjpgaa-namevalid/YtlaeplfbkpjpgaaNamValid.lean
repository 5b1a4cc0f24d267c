/- Layer 6: the walk of NameValid. -/
import Derived.Test.YtlaeplfbkpjpgaaNamShown
namespace Go.Proofs.Ytlaeplfbkpjpgaa
set_option linter.unusedVariables false
open Go.RowKit Go.Maps
open Nam

set_option maxRecDepth 100000 in
theorem valid_walk (s : ByteArray) (w : World) (hs : s.size ≤ maxLen) : Calls Try.prog 3 #[.string s] w fun e w' => e = .returned (.bool true) ∧ Below w.heap.size w w' := by
  clear hs
  go_enter Try.func3, Try.ntmps3
  go_wp2_with (go_at_call 9; refine (shown_any w).mono ?_)
  rintro e w1 ⟨rfl, hb1⟩
  go_wp2_with (go_at_call 10; refine (Valid_any s _).mono ?_)
  rintro e w2 ⟨rfl, hb2⟩
  go_wp2_with (go_at_call 11; refine (refValid_any s _).mono ?_)
  rintro e w3 ⟨rfl, rfl⟩
  go_wp2
  go_ret
  exact ⟨rfl, hb1.trans (hb2.mono hb1.size)⟩
end Go.Proofs.Ytlaeplfbkpjpgaa

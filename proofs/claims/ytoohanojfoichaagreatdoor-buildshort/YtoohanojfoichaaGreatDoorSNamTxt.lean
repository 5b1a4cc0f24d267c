/- What the proof stands on: NamTxt, with what the proof reaches of it. -/
import Derived.Test.YtoohanojfoichaaGreatDoorSJBase
import Derived.Test.YtoohanojfoichaaGreatDoorSNamPure

/- Layer 6: texts as lists of bytes. Nothing here speaks of one function of the program. -/
namespace Go.Proofs.YtoohanojfoichaaGreatDoor
set_option linter.unusedVariables false

theorem toList_inj {a b : ByteArray} (h : a.toList = b.toList) : a = b := by
  rw [ByteArray.toList_eq, ByteArray.toList_eq] at h
  cases a; cases b
  simp only [ByteArray.mk.injEq]
  exact Array.toList_inj.1 h
theorem toList_mk (l : List UInt8) : (⟨l.toArray⟩ : ByteArray).toList = l := by rw [ByteArray.toList_eq]
theorem toList_length (s : ByteArray) : s.toList.length = s.size := by rw [ByteArray.toList_eq]; rfl
end Go.Proofs.YtoohanojfoichaaGreatDoor

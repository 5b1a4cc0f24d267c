import Derived.Test.YtbmeapehgajbkaaGreatGJBase
import Derived.Test.YtbmeapehgajbkaaGreatGNamPure
set_option linter.unusedVariables false
namespace Go.Proofs.YtbmeapehgajbkaaGreat
theorem toList_inj {a b : ByteArray} (h : a.toList = b.toList) : a = b := by
 rw [ByteArray.toList_eq, ByteArray.toList_eq] at h
 cases a; cases b
 simp only [ByteArray.mk.injEq]
 exact Array.toList_inj.1 h
theorem toList_mk (l : List UInt8) : (⟨l.toArray⟩ : ByteArray).toList = l := by rw [ByteArray.toList_eq]
theorem toList_length (s : ByteArray) : s.toList.length = s.size := by rw [ByteArray.toList_eq]; rfl
end Go.Proofs.YtbmeapehgajbkaaGreat

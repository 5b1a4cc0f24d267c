import Derived.Test.YtcbcmeehnlojjaaFJTabXat
import Derived.Deep.CutBlock
set_option linter.unusedVariables false
namespace Go.Proofs.Ytcbcmeehnlojjaa
open Go.RowKit Go.Maps
open Nam Tre Tab
open Lz (g)
namespace Upr
theorem rd_s1 {N : Nod} (hN : N.ino = 2) (hk : N.kind = 2) (A : List ByteArray) (h : N.data.length ≤ 4096) : rdB (s1 N A) 2 0 4096 = N.data ∧ rdE (s1 N A) 2 0 4096 = 0 := by
 have hf : filE (s1 N A) 2 = 0 := filE_zero.2 ⟨N, s1_nd2 hN A, hk⟩
 have he : rdE (s1 N A) 2 0 4096 = 0 := by unfold rdE; rw [if_neg (by rw [hf]; simp), if_neg (by decide)]
 refine ⟨?_, he⟩
 unfold rdB
 rw [if_neg (by rw [he]; simp), s1_nd2 hN]
 show rd N.data 0 4096 = N.data
 unfold rd
 split
 ·have : N.data.length = 0 := by omega
  rw [List.eq_nil_of_length_eq_zero this]
 ·show (N.data.drop 0).take 4096 = N.data
  rw [List.drop_zero, List.take_of_length_le h]
end Upr
end Go.Proofs.Ytcbcmeehnlojjaa

import Derived.Test.YtcbcmeehnlojjaaFJNamRow
import Derived.Laws.CopyOwn
set_option linter.unusedVariables false
namespace Go.Proofs.Ytcbcmeehnlojjaa
open Go.RowKit Go.Maps
open Nam Tre
open Lz (g)
namespace Upr
theorem make_noughts (S : Nat) (hS : S ≤ 1048576) : ∀ W : World, (Instr.makeSlice 25 (.int .i64 (S : Int)) (.int .i64 (S : Int))).run Try.prog W = .ok (.slice (some ⟨W.heap.size, 0, none⟩) S S) (W.alloc (.cells (bv (List.replicate S 0)).toArray 5)) := by
 obtain ⟨i0, hi, hz0, hz1, hz2⟩ := info_parts infoByte
 intro W
 have h := run_makeSlice (P := Try.prog) (w := W) 25 5 i0 (.int .u8 0) Try.underlying25 hi hz0 .i64 .i64 (S : Int) (S : Int) (by omega) (by omega) (by rw [hz1]; omega) (by rw [hz2]; omega) (by omega)
 rw [h, hz1]
 have e : madeCells (Value.int .u8 0).cells (((S : Int)).toNat * 1) = (bv (List.replicate S 0)).toArray := by
  apply Array.toList_inj.1
  rw [show ((S : Int)).toNat = S by omega, half_zero S 0]
  simp [half]
 rw [e]
 simp
def ovr (X : List Int) (o : Nat) (b : List Int) : List Int := X.take o ++ b ++ X.drop (o + b.length)
theorem copy_over (w : World) (dp : Option Addr) (k off dl dc : Nat) (ao : Option Addr) (n cc : Nat) (X zs : List Int) (t : TypeId) (hX : w.heap[k]? = some (.cells (bv X).toArray t (0, 0))) (hs : Bs w ao n zs) (hnil : ao = none → cc = 0) (hfit : off + min n dl ≤ X.length)
  (hdp : 0 < min n dl → dp = some ⟨k, off, none⟩) (ty : TypeId) :
  ∃ w', (Builtin.copy_ #[25, 25] ty #[.slice dp dl dc, .slice ao n cc]).run Try.prog w = .ok (.int .i64 ((min n dl : Nat) : Int)) w' ∧ w'.heap[k]? = some (.cells (bv (ovr X off (zs.take (min n dl)))).toArray t (0, 0)) ∧ Fr (fun i => i = k) w w' ∧ w'.heap.size = w.heap.size := by
 have hinfo : (Try.prog.info? 5).map (·.size) = some 1 := by kernel_rfl
 by_cases h0 : min n dl = 0
 ·refine ⟨w, ?_, ?_, Fr.refl _ _, rfl⟩
  ·have := run_copy_none (P := Try.prog) w 25 25 ty 5 dp ao dl dc n cc Try.underlying25 hinfo h0
   rw [h0]; exact this
  ·rw [h0]
   have : ovr X off (zs.take 0) = X := by unfold ovr; simp
   rw [this]; exact hX
 ·have hdp' := hdp (by omega)
  subst hdp'
  rcases hs.2.2 with h1 | ⟨b, o2, rfl, hb, hseg⟩
  ·omega
  ·have hl : (zs.take (min n dl)).length = min n dl := by rw [List.length_take, hs.1]; omega
   have h := run_copy_row (P := Try.prog) w 25 25 ty 5 k off dl dc ⟨b, o2, none⟩ n cc (bv X).toArray t (bv (zs.take (min n dl))) Try.underlying25 hinfo hX (by rw [bv_length, hl]) (news_seg hseg _) (by rw [bv_length, hl]; simp [bv_length]; exact hfit) (bv_one _)
   rw [bv_length, hl] at h
   refine ⟨_, h, ?_, ⟨rfl, rfl, rfl, by simp [World.setRow], fun i hi hn => by simp [World.setRow, Array.getElem?_modify, Ne.symm hn]⟩, by simp [World.setRow]⟩
   have : (w.setRow k ((bv X).toArray.toList.take off ++ bv (zs.take (min n dl)) ++ (bv X).toArray.toList.drop (off + min n dl)).toArray).heap[k]? = some (.cells ((bv X).toArray.toList.take off ++ bv (zs.take (min n dl)) ++ (bv X).toArray.toList.drop (off + min n dl)).toArray t (0, 0)) := by
    simp only [World.setRow, Array.getElem?_modify, hX]; simp
   have e : (bv X).toArray.toList.take off ++ bv (zs.take (min n dl)) ++ (bv X).toArray.toList.drop (off + min n dl) = bv (ovr X off (zs.take (min n dl))) := by
    unfold ovr
    rw [hl]
    unfold bv
    simp [List.map_take, List.map_drop]
   rw [this, e]
theorem sz_ovr (l : List Int) (k : Nat) : ovr (List.replicate k 0) 0 (l.take (min l.length k)) = sz l k := by
 unfold ovr sz
 rw [List.take_zero, List.nil_append, List.drop_replicate, Nat.zero_add]
 have e1 : l.take (min l.length k) = l.take k := by
  by_cases h : l.length ≤ k
  ·rw [show min l.length k = l.length by omega, List.take_of_length_le (Nat.le_refl _), List.take_of_length_le h]
  ·rw [show min l.length k = k by omega]
 rw [e1, List.length_take]
 congr 2
 omega
theorem sz_ov (l : List Int) (o : Nat) (b : List Int) : ovr (sz l (max l.length (o + b.length))) o b = ov l o b := by
 have e : sz l (max l.length (o + b.length)) = l ++ List.replicate (max l.length (o + b.length) - l.length) 0 := by
  unfold sz
  rw [List.take_of_length_le (by omega)]
 rw [e]
 unfold ovr ov
 congr 1
 ·congr 1
  rw [List.take_append, List.take_append, List.take_replicate, List.take_replicate]
  congr 2
  omega
 ·rw [List.drop_append, List.drop_replicate]
  have : max l.length (o + b.length) - l.length - (o + b.length - l.length) = 0 := by omega
  rw [this]; simp
end Upr
end Go.Proofs.Ytcbcmeehnlojjaa

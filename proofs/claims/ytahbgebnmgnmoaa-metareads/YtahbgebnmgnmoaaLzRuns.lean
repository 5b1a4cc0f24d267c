/- The walks of appendRuns, appendCopy and of the reference's runs: bytes are laid down as tokens behind what is there. -/
import Derived.Test.YtahbgebnmgnmoaaLzMatch
import Derived.Deep.RegionHeld3
import Derived.Deep.RegionLaw
namespace Go.Proofs.Ytahbgebnmgnmoaa
set_option linter.unusedVariables false
open Go.RowKit Go.Maps
open Lz (g runs)


def lenOf : Value → Nat
  | .slice _ n _ => n
  | _ => 0





set_option maxHeartbeats 800000 in
theorem appendRuns_any (B n c len cap : Nat) (ao bo : Option Addr) (xs l : List Int) (w : World) (ho : w.ownsRow B 5 1 (.slice ao n c) n (bv xs)) (hB : B ≤ w.heap.size) (hl : BsB w B bo len l) (hlc : len ≤ cap) (hbd : n + 2 * len ≤ 1000000) :
    Calls Try.prog 58 #[.slice ao n c, .slice bo len cap] w fun r w' =>
      ∃ ao' n' c', r = .returned (.slice ao' n' c') ∧ w'.ownsRow B 5 1 (.slice ao' n' c') n' (bv (xs ++ runs l)) ∧ Below B w w' ∧ KeepN 5 w w' := by
  obtain ⟨i0, hi, hz0, hz1, hz2⟩ := info_parts infoByte
  go_enter Try.func58, Try.ntmps58
  go_wp2_with fail
  go_loopw [0, 1] (fun s0 s1 wr => ∃ (ao : Option Addr) (n c : Nat) (ys : List Int) (bo : Option Addr) (len cap : Nat) (rest : List Int), s0 = .slice ao n c ∧ s1 = .slice bo len cap ∧ wr.ownsRow B 5 1 (.slice ao n c) n (bv ys) ∧
      BsB wr B bo len rest ∧ ys ++ runs rest = xs ++ runs l ∧ len ≤ cap ∧ n + 2 * len ≤ 1000000 ∧ Below B w wr ∧ KeepN 5 w wr) (fun _ s1 _ => lenOf s1)
  case atStart => exact ⟨ao, n, c, xs, bo, len, cap, l, rfl, rfl, ho, hl, rfl, hlc, hbd, Below.refl _ _, KeepN.refl _ _⟩
  case round =>
    clear ho hl hlc hbd
    obtain ⟨ao, n, c, ys, bo, len, cap, rest, rfl, rfl, ho, hl, heq, hlc, hbd, hbel, hkeep⟩ := hrel
    have HQ : Hid (ys ++ runs rest = xs ++ runs l) := heq
    clear heq
    have hsz := hbel.size
    by_cases d1 : 0 < len
    · obtain ⟨hz, hby, h0⟩ := hl
      rcases h0 with h0 | ⟨b, off, rfl, hb, hs⟩
      · omega
      obtain ⟨m, hm⟩ : ∃ m : Nat, m = min len 128 := ⟨_, rfl⟩
      have hmin : (if (128 : Int) < (len : Int) then 128 else (len : Int)) = (m : Int) := by split <;> omega
      have hm1 : 1 ≤ m := by omega
      have hm2 : m ≤ 128 := by omega
      have hm3 : m ≤ len := by omega
      have HM : Hid (m = min len 128) := hm
      clear hm
      have ht : (rest.take m).length = m := by simp [hz]; omega
      have hstep : ys ++ runs rest = (ys ++ [(m : Int) - 1] ++ rest.take m) ++ runs (rest.drop m) := by
        rw [Lz.runs_step rest (by omega), hz, ← HM.out]; simp
      have HS : Hid (ys ++ runs rest = (ys ++ [(m : Int) - 1] ++ rest.take m) ++ runs (rest.drop m)) := hstep
      have HR : Hid (BsB wr B (if cap = m then some ⟨b, off, none⟩ else some ⟨b, off + m, none⟩) (len - m) (rest.drop m)) := by
        refine ⟨by simp [hz], bytes_drop hby m, ?_⟩
        by_cases e : len = m
        · exact .inl (by omega)
        · refine .inr ⟨b, off + m, by rw [if_neg (by omega)], hb, ?_⟩
          have := hs.cut m len
          rw [List.take_of_length_le (by omega)] at this
          exact this
      clear hstep
      go_wp2_with (first
        | (at_builtin; refine wpList_append_lies _ rfl (.tmp 12) (.tmp 16) 33 rfl B 5 i0 (.int .u8 0) 1 1 Try.underlying33 hi hz0 hz1 hz2 rfl (by decide) _ _ _ rfl (ho.alloc _) ⟨wr.heap.size, 0, none⟩ 1 1 (bv [(m : Int) - 1]) rfl rfl (cell_one_new wr _ _) (bv_one _) (by decide) (by unfold maxLen; omega) (by omega) (by simp; omega) (wr.heap.size + 1) (by simp) ?_; intro g1 c1 w1 a1 k1 _ _; obtain ⟨bel1, keep1, bel1'⟩ := grow_step hbel hkeep (by omega) ho k1; have hs1 := hs.below bel1' hb)
        | (at_builtin; refine wpList_append_lies _ rfl (.tmp 18) (.tmp 21) 33 rfl B 5 i0 (.int .u8 0) 1 1 Try.underlying33 hi hz0 hz1 hz2 rfl (by decide) _ _ _ rfl a1 ⟨b, off, none⟩ m _ (bv (rest.take m)) rfl (by rw [bv_length, ht]; omega) (news_seg hs1 m) (bv_one _) (by omega) (by unfold maxLen; omega) (by omega) (by have := bel1.size; omega) w1.heap.size rfl ?_; intro g2 c2 w2 a2 k2 _ _; obtain ⟨bel2, keep2, bel2'⟩ := grow_step0 bel1 keep1 (by have := bel1.size; omega) a1 k2))
      have HF : Hid (BsB w2 B (if cap = m then some ⟨b, off, none⟩ else some ⟨b, off + m, none⟩) (len - m) (rest.drop m)) := (HR.out.below bel1').below bel2'
      have HO : Hid (w2.ownsRow B 5 1 (.slice (some ⟨g2, 0, none⟩) (n + 1 + m) c2) (n + 1 + m) (bv (ys ++ [(m : Int) - 1] ++ rest.take m))) := by rw [bv_append, bv_append]; exact a2
      go_roundw
      case rel => exact ⟨_, _, _, _, _, _, _, _, rfl, rfl, HO.out, HF.out, HS.out.symm.trans HQ.out, by omega, by omega, bel2, keep2⟩
      case measure => simp only [lenOf]; omega
    · go_wp2
      go_ret
      have er : runs rest = [] := Lz.runs_zero rest (by rw [hl.1]; omega)
      have hq := HQ.out
      rw [er, List.append_nil] at hq
      exact ⟨_, _, _, rfl, by rw [← hq]; exact ho, hbel, hkeep⟩

theorem list2 {a b c d : Int} (h1 : a = c) (h2 : b = d) : [a, b] = [c, d] := by rw [h1, h2]

set_option maxHeartbeats 400000 in
theorem appendCopy_any (B n c L K : Nat) (ao : Option Addr) (xs : List Int) (w : World) (ho : w.ownsRow B 5 1 (.slice ao n c) n (bv xs)) (hB : B ≤ w.heap.size) (hbd : n + 2 ≤ 1000000) (hL1 : 3 ≤ L) (hL2 : L ≤ 130) (hK1 : 1 ≤ K) (hK2 : K ≤ 256) :
    Calls Try.prog 59 #[.slice ao n c, .int .i64 L, .int .i64 K] w fun r w' =>
      ∃ ao' c', r = .returned (.slice ao' (n + 2) c') ∧ w'.ownsRow B 5 1 (.slice ao' (n + 2) c') (n + 2) (bv (xs ++ [(L : Int) + 125, (K : Int) - 1])) ∧ Below B w w' ∧ KeepN 5 w w' := by
  obtain ⟨i0, hi, hz0, hz1, hz2⟩ := info_parts infoByte
  go_enter Try.func59, Try.ntmps59
  go_wp2_with (at_builtin; refine wpList_append_lies _ rfl _ _ 33 rfl B 5 i0 (.int .u8 0) 1 1 Try.underlying33 hi hz0 hz1 hz2 rfl (by decide) _ _ _ rfl (ho.alloc _) ⟨w.heap.size, 0, none⟩ 2 2 (bv [(L : Int) - 3 + 128, (K : Int) - 1]) rfl rfl (World.news_of_block (heap_alloc_new w _)) (bv_one _) (by decide) (by unfold maxLen; omega) (by omega) (by simp; omega) (w.heap.size + 1) (by simp) ?_; intro g1 c1 w1 a1 k1 _ _)
  go_ret
  obtain ⟨bel1, keep1, _⟩ := grow_step (Below.refl B w) (KeepN.refl _ w) hB ho k1
  refine ⟨_, _, rfl, ?_, bel1, keep1⟩
  rw [bv_append, list2 (show (L : Int) + 125 = (L : Int) - 3 + 128 by omega) rfl]
  exact a1



set_option maxRecDepth 100000 in
set_option maxHeartbeats 800000 in
theorem refruns_core (V : Value) (B n c len cap : Nat) (ao bo : Option Addr) (xs l : List Int) (w : World) (hV : Lies w V (.slice ao n c)) (ho : w.ownsRow B 5 1 (.slice ao n c) n (bv xs)) (hB : B ≤ w.heap.size) (hl : Src w (.slice ao n c) bo len l) (hlc : len ≤ cap) (hbd : n + 2 * len ≤ 1000000) :
    Calls Try.prog 48 #[.slice ao n c, .slice bo len cap] w fun r w' =>
      ∃ ao' n' c', r = .returned (.slice ao' n' c') ∧ w'.ownsRow B 5 1 (.slice ao' n' c') n' (bv (xs ++ runs l)) ∧ w.grownBy w' V.ownBlock ∧ Lies w V (.slice ao' n' c') := by
  obtain ⟨i0, hi, hz0, hz1, hz2⟩ := info_parts infoByte
  go_enter Try.func48, Try.ntmps48
  go_wp2_with fail
  go_loopw [0, 1] (fun s0 s1 wr => ∃ (ao : Option Addr) (n c : Nat) (ys : List Int) (bo : Option Addr) (len cap : Nat) (rest : List Int), s0 = .slice ao n c ∧ s1 = .slice bo len cap ∧ wr.ownsRow B 5 1 (.slice ao n c) n (bv ys) ∧
      Src wr (.slice ao n c) bo len rest ∧ ys ++ runs rest = xs ++ runs l ∧ len ≤ cap ∧ n + 2 * len ≤ 1000000 ∧ w.grownBy wr V.ownBlock ∧ Lies w V (.slice ao n c)) (fun _ s1 _ => lenOf s1)
  case atStart => exact ⟨ao, n, c, xs, bo, len, cap, l, rfl, rfl, ho, hl, rfl, hlc, hbd, World.grownBy.refl _ _, hV⟩
  case round =>
    clear ho hl hlc hbd hV
    obtain ⟨ao, n, c, ys, bo, len, cap, rest, rfl, rfl, ho, hl, heq, hlc, hbd, hgr, hV⟩ := hrel
    have HQ : Hid (ys ++ runs rest = xs ++ runs l) := heq
    clear heq
    have hsz := hgr.size
    by_cases d1 : 0 < len
    · obtain ⟨hz, hby, h0⟩ := hl
      rcases h0 with h0 | ⟨b, off, rfl, hb, hbne, hs⟩
      · omega
      obtain ⟨m, hm⟩ : ∃ m : Nat, m = min len 128 := ⟨_, rfl⟩
      have hmin : (if (128 : Int) < (len : Int) then 128 else (len : Int)) = (m : Int) := by split <;> omega
      have hm1 : 1 ≤ m := by omega
      have hm2 : m ≤ 128 := by omega
      have hm3 : m ≤ len := by omega
      have HM : Hid (m = min len 128) := hm
      clear hm
      have ht : (rest.take m).length = m := by simp [hz]; omega
      have hstep : ys ++ runs rest = (ys ++ [(m : Int) - 1] ++ rest.take m) ++ runs (rest.drop m) := by
        rw [Lz.runs_step rest (by omega), hz, ← HM.out]; simp
      have HS : Hid (ys ++ runs rest = (ys ++ [(m : Int) - 1] ++ rest.take m) ++ runs (rest.drop m)) := hstep
      clear hstep
      have im : (0 : Int) ≤ (m : Int) := by omega
      have im2 : (m : Int) ≤ (cap : Int) := by omega
      have iw1 : IntKind.i64.wrap ((m : Int) - 1) = (m : Int) - 1 := by rw [IntKind.wrap_i64]; omega
      have iw2 : IntKind.u8.wrap ((m : Int) - 1) = (m : Int) - 1 := by rw [IntKind.wrap_u8']; omega
      go_wp2_with fail
      have hBr : B ≤ wr.heap.size := by omega
      have hmx : n + 1 ≤ maxLen := by unfold maxLen; omega
      have hmx2 : n + 1 + m ≤ maxLen := by unfold maxLen; omega
      have hby1 : (n + 1) * 1 ≤ 140737488355328 := by omega
      have hby2 : (n + 1 + m) * 1 ≤ 140737488355328 := by omega
      have hnl : (bv (rest.take m)).length = m * 1 := by rw [bv_length, ht]; omega
      have hpos : 0 < m := hm1
      go_region_held3 (fun w' => True) (trivial)
        ((first
          | (refine step_append_lies _ (by rfl) (.tmp 12) (.tmp 16) 33 (by rfl) B 5 i0 (.int .u8 0) 1 1 Try.underlying33 hi hz0 hz1 hz2 rfl (by decide) _ _ _ (by rfl) ((ho.alloc _).drew) ⟨wr.heap.size, 0, none⟩ 1 1 (bv [(m : Int) - 1]) (by rfl) (by rfl) (cell_one_new wr _ _) (bv_one _) (by decide) hmx hby1 (Nat.le_trans hBr (by simp)) (wr.heap.size + 1) (by simp) ?_; intro g1 c1 w1 a1 k1 l1 _)
          | (refine step_append_lies _ (by rfl) (.tmp 17) (.tmp 20) 33 (by rfl) B 5 i0 (.int .u8 0) 1 1 Try.underlying33 hi hz0 hz1 hz2 rfl (by decide) _ _ _ (by rfl) a1 ⟨b, off, none⟩ m _ (bv (rest.take m)) (by rfl) hnl (news_seg (hs.grown (grown_allocD k1) hb hbne) m) (bv_one _) hpos hmx2 hby2 (Nat.le_trans hBr (growD hBr ho k1).1.size) w1.heap.size rfl ?_; intro g2 c2 w2 a2 k2 l2 _)))
      have gr1 := grown_allocD k1
      have li1 : Lies wr (.slice ao n c) (.slice (some ⟨g1, 0, none⟩) (n + 1) c1) := lies_of (w1 := w1) l1 (by omega)
      have li2 : Lies w1 (.slice (some ⟨g1, 0, none⟩) (n + 1) c1) (.slice (some ⟨g2, 0, none⟩) (n + 1 + m) c2) := lies_of (w1 := w2) l2 (Nat.le_refl _)
      have hb1 : b < w1.heap.size := Nat.lt_of_lt_of_le hb gr1.size
      have hb2 : b < w2.heap.size := Nat.lt_of_lt_of_le hb1 k2.size
      have ne1 := li1.ne hb hbne
      have ne2 := li2.ne hb1 ne1
      have sg2 : Seg w2 b off rest := (hs.grown gr1 hb hbne).grown k2 hb1 ne1
      have HF : Hid (Src w2 (.slice (some ⟨g2, 0, none⟩) (n + 1 + m) c2) (if cap = m then some ⟨b, off, none⟩ else some ⟨b, off + m, none⟩) (len - m) (rest.drop m)) := by
        refine ⟨by simp [hz], bytes_drop hby m, ?_⟩
        by_cases e : len = m
        · exact .inl (by omega)
        · refine .inr ⟨b, off + m, by rw [if_neg (by omega)], hb2, ne2, ?_⟩
          have := sg2.cut m len
          rw [List.take_of_length_le (by omega)] at this
          exact this
      have HO : Hid (w2.ownsRow B 5 1 (.slice (some ⟨g2, 0, none⟩) (n + 1 + m) c2) (n + 1 + m) (bv (ys ++ [(m : Int) - 1] ++ rest.take m))) := by rw [bv_append, bv_append]; exact a2
      have HG : Hid (w.grownBy w2 V.ownBlock ∧ Lies w V (.slice (some ⟨g2, 0, none⟩) (n + 1 + m) c2)) := by
        have hl1 := hV.trans hsz li1
        have hl2 := hl1.trans (Nat.le_trans hsz gr1.size) li2
        exact ⟨grown_trans (grown_trans hgr hV gr1) hl1 k2, hl2⟩
      clear k1 k2 l1 l2 iw1 iw2 gr1 li1 li2 hb1 hb2 ne1 ne2 sg2 a1 a2
      go_wp2
      go_roundw
      case rel => exact ⟨_, _, _, _, _, _, _, _, rfl, rfl, HO.out, HF.out, HS.out.symm.trans HQ.out, by omega, by omega, HG.out.1, HG.out.2⟩
      case measure => simp only [lenOf]; omega
    · go_wp2
      go_ret
      have er : runs rest = [] := Lz.runs_zero rest (by rw [hl.1]; omega)
      have hq := HQ.out
      rw [er, List.append_nil] at hq
      exact ⟨_, _, _, rfl, by rw [← hq]; exact ho, hgr, hV⟩
theorem refruns_any (B n c len cap : Nat) (ao bo : Option Addr) (xs l : List Int) (w : World) (ho : w.ownsRow B 5 1 (.slice ao n c) n (bv xs)) (hB : B ≤ w.heap.size) (hl : Src w (.slice ao n c) bo len l) (hlc : len ≤ cap) (hbd : n + 2 * len ≤ 1000000) :
    Calls Try.prog 48 #[.slice ao n c, .slice bo len cap] w fun r w' =>
      ∃ ao' n' c', r = .returned (.slice ao' n' c') ∧ w'.ownsRow B 5 1 (.slice ao' n' c') n' (bv (xs ++ runs l)) ∧ w.grownBy w' (Value.slice ao n c).ownBlock ∧ Lies w (.slice ao n c) (.slice ao' n' c') :=
  refruns_core (.slice ao n c) B n c len cap ao bo xs l w (.inl rfl) ho hB hl hlc hbd
end Go.Proofs.Ytahbgebnmgnmoaa

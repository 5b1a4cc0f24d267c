/- The walks of appendRuns, appendCopy and of the reference's runs: bytes are laid down as tokens behind what is there. -/
import Derived.Test.YtaobfoenopccjabMatch
import Derived.Deep.RegionHeld3
import Derived.Deep.RegionLaw
namespace Go.Proofs.Ytaobfoenopccjab
set_option linter.unusedVariables false
open Go.RowKit Go.Maps
open Lz (g runs)

/-- Numbers as bytes' values. -/
def bv (xs : List Int) : List Value := xs.map (Value.int .u8)
theorem bv_append (xs ys : List Int) : bv (xs ++ ys) = bv xs ++ bv ys := by simp [bv]
theorem bv_length (xs : List Int) : (bv xs).length = xs.length := by simp [bv]

def lenOf : Value → Nat
  | .slice _ n _ => n
  | _ => 0

/-- The slice holds the bytes, in a block below B. -/
def BsB (w : World) (B : Nat) (ao : Option Addr) (n : Nat) (zs : List Int) : Prop :=
  zs.length = n ∧ (∀ i, 0 ≤ g zs i ∧ g zs i ≤ 255) ∧ (n = 0 ∨ ∃ b off, ao = some ⟨b, off, none⟩ ∧ b < B ∧ Seg w b off zs)
theorem BsB.below {w w' : World} {B : Nat} {ao : Option Addr} {n : Nat} {zs : List Int} (h : BsB w B ao n zs) (hb : Below B w w') : BsB w' B ao n zs := by
  refine ⟨h.1, h.2.1, ?_⟩
  rcases h.2.2 with h0 | ⟨b, off, h1, h2, h3⟩
  · exact .inl h0
  · exact .inr ⟨b, off, h1, h2, h3.below hb h2⟩

theorem news_seg {w : World} {b off : Nat} {l : List Int} (h : Seg w b off l) (k : Nat) : ∀ j u, (bv (l.take k))[j]? = some u → w.cell? ((⟨b, off, none⟩ : Addr).add j) = some u := by
  intro j u hu
  have hj : j < (l.take k).length := by
    have := (List.getElem?_eq_some_iff.1 hu).1
    simpa [bv] using this
  rw [Addr.add_lit, h j (by simp at hj; omega)]
  have e : (bv (l.take k))[j]? = some (.int .u8 (g (l.take k) j)) := by
    unfold bv
    rw [List.getElem?_map, List.getElem?_eq_getElem hj, Lz.g_lt _ _ hj]; rfl
  rw [e] at hu
  rw [← Lz.g_take l k j (by simp at hj; omega)]
  exact hu
theorem bv_one (xs : List Int) : ∀ u ∈ bv xs, u.oneCell' = true := ints_oneCell .u8 xs

/-- Behind an append to a row of bytes of the call's own. -/
theorem grow_step {a w w1 : World} {B n : Nat} {v : Value} {xs : List Value} {o : Obj} (hbel : Below B a w) (hkeep : KeepN 5 a w) (hB : B ≤ w.heap.size) (ho : w.ownsRow B 5 1 v n xs) (hg : (w.alloc o).grownBy w1 v.ownBlock) :
    Below B a w1 ∧ KeepN 5 a w1 ∧ Below B w w1 := by
  have h1 : Below B w w1 := ((Below.refl B w).alloc hB o).grown hg (by simp; omega) (fun k e => (ho.lt k e).1)
  exact ⟨hbel.trans h1, (hkeep.alloc o).grown (ho.alloc o) hg, h1⟩
theorem grow_step0 {a w w1 : World} {B n : Nat} {v : Value} {xs : List Value} (hbel : Below B a w) (hkeep : KeepN 5 a w) (hB : B ≤ w.heap.size) (ho : w.ownsRow B 5 1 v n xs) (hg : w.grownBy w1 v.ownBlock) :
    Below B a w1 ∧ KeepN 5 a w1 ∧ Below B w w1 := by
  have h1 : Below B w w1 := (Below.refl B w).grown hg hB (fun k e => (ho.lt k e).1)
  exact ⟨hbel.trans h1, hkeep.grown ho hg, h1⟩

theorem growD {w w1 : World} {B n : Nat} {v : Value} {xs : List Value} {o : Obj} (hB : B ≤ w.heap.size) (ho : w.ownsRow B 5 1 v n xs) (hg : (w.alloc o).drew.grownBy w1 v.ownBlock) : Below B w w1 ∧ KeepN 5 w w1 := by
  have h1 : Below B w w1 := ((Below.refl B w).alloc hB o).drew.grown hg (by simp; omega) (fun k e => (ho.lt k e).1)
  have h2 : KeepN 5 w (w.alloc o).drew := (KeepN.refl _ w).alloc o
  exact ⟨h1, h2.grown (ho.alloc o).drew hg⟩

set_option maxHeartbeats 800000 in
theorem appendRuns_any (B n c len cap : Nat) (ao bo : Option Addr) (xs l : List Int) (w : World) (ho : w.ownsRow B 5 1 (.slice ao n c) n (bv xs)) (hB : B ≤ w.heap.size) (hl : BsB w B bo len l) (hlc : len ≤ cap) (hbd : n + 2 * len ≤ 1000000) :
    Calls Try.prog 10 #[.slice ao n c, .slice bo len cap] w fun r w' =>
      ∃ ao' n' c', r = .returned (.slice ao' n' c') ∧ w'.ownsRow B 5 1 (.slice ao' n' c') n' (bv (xs ++ runs l)) ∧ Below B w w' ∧ KeepN 5 w w' := by
  obtain ⟨i0, hi, hz0, hz1, hz2⟩ := info_parts infoByte
  go_enter Try.func10, Try.ntmps10
  go_wp2_with fail
  go_loopw [0, 1] (fun s0 s1 wr => ∃ (ao : Option Addr) (n c : Nat) (ys : List Int) (bo : Option Addr) (len cap : Nat) (rest : List Int), s0 = .slice ao n c ∧ s1 = .slice bo len cap ∧ wr.ownsRow B 5 1 (.slice ao n c) n (bv ys) ∧
      BsB wr B bo len rest ∧ ys ++ runs rest = xs ++ runs l ∧ len ≤ cap ∧ n + 2 * len ≤ 1000000 ∧ Below B w wr ∧ KeepN 5 w wr) (fun _ s1 _ => lenOf s1)
  case atStart => exact ⟨ao, n, c, xs, bo, len, cap, l, rfl, rfl, ho, hl, rfl, hlc, hbd, Below.refl _ _, KeepN.refl _ _⟩
  case round =>
    clear ho hl hlc hbd
    obtain ⟨ao, n, c, ys, bo, len, cap, rest, rfl, rfl, ho, hl, heq, hlc, hbd, hbel, hkeep⟩ := hrel
    have HQ : Hid (ys ++ runs rest = xs ++ runs l) := heq
    clear heq
    have hsz := hbel.size
    by_cases d1 : 0 < len
    · obtain ⟨hz, hby, h0⟩ := hl
      rcases h0 with h0 | ⟨b, off, rfl, hb, hs⟩
      · omega
      obtain ⟨m, hm⟩ : ∃ m : Nat, m = min len 128 := ⟨_, rfl⟩
      have hmin : (if (128 : Int) < (len : Int) then 128 else (len : Int)) = (m : Int) := by split <;> omega
      have hm1 : 1 ≤ m := by omega
      have hm2 : m ≤ 128 := by omega
      have hm3 : m ≤ len := by omega
      have HM : Hid (m = min len 128) := hm
      clear hm
      have ht : (rest.take m).length = m := by simp [hz]; omega
      have hstep : ys ++ runs rest = (ys ++ [(m : Int) - 1] ++ rest.take m) ++ runs (rest.drop m) := by
        rw [Lz.runs_step rest (by omega), hz, ← HM.out]; simp
      have HS : Hid (ys ++ runs rest = (ys ++ [(m : Int) - 1] ++ rest.take m) ++ runs (rest.drop m)) := hstep
      have HR : Hid (BsB wr B (if cap = m then some ⟨b, off, none⟩ else some ⟨b, off + m, none⟩) (len - m) (rest.drop m)) := by
        refine ⟨by simp [hz], bytes_drop hby m, ?_⟩
        by_cases e : len = m
        · exact .inl (by omega)
        · refine .inr ⟨b, off + m, by rw [if_neg (by omega)], hb, ?_⟩
          have := hs.cut m len
          rw [List.take_of_length_le (by omega)] at this
          exact this
      clear hstep
      go_wp2_with (first
        | (at_builtin; refine wpList_append_lies _ rfl (.tmp 12) (.tmp 16) 22 rfl B 5 i0 (.int .u8 0) 1 1 Try.underlying22 hi hz0 hz1 hz2 rfl (by decide) _ _ _ rfl (ho.alloc _) ⟨wr.heap.size, 0, none⟩ 1 1 (bv [(m : Int) - 1]) rfl rfl (cell_one_new wr _ _) (bv_one _) (by decide) (by unfold maxLen; omega) (by omega) (by simp; omega) (wr.heap.size + 1) (by simp) ?_; intro g1 c1 w1 a1 k1 _ _; obtain ⟨bel1, keep1, bel1'⟩ := grow_step hbel hkeep (by omega) ho k1; have hs1 := hs.below bel1' hb)
        | (at_builtin; refine wpList_append_lies _ rfl (.tmp 18) (.tmp 21) 22 rfl B 5 i0 (.int .u8 0) 1 1 Try.underlying22 hi hz0 hz1 hz2 rfl (by decide) _ _ _ rfl a1 ⟨b, off, none⟩ m _ (bv (rest.take m)) rfl (by rw [bv_length, ht]; omega) (news_seg hs1 m) (bv_one _) (by omega) (by unfold maxLen; omega) (by omega) (by have := bel1.size; omega) w1.heap.size rfl ?_; intro g2 c2 w2 a2 k2 _ _; obtain ⟨bel2, keep2, bel2'⟩ := grow_step0 bel1 keep1 (by have := bel1.size; omega) a1 k2))
      have HF : Hid (BsB w2 B (if cap = m then some ⟨b, off, none⟩ else some ⟨b, off + m, none⟩) (len - m) (rest.drop m)) := (HR.out.below bel1').below bel2'
      have HO : Hid (w2.ownsRow B 5 1 (.slice (some ⟨g2, 0, none⟩) (n + 1 + m) c2) (n + 1 + m) (bv (ys ++ [(m : Int) - 1] ++ rest.take m))) := by rw [bv_append, bv_append]; exact a2
      go_roundw
      case rel => exact ⟨_, _, _, _, _, _, _, _, rfl, rfl, HO.out, HF.out, HS.out.symm.trans HQ.out, by omega, by omega, bel2, keep2⟩
      case measure => simp only [lenOf]; omega
    · go_wp2
      go_ret
      have er : runs rest = [] := Lz.runs_zero rest (by rw [hl.1]; omega)
      have hq := HQ.out
      rw [er, List.append_nil] at hq
      exact ⟨_, _, _, rfl, by rw [← hq]; exact ho, hbel, hkeep⟩

theorem list2 {a b c d : Int} (h1 : a = c) (h2 : b = d) : [a, b] = [c, d] := by rw [h1, h2]

set_option maxHeartbeats 400000 in
theorem appendCopy_any (B n c L K : Nat) (ao : Option Addr) (xs : List Int) (w : World) (ho : w.ownsRow B 5 1 (.slice ao n c) n (bv xs)) (hB : B ≤ w.heap.size) (hbd : n + 2 ≤ 1000000) (hL1 : 3 ≤ L) (hL2 : L ≤ 130) (hK1 : 1 ≤ K) (hK2 : K ≤ 256) :
    Calls Try.prog 11 #[.slice ao n c, .int .i64 L, .int .i64 K] w fun r w' =>
      ∃ ao' c', r = .returned (.slice ao' (n + 2) c') ∧ w'.ownsRow B 5 1 (.slice ao' (n + 2) c') (n + 2) (bv (xs ++ [(L : Int) + 125, (K : Int) - 1])) ∧ Below B w w' ∧ KeepN 5 w w' := by
  obtain ⟨i0, hi, hz0, hz1, hz2⟩ := info_parts infoByte
  go_enter Try.func11, Try.ntmps11
  go_wp2_with (at_builtin; refine wpList_append_lies _ rfl _ _ 22 rfl B 5 i0 (.int .u8 0) 1 1 Try.underlying22 hi hz0 hz1 hz2 rfl (by decide) _ _ _ rfl (ho.alloc _) ⟨w.heap.size, 0, none⟩ 2 2 (bv [(L : Int) - 3 + 128, (K : Int) - 1]) rfl rfl (World.news_of_block (heap_alloc_new w _)) (bv_one _) (by decide) (by unfold maxLen; omega) (by omega) (by simp; omega) (w.heap.size + 1) (by simp) ?_; intro g1 c1 w1 a1 k1 _ _)
  go_ret
  obtain ⟨bel1, keep1, _⟩ := grow_step (Below.refl B w) (KeepN.refl _ w) hB ho k1
  refine ⟨_, _, rfl, ?_, bel1, keep1⟩
  rw [bv_append, list2 (show (L : Int) + 125 = (L : Int) - 3 + 128 by omega) rfl]
  exact a1

/-- What is appended to v: bytes in a block that is not v's own. -/
def Src (w : World) (v : Value) (bo : Option Addr) (len : Nat) (l : List Int) : Prop :=
  l.length = len ∧ (∀ i, 0 ≤ g l i ∧ g l i ≤ 255) ∧ (len = 0 ∨ ∃ b off, bo = some ⟨b, off, none⟩ ∧ b < w.heap.size ∧ some b ≠ v.ownBlock ∧ Seg w b off l)
/-- Where the grown slice lies: where it lay, or in a block that is new since w. -/
def Lies (w : World) (v v' : Value) : Prop := v'.ownBlock = v.ownBlock ∨ ∃ k, v'.ownBlock = some k ∧ w.heap.size ≤ k

theorem Lies.ne {w : World} {v v' : Value} (h : Lies w v v') {b : Nat} (hb : b < w.heap.size) (hne : some b ≠ v.ownBlock) : some b ≠ v'.ownBlock := by
  rcases h with h | ⟨k, h, hk⟩
  · rw [h]; exact hne
  · rw [h]; intro e; cases e; omega
theorem Seg.grown {w w' : World} {row : Option Nat} {b off : Nat} {l : List Int} (h : Seg w b off l) (hg : w.grownBy w' row) (hb : b < w.heap.size) (hne : some b ≠ row) : Seg w' b off l := fun i hi =>
  (World.cell?_of_block (hg.block b hb hne)).trans (h i hi)
theorem grown_trans {w w1 w2 : World} {v v1 : Value} (h : w.grownBy w1 v.ownBlock) (hl : Lies w v v1) (h2 : w1.grownBy w2 v1.ownBlock) : w.grownBy w2 v.ownBlock :=
  ⟨h2.os.trans h.os, h2.tape.trans h.tape, h2.output.trans h.output, Nat.le_trans h.size h2.size, fun k hk hne => (h2.block k (Nat.lt_of_lt_of_le hk h.size) (hl.ne hk hne)).trans (h.block k hk hne)⟩
theorem Lies.trans {w w1 : World} {v v1 v2 : Value} (h : Lies w v v1) (hs : w.heap.size ≤ w1.heap.size) (h2 : Lies w1 v1 v2) : Lies w v v2 := by
  rcases h2 with h2 | ⟨k, h2, hk⟩
  · rcases h with h | ⟨k, h, hk⟩
    · exact .inl (h2.trans h)
    · exact .inr ⟨k, h2.trans h, hk⟩
  · exact .inr ⟨k, h2, Nat.le_trans hs hk⟩
theorem grown_allocD {w w1 : World} {row : Option Nat} {o : Obj} (h : (w.alloc o).drew.grownBy w1 row) : w.grownBy w1 row :=
  ⟨h.os, h.tape, h.output, Nat.le_trans (by simp) h.size, fun k hk hne => (h.block k (by simp; omega) hne).trans (Below.heap_alloc w o k hk)⟩
theorem grown_alloc {w w1 : World} {row : Option Nat} {o : Obj} (h : (w.alloc o).grownBy w1 row) : w.grownBy w1 row :=
  ⟨h.os, h.tape, h.output, Nat.le_trans (by simp) h.size, fun k hk hne => (h.block k (by simp; omega) hne).trans (Below.heap_alloc w o k hk)⟩
theorem grown_below {w w1 : World} {B n : Nat} {v : Value} {xs : List Value} {e size : Nat} (hB : B ≤ w.heap.size) (ho : w.ownsRow B e size v n xs) (h : w.grownBy w1 v.ownBlock) : Below B w w1 :=
  (Below.refl B w).grown h hB (fun k e => (ho.lt k e).1)
theorem lies_of {w w1 : World} {v : Value} {gg H n c : Nat} (h : v.ownBlock = some gg ∨ gg = H) (hH : w.heap.size ≤ H) : Lies w v (.slice (some ⟨gg, 0, none⟩) n c) := by
  rcases h with h | h
  · exact .inl h.symm
  · exact .inr ⟨gg, rfl, by omega⟩

end Go.Proofs.Ytaobfoenopccjab

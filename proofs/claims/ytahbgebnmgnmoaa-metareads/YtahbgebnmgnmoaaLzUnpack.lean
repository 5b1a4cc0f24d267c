/- The walks of firstToken, appendTo and lz.Unpack: packed bytes are unpacked, or refused, as the document says. -/
import Derived.Test.YtahbgebnmgnmoaaLzRefPack
namespace Go.Proofs.Ytahbgebnmgnmoaa
set_option linter.unusedVariables false
open Go.RowKit Go.Maps
open Lz (g cp up)

/-- The token's value. -/
def tok (rs : Value) (L K S : Int) : Value := .agg #[rs, .int .i64 L, .int .i64 K, .int .i64 S]
def ft (zs : List Int) (len cap b off : Nat) : Value × Bool :=
  if g zs 0 < 128 then
    if (len : Int) < g zs 0 + 2 then (tok (.slice none 0 0) 0 0 0, false) else (tok (.slice (some ⟨b, off + 1, none⟩) ((g zs 0).toNat + 1) (cap - 1)) (g zs 0 + 1) 0 (g zs 0 + 2), true)
  else if len < 2 then (tok (.slice none 0 0) 0 0 0, false) else (tok (.slice none 0 0) (g zs 0 - 125) (g zs 1 + 1) 2, true)

set_option maxHeartbeats 800000 in
theorem firstToken_any (b off len cap : Nat) (zs : List Int) (w : World) (hz : zs.length = len) (hs : Seg w b off zs) (hby : ∀ i, 0 ≤ g zs i ∧ g zs i ≤ 255) (h1 : 1 ≤ len) (hc : len ≤ cap) (hl : len ≤ 1000000) :
    Calls Try.prog 80 #[.slice (some ⟨b, off, none⟩) len cap] w fun r w' => r = .returned (.tuple #[(ft zs len cap b off).1, .bool (ft zs len cap b off).2]) ∧ Below w.heap.size w w' := by
  obtain ⟨b1, b2⟩ := hby 0
  obtain ⟨b3, b4⟩ := hby 1
  have c0 := hs 0 (by omega)
  simp only [Nat.add_zero] at c0
  have hb : b < w.heap.size := World.block_lt_of_cell? w _ c0
  by_cases d1 : g zs 0 < 128
  · by_cases d2 : (len : Int) < g zs 0 + 2
    · have e : ft zs len cap b off = (tok (.slice none 0 0) 0 0 0, false) := by unfold ft; rw [if_pos d1, if_pos d2]
      rw [e]
      clear e hs
      unfold tok
      go_enter Try.func80, Try.ntmps80
      go_wp2
      exact bodyPost_ret (v := .tuple #[.agg #[.slice none 0 0, .int .i64 0, .int .i64 0, .int .i64 0], .bool false]) (by simp [results, Try.results80, go_sem]) rfl ⟨rfl, (Below.refl _ _).alloc (Nat.le_refl _) _⟩
    · have e : ft zs len cap b off = (tok (.slice (some ⟨b, off + 1, none⟩) ((g zs 0).toNat + 1) (cap - 1)) (g zs 0 + 1) 0 (g zs 0 + 2), true) := by unfold ft; rw [if_pos d1, if_neg d2]
      rw [e]
      clear e hs
      unfold tok
      have hcc : ¬ cap = 1 := by omega
      go_enter Try.func80, Try.ntmps80
      have hl1 : (g zs 0 + 2).toNat - 1 = (g zs 0).toNat + 1 := by omega
      go_wp2
      exact bodyPost_ret (v := .tuple #[.agg #[.slice (some ⟨b, off + 1, none⟩) ((g zs 0).toNat + 1) (cap - 1), .int .i64 (g zs 0 + 1), .int .i64 0, .int .i64 (g zs 0 + 2)], .bool true]) (by simp [results, Try.results80, go_sem]) rfl ⟨rfl, (Below.refl _ _).alloc (Nat.le_refl _) _⟩
  · by_cases d2 : len < 2
    · have e : ft zs len cap b off = (tok (.slice none 0 0) 0 0 0, false) := by unfold ft; rw [if_neg d1, if_pos d2]
      rw [e]
      clear e hs
      unfold tok
      go_enter Try.func80, Try.ntmps80
      go_wp2
      exact bodyPost_ret (v := .tuple #[.agg #[.slice none 0 0, .int .i64 0, .int .i64 0, .int .i64 0], .bool false]) (by simp [results, Try.results80, go_sem]) rfl ⟨rfl, (Below.refl _ _).alloc (Nat.le_refl _) _⟩
    · have e : ft zs len cap b off = (tok (.slice none 0 0) (g zs 0 - 128 + 3) (g zs 1 + 1) 2, true) := by unfold ft; rw [if_neg d1, if_neg d2, show g zs 0 - 128 + 3 = g zs 0 - 125 by omega]
      rw [e]
      have c1 := hs 1 (by omega)
      clear e hs
      unfold tok
      go_enter Try.func80, Try.ntmps80
      go_wp2
      exact bodyPost_ret (v := .tuple #[.agg #[.slice none 0 0, .int .i64 (g zs 0 - 128 + 3), .int .i64 (g zs 1 + 1), .int .i64 2], .bool true]) (by simp [results, Try.results80, go_sem]) rfl ⟨rfl, (Below.refl _ _).alloc (Nat.le_refl _) _⟩


set_option maxHeartbeats 800000 in
theorem appendTo_run (B n c m cr : Nat) (b off : Nat) (L S : Int) (ao : Option Addr) (xs l : List Int) (w : World) (ho : w.ownsRow B 5 1 (.slice ao n c) n (bv xs)) (hB : B ≤ w.heap.size) (hs : Seg w b off l) (hb : b < B) (hm : l.length = m) (hm1 : 1 ≤ m) (hbd : n + m ≤ 100000000) :
    Calls Try.prog 81 #[.agg #[.slice (some ⟨b, off, none⟩) m cr, .int .i64 L, .int .i64 0, .int .i64 S], .slice ao n c] w fun r w' =>
      ∃ ao' c', r = .returned (.slice ao' (n + m) c') ∧ w'.ownsRow B 5 1 (.slice ao' (n + m) c') (n + m) (bv (xs ++ l)) ∧ Below B w w' ∧ KeepN 5 w w' := by
  obtain ⟨i0, hi, hz0, hz1, hz2⟩ := info_parts infoByte
  have hs' : ∀ o, Seg (w.alloc o) b off l := fun o => hs.below ((Below.refl B w).alloc hB o) hb
  have HS : Hid (∀ o, Seg (w.alloc o) b off l) := hs'
  clear hs'
  go_enter Try.func81, Try.ntmps81
  go_wp2_with (at_builtin; refine wpList_append_lies _ rfl _ _ 33 rfl B 5 i0 (.int .u8 0) 1 1 Try.underlying33 hi hz0 hz1 hz2 rfl (by decide) _ _ _ rfl (ho.alloc _) ⟨b, off, none⟩ m _ (bv (l.take m)) rfl (by rw [bv_length]; simp; omega) (news_seg (HS.out _) m) (bv_one _) (by omega) (by unfold maxLen; omega) (by omega) (by simp; omega) (w.heap.size + 1) (by simp) ?_; intro g1 c1 w1 a1 k1 _ _)
  go_ret
  obtain ⟨bel1, keep1, _⟩ := grow_step (Below.refl B w) (KeepN.refl _ w) hB ho k1
  refine ⟨_, _, rfl, ?_, bel1, keep1⟩
  rw [List.take_of_length_le (by omega), ← bv_append] at a1
  exact a1

set_option maxRecDepth 100000 in
set_option maxHeartbeats 800000 in
theorem appendTo_copy (B n c L K : Nat) (rs : Value) (S : Int) (ao : Option Addr) (xs : List Int) (w : World) (ho : w.ownsRow B 5 1 (.slice ao n c) n (bv xs)) (hB : B ≤ w.heap.size) (hrs : ∃ a n c, rs = .slice a n c) (hK1 : 1 ≤ K) (hK2 : K ≤ n) (hL : L ≤ 130) (hbd : n + L ≤ 100000000) :
    Calls Try.prog 81 #[.agg #[rs, .int .i64 L, .int .i64 K, .int .i64 S], .slice ao n c] w fun r w' =>
      ∃ ao' c', r = .returned (.slice ao' (n + L) c') ∧ w'.ownsRow B 5 1 (.slice ao' (n + L) c') (n + L) (bv (cp K L xs)) ∧ Below B w w' ∧ KeepN 5 w w' := by
  obtain ⟨i0, hi, hz0, hz1, hz2⟩ := info_parts infoByte
  obtain ⟨ra, rn, rc, rfl⟩ := hrs
  have hK0 : ((K : Int) == 0) = false := by rw [beq_eq_false_iff_ne]; omega
  go_enter Try.func81, Try.ntmps81
  go_wp2_with fail
  go_loopw [1, 14] (fun s1 s14 wr => ∃ (ao : Option Addr) (c i : Nat) (ys : List Int), s1 = .slice ao (n + i) c ∧ s14 = .int .i64 i ∧ i ≤ L ∧ wr.ownsRow B 5 1 (.slice ao (n + i) c) (n + i) (bv ys) ∧
      cp K (L - i) ys = cp K L xs ∧ wr.heap[w.heap.size]? = some (Obj.cells #[.slice ra rn rc, .int .i64 L, .int .i64 K, .int .i64 S] 130 (0, 0)) ∧ Below B w wr ∧ KeepN 5 w wr) (fun _ s14 _ => L - (intOf s14).toNat)
  case atStart => exact ⟨ao, c, 0, xs, rfl, rfl, by omega, ho.alloc _, rfl, heap_alloc_new w _, (Below.refl _ _).alloc hB _, (KeepN.refl _ _).alloc _⟩
  case round =>
    clear ho
    obtain ⟨ao, c, i, ys, rfl, rfl, hiL, ho, hcp, hbox, hbel, hkeep⟩ := hrel
    have HC : Hid (cp K (L - i) ys = cp K L xs) := hcp
    clear hcp
    have hsz := hbel.size
    by_cases d : i < L
    · obtain ⟨gb, cc, hv, hcells⟩ := owns_bytes ho (by omega)
      obtain ⟨rfl, rfl⟩ : ao = some ⟨gb, 0, none⟩ ∧ c = cc := by simpa using hv
      have hbc : wr.cell? ⟨w.heap.size, 2, none⟩ = some (.int .i64 K) := by rw [cell_of_row wr w.heap.size 2 _ _ _ hbox]; rfl
      have hel := hcells (n + i - K) (by omega)
      have hyl : ys.length = n + i := by have := ho.1; rw [bv_length] at this; omega
      have HS : Hid (cp K (L - i) ys = cp K (L - (i + 1)) (ys ++ [g ys (n + i - K)])) := by
        rw [show L - i = (L - (i + 1)) + 1 by omega, cp, hyl]; rfl
      have i1 : (0 : Int) ≤ (n : Int) + i - K := by omega
      have i2 : (n : Int) + i - K < (n : Int) + i := by omega
      have i3 : ((n : Int) + i - K).toNat = n + i - K := by omega
      clear hcells hv hyl
      go_wp2_with (at_builtin; refine wpList_append_lies _ rfl _ _ 33 rfl B 5 i0 (.int .u8 0) 1 1 Try.underlying33 hi hz0 hz1 hz2 rfl (by decide) _ _ _ rfl (ho.alloc _) ⟨wr.heap.size, 0, none⟩ 1 1 (bv [g ys (n + i - K)]) rfl rfl (cell_one_new wr _ _) (bv_one _) (by decide) (by unfold maxLen; omega) (by omega) (by simp; omega) (wr.heap.size + 1) (by simp) ?_; intro g1 c1 w1 a1 k1 _ _)
      obtain ⟨_, keep1, bel1⟩ := grow_step (Below.refl B wr) (KeepN.refl _ wr) (by omega) ho k1
      have HR : Hid (w1.heap[w.heap.size]? = some (Obj.cells #[.slice ra rn rc, .int .i64 L, .int .i64 K, .int .i64 S] 130 (0, 0)) ∧ (Below B w w1 ∧ KeepN 5 w w1) ∧ w1.ownsRow B 5 1 (.slice (some ⟨g1, 0, none⟩) (n + (i + 1)) c1) (n + (i + 1)) (bv (ys ++ [g ys (n + i - K)]))) :=
        ⟨keep1 _ _ hbox (by simp), ⟨hbel.trans bel1, hkeep.trans keep1⟩, by rw [bv_append]; exact a1⟩
      clear k1 keep1 bel1 a1
      go_wp2
      go_roundw
      case rel => exact ⟨_, c1, i + 1, _, rfl, by go_num, by omega, HR.out.2.2, HS.out.symm.trans HC.out, HR.out.1, HR.out.2.1.1, HR.out.2.1.2⟩
      case measure => simp only [intOf]; omega
    · obtain rfl : i = L := by omega
      have HO : Hid (wr.ownsRow B 5 1 (.slice ao (n + i) c) (n + i) (bv (cp K i xs))) := by
        have := HC.out
        rw [Nat.sub_self] at this
        rw [← this]; exact ho
      go_wp2
      go_ret
      exact ⟨ao, c, rfl, HO.out, hbel, hkeep⟩
end Go.Proofs.Ytahbgebnmgnmoaa

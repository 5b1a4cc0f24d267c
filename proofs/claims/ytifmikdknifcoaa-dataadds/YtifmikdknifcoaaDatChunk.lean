/- Layer 12: slices.Chunk, at bytes: the iterator over a row's parts of 128 bytes. -/
import Derived.Test.YtifmikdknifcoaaOwn
import Derived.Test.YtifmikdknifcoaaRange
import Derived.RangeFuncBound
import Derived.Sort.BigQuietIn
import Derived.Shelf.Abstract
import Derived.Shelf.RegionOpen
import Derived.WalkKit
import Derived.OwnWalkIn
import Derived.TacticsInMore
import Derived.LoopNIn
import Derived.LoopIn
namespace Go.Proofs.Ytifmikdknifcoaa
set_option linter.unusedVariables false
open Go.RowKit Go.Maps Go.Shelf
open Lz (g)
attribute [local go_sem] Oper.semAt_some

set_option maxRecDepth 100000 in
theorem chunk_in (n len cap : Nat) (ao : Option Addr) (w : World) : CallsIn Fence.wide n Try.prog 44 #[.slice ao len cap, .int .i64 128] w fun e w' => e = .returned (.func (.func 61) #[] #[.pointer (some ⟨w.heap.size, 0, none⟩), .pointer (some ⟨w.heap.size + 1, 0, none⟩)]) ∧ w' = (w.alloc (.cells #[.slice ao len cap] 34)).alloc (.cells #[.int .i64 128] 3) := by
  refine callsIn_of_wp Try.func44 rfl trivial ?_ rfl
  simp only [Try.ntmps44, List.size_toArray, List.length_cons, List.length_nil, Nat.reduceAdd, Nat.reduceSub, Array.replicate_succ, Array.replicate_zero, List.push_toArray, List.append_toArray, List.nil_append, List.cons_append]
  gi_wp2
  go_ret
  exact ⟨rfl, rfl⟩
set_option maxRecDepth 100000 in
set_option maxHeartbeats 2000000 in
theorem chunk1_in (n l B1 B2 b off len cap K : Nat) (hn : 2 ≤ n) (hl : len = 128 * K) (hc : len ≤ cap) (hcm : cap ≤ 9223372036854775807) (hK : K ≤ 1000000) (W0 : World) (J : Nat → World → Prop)
    (h1 : ∀ j W, J j W → W.cell? ⟨B1, 0, none⟩ = some (.slice (some ⟨b, off, none⟩) len cap)) (h2 : ∀ j W, J j W → W.cell? ⟨B2, 0, none⟩ = some (.int .i64 128)) (hd : ∀ j W q, J j W → J j (W.drewN q))
    (hY : ∀ j W, j < K → J j W → YieldAt Fence.wide (n - 1) Try.prog l #[.slice (some ⟨b, off + 128 * j, none⟩) 128 128] W fun e W' => e = .returned (.bool true) ∧ J (j + 1) W')
    (h0 : J 0 W0) :
    CallsIn Fence.wide n Try.prog 61 #[.func (.yield l) #[] #[], .pointer (some ⟨B1, 0, none⟩), .pointer (some ⟨B2, 0, none⟩)] W0 fun e W' => (∃ v, e = .returned v) ∧ J K W' := by
  have h1n : 1 ≤ n := by omega
  have HY := hide hY
  have H1 := hide h1
  have H2 := hide h2
  have HD := hide hd
  have HL := hide hl
  have hlb : len ≤ 128000000 := by omega
  clear hY h1 h2 hd hl
  refine callsIn_of_wp Try.func61 rfl trivial ?_ rfl
  simp only [Try.ntmps61, List.size_toArray, List.length_cons, List.length_nil, Nat.reduceAdd, Nat.reduceSub, Array.replicate_succ, Array.replicate_zero, List.push_toArray, List.append_toArray, List.nil_append, List.cons_append]
  gi_wp2
  gi_loopw [4] (fun s4 wr => ∃ (j i : Nat), s4 = .int .i64 i ∧ Hid (i = 128 * j) ∧ j ≤ K ∧ J j wr) (fun s4 _ => len - (intOf s4).toNat)
  case atStart => exact ⟨0, 0, rfl, rfl, Nat.zero_le _, h0⟩
  case round =>
    clear h0
    obtain ⟨j, i, rfl, HI, hj, hJ⟩ := hrel
    have c1 := H1.out _ _ hJ
    have c2 := H2.out _ _ hJ
    have HJ := hide hJ
    clear hJ
    by_cases hp : j < K
    · have hd : (i : Int) < (len : Int) := by have := HI.out; have := HL.out; omega
      have h3 : (i : Int) ≤ (cap : Int) := by omega
      have h4 : (128 : Int) ≤ (len : Int) - (i : Int) := by have := HI.out; have := HL.out; omega
      have h5 : (i : Int) + 128 ≤ (cap : Int) := by have := HI.out; have := HL.out; omega
      gi_wp2
      gi_big_quiet_th (fail)
      have HJq := hide (HD.out j wr nq HJ.out)
      have c1q := H1.out _ _ HJq.out
      have c2q := H2.out _ _ HJq.out
      obtain ⟨fn, tmps, assign, body, hy, hR⟩ := HY.out j (wr.drewN nq) hp HJq.out
      rw [← HI.out] at hy
      clear c1 c2 HJ HJq
      gi_wp2
      refine hR.mono ?_
      rintro e W3 ⟨rfl, hJ3⟩
      have c2r := H2.out _ _ hJ3
      have HJ3 := hide hJ3
      clear hJ3 hR hy
      gi_wp2
      go_roundw
      case rel => exact ⟨j + 1, i + 128, by go_num, (by have := HI.out; show _ = _; omega), by omega, HJ3.out⟩
      case measure => simp [intOf]; omega
    · obtain rfl : j = K := by omega
      have hd : ¬ (i : Int) < (len : Int) := by have := HI.out; have := HL.out; omega
      gi_wp2
      go_end0
      exact ⟨⟨_, rfl⟩, HJ.out⟩
end Go.Proofs.Ytifmikdknifcoaa

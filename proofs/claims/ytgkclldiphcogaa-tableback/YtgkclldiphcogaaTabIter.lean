/- Layer 11: attributes that stand in a row: the iterator over them, by the program. -/
import Derived.Test.YtgkclldiphcogaaTabText
import Derived.RangeFuncNested
import Derived.RangeFuncBound
import Derived.RangeFuncCalls
import Derived.RangeFuncLeaves
import Derived.Shelf.Abstract
import Derived.Shelf.RegionOpen
import Derived.WalkKit
import Derived.OwnWalkIn
import Derived.TacticsInMore
import Derived.LoopNIn
import Derived.LoopIn
namespace Go.Proofs.Ytgkclldiphcogaa
set_option linter.unusedVariables false
open Go.RowKit Go.Maps Go.Shelf
open Lz (g)
open Crc (ent)
open Frm Mtr
attribute [local go_sem] Oper.semAt_some

namespace Mtr
/-- Attributes from a ref on: so many, or fewer, up to the first one that can't be read. -/
def xaR (X : List Int) : Nat → Int → List (ByteArray × List Int)
  | 0, _ => []
  | k + 1, ref => match txO X ref with
    | none => []
    | some (s, nx) => match txO X nx with
      | none => []
      | some (v, n2) => (strOfNums s, v) :: xaR X k n2
theorem xaR_none {X : List Int} {k : Nat} {ref : Int} (h : txO X ref = none) : xaR X k ref = [] := by
  cases k with
  | zero => rfl
  | succ k => unfold xaR; rw [h]
theorem xaR_half {X s : List Int} {k : Nat} {ref nx : Int} (h : txO X ref = some (s, nx)) (h2 : txO X nx = none) : xaR X k ref = [] := by
  cases k with
  | zero => rfl
  | succ k => unfold xaR; rw [h]; simp only []; rw [h2]
theorem xaR_one {X s v : List Int} {k : Nat} {ref nx n2 : Int} (h : txO X ref = some (s, nx)) (h2 : txO X nx = some (v, n2)) : xaR X (k + 1) ref = (strOfNums s, v) :: xaR X k n2 := by
  conv => lhs; unfold xaR
  rw [h]; simp only []; rw [h2]
theorem xaR_length (X : List Int) : ∀ (k : Nat) (ref : Int), (xaR X k ref).length ≤ k
  | 0, _ => Nat.le_refl _
  | k + 1, ref => by
    unfold xaR
    split
    · simp
    · split
      · simp
      · rename_i v n2 _
        have := xaR_length X k n2
        simp; exact this
end Mtr
theorem xattrs_in (n : Nat) (p : Option Addr) (ref many : Int) (w : World) : CallsIn Fence.wide n Try.prog 49 #[.pointer p, .int .i64 ref, .int .i64 many] w fun e w' => e = .returned (.func (.func 77) #[] #[.pointer (some ⟨w.heap.size + 1, 0, none⟩), .pointer (some ⟨w.heap.size + 1 + 1, 0, none⟩), .pointer (some ⟨w.heap.size, 0, none⟩)]) ∧ w' = ((w.alloc (.cells #[.pointer p] 41)).alloc (.cells #[.int .i64 ref] 3)).alloc (.cells #[.int .i64 many] 3) := by
  refine callsIn_of_wp Try.func49 rfl trivial ?_ rfl
  simp only [Try.ntmps49, List.size_toArray, List.length_cons, List.length_nil, Nat.reduceAdd, Nat.reduceSub, Array.replicate_succ, Array.replicate_zero, List.push_toArray, List.append_toArray, List.nil_append, List.cons_append]
  gi_wp2
  go_ret
  exact ⟨rfl, rfl⟩
/-- What the loop's body is told and tells. -/
def Rounds (n l tb B3 many : Nat) (w : World) (J : List (ByteArray × List Int) → (Nat → Prop) → World → Prop) : Prop :=
  ∀ pre O W nm va vn vc val, J pre O W → nm.size ≤ 255 → Bs W va vn val → vn ≤ vc → vc ≤ 9223372036854775807 → (va = none → vc = 0) → (∀ a, va = some a → ¬ O a.block) → (∃ A O1, J pre O1 A ∧ Fr O1 A W ∧ Gr O1 O A ∧ ∀ a, va = some a → A.heap.size ≤ a.block) → pre.length < many → (∀ k, O k → k < W.heap.size) →
    YieldAt Fence.wide (n - 1) Try.prog l #[.agg #[.string nm, .slice va vn vc]] W fun e W' => e = .returned (.bool true) ∧ J (pre ++ [(nm, val)]) O W' ∧ Fr (fun k => ¬ (O k ∨ k = tb ∨ k = B3) ∧ w.heap.size ≤ k) W W'
set_option maxRecDepth 100000 in
set_option maxHeartbeats 2000000 in
theorem xattrs1_in (n l B1 B2 B3 p tb many N : Nat) (hn : 2 ≤ n) (ref : Int) (X : List Int) (O0 Oa : Nat → Prop) (w W0 : World) (J : List (ByteArray × List Int) → (Nat → Prop) → World → Prop)
    (hstep : ∀ pre O O' A B, J pre O A → Fr O A B → Gr O O' A → J pre O' B) (hY : Rounds n l tb B3 many w J)
    (hM : RM w p tb O0 X N Oa W0) (c1 : W0.cell? ⟨B1, 0, none⟩ = some (.int .i64 ref)) (c2 : W0.cell? ⟨B2, 0, none⟩ = some (.int .i64 many)) (c3 : W0.heap[B3]? = some (.cells #[.pointer (some ⟨p, 0, none⟩)] 41 (0, 0))) (hB3 : ¬ Oa B3)
    (hby : Bytes X) (hX : X.length ≤ 1000000) (hr : In64 ref) (hm : many ≤ 255) (hN : N ≤ 700000000) (h0 : J [] Oa W0) :
    CallsIn Fence.wide n Try.prog 77 #[.func (.yield l) #[] #[], .pointer (some ⟨B1, 0, none⟩), .pointer (some ⟨B2, 0, none⟩), .pointer (some ⟨B3, 0, none⟩)] W0 fun e W' => (∃ v, e = .returned v) ∧ ∃ O', J (xaR X many ref) O' W' ∧ RM w p tb O0 X (N + 300000) O' W' := by
  have h1n : 1 ≤ n := by omega
  have HY := hide hY
  have HS : Hid (∀ pre O O' A B, J pre O A → Fr O A B → Gr O O' A → J pre O' B) := hstep
  have HBy := hide hby
  have hft : Fence.wide.fn 78 := trivial
  clear hY hstep
  refine callsIn_of_wp Try.func77 rfl trivial ?_ rfl
  simp only [Try.ntmps77, List.size_toArray, List.length_cons, List.length_nil, Nat.reduceAdd, Nat.reduceSub, Array.replicate_succ, Array.replicate_zero, List.push_toArray, List.append_toArray, List.nil_append, List.cons_append]
  gi_wp2
  gi_loopw [5, 13] (fun s5 s13 wr => ∃ (i : Nat) (at' : Int) (O : Nat → Prop) (pre : List (ByteArray × List Int)), s5 = .int .i64 at' ∧ s13 = .int .i64 i ∧ i ≤ many ∧ In64 at' ∧ J pre O wr ∧ RM w p tb O0 X (N + 1020 * i) O wr ∧ wr.heap[B3]? = some (.cells #[.pointer (some ⟨p, 0, none⟩)] 41 (0, 0)) ∧ ¬ O B3 ∧ pre.length = i ∧ Hid (xaR X many ref = pre ++ xaR X (many - i) at')) (fun _ s13 _ => many - (intOf s13).toNat)
  case atStart => exact ⟨0, ref, Oa, [], rfl, rfl, Nat.zero_le _, hr, h0, hM, c3, hB3, rfl, rfl⟩
  case round =>
    clear hM c1 c2 c3 hB3 h0
    obtain ⟨i, at', O, pre, rfl, rfl, hi, hat, hJ, hM, h3, hO3, hpl, HE⟩ := hrel
    by_cases hp : i < many
    · have hd : (i : Int) < (many : Int) := by omega
      have c3 : wr.cell? ⟨B3, 0, none⟩ = some (.pointer (some ⟨p, 0, none⟩)) := by simp [World.cell?, h3]
      have HT := hide (text_any hM at' hby hat hX (by omega))
      have HJ := hide hJ
      have H3 := hide h3
      have hB3l := heap_lt h3
      clear hJ hM h3
      gi_wp2
      refine (callsIn_wide.2 HT.out).mono ?_
      rintro r W1 ⟨O1, hM1, hF1, hG1, ⟨hno, e, he, rfl⟩ | ⟨s, nx, ao, sn, c, hs, rfl, hB, _, _, _, hown1⟩⟩
      · have he' : (e != 0) = true := by simpa using he
        have hJ1 := HS.out _ _ _ _ _ HJ.out hF1 hG1
        gi_wp2
        refine bodyPost_ret (results_none rfl _ _ _) rfl ?_
        exact ⟨⟨_, rfl⟩, O1, by rw [HE.out, xaR_none hno, List.append_nil]; exact hJ1, hM1.mono (by omega)⟩
      · obtain ⟨t1, t2, t3, t4⟩ := txO_some hby hs
        have hnx : In64 nx := ⟨by omega, t4 hX⟩
        have h31 := (hF1.block B3 hB3l hO3).trans H3.out
        have hO31 : ¬ O1 B3 := fun hx => by
          rcases hG1 _ hx with hx | hx
          · exact hO3 hx
          · omega
        have c31 : W1.cell? ⟨B3, 0, none⟩ = some (.pointer (some ⟨p, 0, none⟩)) := by simp [World.cell?, h31]
        have hB3l1 := heap_lt h31
        have HT2 := hide (text_any hM1 nx hby hnx hX (by omega))
        have HJ1 := hide (HS.out _ _ _ _ _ HJ.out hF1 hG1)
        have HB := hide hB
        have H31 := hide h31
        have HF1 := hide hF1
        clear hM1 hF1 hG1 HT hB h31 HJ
        gi_wp2
        refine (callsIn_wide.2 HT2.out).mono ?_
        rintro r W2 ⟨O2, hM2, hF2, hG2, ⟨hno, e, he, rfl⟩ | ⟨v, n2, vo, vn, vc, hv, rfl, hV, v1, v2, v3, v4⟩⟩
        · have he' : (e != 0) = true := by simpa using he
          have hJ2 := HS.out _ _ _ _ _ HJ1.out hF2 hG2
          gi_wp2
          refine ⟨fun _ h => (by cases h), ?_⟩
          gi_wp2
          refine bodyPost_ret (results_none rfl _ _ _) rfl ?_
          exact ⟨⟨_, rfl⟩, O2, by rw [HE.out, xaR_half hs hno, List.append_nil]; exact hJ2, hM2.mono (by omega)⟩
        · obtain ⟨u1, u2, u3, u4⟩ := txO_some hby hv
          have hn2 : In64 n2 := ⟨by omega, u4 hX⟩
          have h32 := (hF2.block B3 hB3l1 hO31).trans H31.out
          have hO32 : ¬ O2 B3 := fun hx => by
            rcases hG2 _ hx with hx | hx
            · exact hO31 hx
            · omega
          have hsz : (strOfNums s).size ≤ 255 := by rw [strOfNums_size]; exact t1
          have s2 := str_any (HB.out.fr hF2 (fun a ha _ => (hown1 a ha).2)) c
          obtain ⟨fn, tmps, assign, body, hy, hR⟩ := HY.out pre O2 W2 (strOfNums s) vo vn vc v (HS.out _ _ _ _ _ HJ1.out hF2 hG2) hsz hV v1 v2 v3 (fun a ha => (v4 a ha).2) ⟨W1, O1, HJ1.out, hF2, hG2, fun a ha => (v4 a ha).1⟩ (by omega) hM2.rdm.olt
          have HM2 := hide hM2
          have H32 := hide h32
          have HN : Hid (xaR X many ref = (pre ++ [(strOfNums s, v)]) ++ xaR X (many - (i + 1)) n2) := by
            show _ = _
            rw [HE.out, show many - i = (many - (i + 1)) + 1 by omega, xaR_one hs hv]
            simp
          clear hM2 hF2 hG2 HT2 hV v4 h32 HJ1 HB hown1 HE
          gi_wp2
          refine hR.mono ?_
          rintro e W3 ⟨rfl, hJ3, hF3⟩
          have h33 := (hF3.block B3 (heap_lt H32.out) (fun hx => hx.1 (.inr (.inr rfl)))).trans H32.out
          have hM3 := HM2.out.turn hF3 (fun k hk hx => hx.1 (.inl hk)) (fun hx => hx.1 (.inr (.inl rfl))) (fun k hx => hx.2)
          have HJ3 := hide hJ3
          have HM3 := hide hM3
          have H33 := hide h33
          clear hJ3 hM3 h33 hF3 hR hy
          gi_wp2
          go_roundw
          case rel => exact ⟨i + 1, n2, O2, pre ++ [(strOfNums s, v)], rfl, by go_num, by omega, hn2, HJ3.out, HM3.out.mono (by omega), H33.out, hO32, by simp; omega, HN⟩
          case measure => simp [intOf]; omega
    · obtain rfl : i = many := by omega
      gi_wp2
      go_end0
      exact ⟨⟨_, rfl⟩, O, by rw [HE.out, Nat.sub_self]; unfold xaR; rw [List.append_nil]; exact hJ, hM.mono (by omega)⟩
end Go.Proofs.Ytgkclldiphcogaa

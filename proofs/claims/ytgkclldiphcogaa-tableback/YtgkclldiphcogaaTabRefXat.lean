/- Layer 11: further attributes, by the document's answer: how they are written; two rows of them held against each other; the document's examples. -/
import Derived.Test.YtgkclldiphcogaaTabXat
namespace Go.Proofs.Ytgkclldiphcogaa
set_option linter.unusedVariables false
open Go.RowKit Go.Maps
open Nam Tre Tab
open Lz (g)
open Cur

set_option maxRecDepth 100000 in
set_option maxHeartbeats 1000000 in
theorem refPutXattrs_any (a : Option Addr) (n c : Nat) (xs : List (ByteArray × List Int)) (w : World) (h : XsR w a n xs) (hc : n ≤ c) (hcm : c ≤ 9223372036854775807) :
    Calls Try.prog 15 #[.slice a n c] w fun r w' => RPutsA (putX xs) w r w' := by
  have hlen := h.1
  cases hq : xsOk xs with
  | false =>
    have e : putX xs = ([], 1) := by unfold putX; rw [if_neg (by intro hh; rw [hq] at hh; exact absurd hh.2 (by simp))]
    rw [e]
    have HM := hide (refXattrs_any a n c xs w h hc hcm false hq)
    clear e h hq
    go_enter Try.func15, Try.ntmps15
    go_wp2_with fail
    refine HM.out.mono ?_
    rintro r w1 ⟨rfl, hb1⟩
    have HB := hide hb1
    clear hb1
    go_wp2_with fail
    go_ret2
    exact ⟨none, 0, rfl, (New.none w1).bs, HB.out⟩
  | true =>
    have HM := hide (refXattrs_any a n c xs w h hc hcm true hq)
    by_cases h0 : n = 0
    · have e : putX xs = ([], 1) := by unfold putX; rw [if_neg (by intro hh; exact hh.1 (List.eq_nil_of_length_eq_zero (by omega)))]
      rw [e]
      subst h0
      clear e h hq
      go_enter Try.func15, Try.ntmps15
      go_wp2_with fail
      refine HM.out.mono ?_
      rintro r w1 ⟨rfl, hb1⟩
      have HB := hide hb1
      clear hb1
      go_wp2_with fail
      go_ret2
      exact ⟨none, 0, rfl, (New.none w1).bs, HB.out⟩
    · have hn0 : ((n : Int) == 0) = false := by simp; omega
      have hne : xs ≠ [] := fun e => by rw [e] at hlen; simp at hlen; omega
      have e : putX xs = (xsB n xs, 0) := by unfold putX; rw [if_pos ⟨hne, hq⟩, hlen]
      rw [e]
      have HMe := hide (xsOk_mem hq).2
      have h8 := (xsOk_mem hq).1
      have HBy := hide (xs_bytes h)
      have HX := hide h
      clear e h hq
      go_enter Try.func15, Try.ntmps15
      go_wp2_with fail
      refine HM.out.mono ?_
      rintro r w1 ⟨rfl, hb1⟩
      obtain ⟨w2, hw2⟩ : ∃ w2, w2 = w1.alloc (.cells #[.slice none 0 0, .int .i64 0] 86) := ⟨_, rfl⟩
      have HT0 : Hid (TR w w1.heap.size ([], 0) w2) := by rw [hw2]; exact TR.new hb1
      have HW2 := hide hw2
      clear hw2 hb1 HM
      go_wp2_with fail
      rw [← HW2.out]
      refine (tr_num HT0.out (n : Int) 1 (by simp) (by constructor <;> omega) (by constructor <;> omega)).mono ?_
      rintro r w3 ⟨rfl, hT3⟩
      rw [wNum_ok [] 1 1 n rfl (by omega) (by omega) (by omega) (by omega)] at hT3
      have e1 : [] ++ by' 1 (n : Int) = xsB n (xs.take 0) := by simp [by', xsB]; omega
      rw [e1] at hT3
      have HT3 := hide hT3
      generalize w1.heap.size = p at *
      clear hT3 e1 HT0 HW2
      go_wp2_with fail
      go_loopw [6] (fun r wr => ∃ i : Nat, r = .int .i64 i ∧ i ≤ n ∧ TR w p (xsB n (xs.take i), 0) wr) (fun r _ => n - (intOf r).toNat)
      case atStart => exact ⟨0, rfl, Nat.zero_le _, HT3.out⟩
      case round =>
        clear HT3
        obtain ⟨i, rfl, hi, hT⟩ := hrel
        have HT := hide hT
        have hL : (xsB n (xs.take i)).length ≤ 2000 := by
          have h1 := flat_length (xs := xs.take i) (fun x hx => HMe.out x (List.mem_of_mem_take hx))
          have h2 : (xs.take i).length ≤ 8 := by simp; omega
          simp only [xsB, List.length_cons]
          omega
        by_cases hp : i < n
        · obtain ⟨b, off, rfl, hb, hcx⟩ := HX.out.at (by omega)
          obtain ⟨c0, va, vn, vc, c1, hB, _⟩ := hcx i hp
          have HC1 := hide c1
          replace c0 := (hT.bel.cell (p := ⟨b, off + i * 2, none⟩) hb).trans c0
          have hmem : gx xs i ∈ xs := by rw [gx_lt xs i (by omega)]; exact List.getElem_mem _
          obtain ⟨m1, m2⟩ := HMe.out _ hmem
          have hby := HBy.out _ hmem
          have HS := hide (xsB_take n xs i (by omega))
          have hd : (i : Int) < (n : Int) := by omega
          generalize gx xs i = X at *
          obtain ⟨nm, val⟩ := X
          simp only at c0 hB m1 m2 hby HS
          have HB0 := hide hB
          clear hcx hT hB c1
          go_wp2_with fail
          refine (tr_text HT.out nm (by simp; omega) (by omega)).mono ?_
          rintro r w5 ⟨rfl, hT5, _⟩
          rw [wTxt_ok _ nm (by omega)] at hT5
          have c5 := (hT5.bel.cell (p := ⟨b, off + i * 2 + 1, none⟩) hb).trans HC1.out
          have s5 := str_any (HB0.out.below hT5.bel) vc
          have hl5 : (xsB n (xs.take i) ++ ((nm.size : Int) :: sb nm)).length ≤ 2100 := by simp [sb_length]; omega
          have HT5 := hide hT5
          clear hT5 c0 HT HC1
          go_wp2_with fail
          refine (tr_text HT5.out (strOfNums val) (by simp only []; omega) (by rw [strN_size]; omega)).mono ?_
          rintro r w6 ⟨rfl, hT6, _⟩
          rw [wTxt_ok _ (strOfNums val) (by rw [strN_size]; omega), Cap.sb_str hby, strN_size, ← HS.out] at hT6
          have HT6 := hide hT6
          clear hT6 HT5 s5 c5
          go_wp2_with fail
          go_roundw
          case rel => exact ⟨i + 1, rfl, by omega, HT6.out⟩
          case measure => simp [intOf]; omega
        · obtain rfl : i = n := by omega
          rw [List.take_of_length_le (by omega)] at hT hL
          obtain ⟨v, hv⟩ := hT.wr
          have HV := hide hv
          have HBl := hide hT.bel
          clear hT HT hv
          go_wp2_with fail
          refine (refDone_any _ _ _ _ _ HV.out (by simp; omega)).mono ?_
          rintro r w2 ⟨ao2, c2, rfl, hB, _, _, _, hb⟩
          have HX2 : Hid (RPutsA (xsB i xs, 0) w (.returned (.tuple #[.slice ao2 (xsB i xs).length c2, .int .i64 0])) w2) := ⟨ao2, c2, rfl, hB, HBl.out.trans (hb.mono HBl.out.size)⟩
          clear hB hb
          go_wp2
          go_ret2
          exact HX2.out
theorem gx_drop (xs : List (ByteArray × List Int)) (i : Nat) (h : i < xs.length) : xs.drop i = gx xs i :: xs.drop (i + 1) := by
  rw [gx_lt xs i h]; exact List.drop_eq_getElem_cons h
set_option maxRecDepth 100000 in
set_option maxHeartbeats 1000000 in
theorem xsSame_any (a b : Option Addr) (n m c d : Nat) (xs ys : List (ByteArray × List Int)) (w : World) (ha : XsR w a n xs) (hb : XsR w b m ys) (hn : n ≤ 1000000) (hm : m ≤ 1000000) (q : Bool) (hq : decide (xs = ys) = q) :
    Calls Try.prog 23 #[.slice a n c, .slice b m d] w fun e w' => e = .returned (.bool q) ∧ ∃ j, w' = w.drewN j := by
  have hl := ha.1
  have hk := hb.1
  by_cases e : n = m
  · subst e
    have HA := hide ha
    have HB := hide hb
    have HQ : Hid (decide (xs.drop 0 = ys.drop 0) = q) := by rw [List.drop_zero, List.drop_zero]; exact hq
    clear ha hb hq
    go_enter Try.func23, Try.ntmps23
    go_wp2
    go_loopw [5] (fun r wr => ∃ i j : Nat, r = .int .i64 i ∧ i ≤ n ∧ wr = w.drewN j ∧ Hid (decide (xs.drop i = ys.drop i) = q)) (fun r _ => n - (intOf r).toNat)
    case atStart => exact ⟨0, 0, rfl, Nat.zero_le _, rfl, HQ⟩
    case round =>
      obtain ⟨i, j, rfl, hi, rfl, HI⟩ := hrel
      by_cases hp : i < n
      · obtain ⟨b1, o1, rfl, hb1, hc1⟩ := HA.out.at (by omega)
        obtain ⟨b2, o2, rfl, hb2, hc2⟩ := HB.out.at (by omega)
        obtain ⟨n1, va, vn, vc, v1, B1, _⟩ := hc1 i hp
        obtain ⟨n2, ua, un, uc, v2, B2, _⟩ := hc2 i hp
        have HS1 := hide (gx_drop xs i (by omega))
        have HS2 := hide (gx_drop ys i (by omega))
        have hd : (i : Int) < (n : Int) := by omega
        clear hc1 hc2
        generalize gx xs i = A at *
        generalize gx ys i = C at *
        obtain ⟨an, av⟩ := A
        obtain ⟨cn, cv⟩ := C
        simp only at n1 n2 v1 v2 B1 B2 HS1 HS2
        have s1 : ∀ nq, (convert 29 9 (.slice va vn vc)).run Try.prog (w.drewN nq) = .ok (.string (strOfNums av)) (w.drewN nq) := fun nq => str_any (w := w.drewN nq) B1 vc
        have s2 : ∀ nq, (convert 29 9 (.slice ua un uc)).run Try.prog (w.drewN nq) = .ok (.string (strOfNums cv)) (w.drewN nq) := fun nq => str_any (w := w.drewN nq) B2 uc
        have hs : ∀ x y : ByteArray, (x.toList == y.toList) = decide (x = y) := fun x y => by
          rw [Bool.eq_iff_iff, beq_iff_eq, decide_eq_true_eq]
          exact ⟨toList_inj, fun h => by rw [h]⟩
        have t1 := B1.bytes
        have t2 := B2.bytes
        clear B1 B2
        by_cases h1 : an = cn
        · subst h1
          by_cases h2 : av = cv
          · subst h2
            go_wp2
            go_quiet (fail)
            go_wp2
            go_roundw
            case rel => exact ⟨i + 1, _, rfl, by omega, rfl, by show _ = _; have := HI.out; rw [HS1.out, HS2.out] at this; rw [← this]; simp⟩
            case measure => simp [intOf]; omega
          · have HF : Hid (false = q) := by show _ = _; have := HI.out; rw [HS1.out, HS2.out] at this; rw [← this]; simp [h2]
            have h4 : ((strOfNums av).toList == (strOfNums cv).toList) = false := by
              rw [hs, decide_eq_false]
              intro h
              have := congrArg sb h
              rw [Cap.sb_str t1, Cap.sb_str t2] at this
              exact h2 this
            clear hs t1 t2
            go_wp2
            go_quiet (fail)
            go_wp2
            go_ret
            exact ⟨ret_bool HF.out, dr2 _ _ _⟩
        · have HF : Hid (false = q) := by show _ = _; have := HI.out; rw [HS1.out, HS2.out] at this; rw [← this]; simp [h1]
          have h4 : (an.toList == cn.toList) = false := by rw [hs, decide_eq_false h1]
          clear hs t1 t2
          go_wp2
          go_quiet (fail)
          go_wp2
          go_ret
          exact ⟨ret_bool HF.out, dr2 _ _ _⟩
      · obtain rfl : i = n := by omega
        go_wp2
        go_ret
        exact ⟨ret_bool (by have := HI.out; rw [List.drop_of_length_le (by omega), List.drop_of_length_le (by omega)] at this; rw [← this]; simp), j, rfl⟩
  · have hne : ((n : Int) != (m : Int)) = true := by simp; omega
    have hq' : q = false := by rw [← hq]; simp; intro h; rw [h] at hl; omega
    go_enter Try.func23, Try.ntmps23
    go_wp2
    go_ret
    exact ⟨ret_bool hq'.symm, 0, rfl⟩
end Go.Proofs.Ytgkclldiphcogaa

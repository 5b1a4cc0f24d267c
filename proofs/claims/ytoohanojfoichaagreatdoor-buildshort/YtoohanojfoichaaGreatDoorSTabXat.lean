/- What the proof stands on: TabXat, with what the proof reaches of it. -/
import Derived.Test.YtoohanojfoichaaGreatDoorSTreCheck
import Derived.Test.YtoohanojfoichaaGreatDoorSTabNums

/- Layer 11: further attributes: which may be, and how they are written. -/
namespace Go.Proofs.YtoohanojfoichaaGreatDoor
set_option linter.unusedVariables false
open Go.RowKit Go.Maps
open Nam Tre Tab
open Lz (g)
open Cur

namespace Tab
/-- A root that has attributes. -/
def rootV (a : Option Addr) (n c : Nat) : Nv := ⟨none, 0, 0, 0, 1, 0, 0, 0, none, 0, 0, ⟨#[]⟩, a, n, c, false⟩
def rootN (xs : List (ByteArray × List Int)) : Nod := ⟨[], 0, 1, 0, 0, 0, [], ⟨#[]⟩, xs, false⟩
theorem check_rootN (xs : List (ByteArray × List Int)) : check [rootN xs] = if xsOk xs = true then 0 else 7 := by
  have h1 : ¬ 1024 < [rootN xs].length := by simp
  have h2 : wrong [rootN xs] = 0 := rfl
  have h3 : [rootN xs].any deep = false := rfl
  have h4 : ([rootN xs].map Nod.names).Nodup := by simp
  have h5 : isDir [rootN xs] [] = true := by simp [isDir, rootN]
  have h6 : [rootN xs].all (inDir [rootN xs]) = true := by simp [inDir, rootN]
  have h8 : [rootN xs].Pairwise one := by simp
  have hm : [rootN xs].all may = xsOk xs := by
    simp [may, kdOk, attrOk, rootN]
  by_cases h : xsOk xs = true
  · rw [if_pos h]
    exact check_ok h1 h2 h3 h4 h5 h6 (by rw [hm]; exact h) h8
  · rw [if_neg h]
    exact check_kind h1 h2 h3 h4 h5 h6 (by rw [hm]; simpa using h)
theorem xs1_mem : ∀ (xs : List (ByteArray × List Int)) (a : List UInt8), xs1 a xs = true → ∀ x ∈ xs, x.1.size ≤ 40 ∧ x.2.length ≤ 200
  | [], _, _, x, hx => by simp at hx
  | y :: r, a, h, x, hx => by
    rw [xs1] at h
    simp only [Bool.and_eq_true, decide_eq_true_eq] at h
    obtain ⟨⟨⟨_, h1⟩, h2⟩, h3⟩ := h
    rcases List.mem_cons.1 hx with rfl | hx
    · refine ⟨?_, h2⟩
      unfold txt at h1
      simp only [Bool.and_eq_true, decide_eq_true_eq] at h1
      have := h1.1.2
      rwa [toList_length] at this
    · exact xs1_mem r _ h3 x hx
theorem xsOk_mem {xs : List (ByteArray × List Int)} (h : xsOk xs = true) : xs.length ≤ 8 ∧ ∀ x ∈ xs, x.1.size ≤ 40 ∧ x.2.length ≤ 200 := by
  unfold xsOk at h
  simp only [Bool.and_eq_true, decide_eq_true_eq] at h
  exact ⟨h.1, xs1_mem xs _ h.2⟩
/-- An attribute's bytes. -/
def xB (x : ByteArray × List Int) : List Int := ((x.1.size : Int) :: sb x.1) ++ ((x.2.length : Int) :: x.2)
/-- Attributes' bytes, how many there are ahead. -/
def xsB (n : Nat) (xs : List (ByteArray × List Int)) : List Int := (n : Int) :: xs.flatMap xB
theorem xB_length (x : ByteArray × List Int) : (xB x).length = x.1.size + x.2.length + 2 := by simp [xB, sb_length]; omega
theorem xsB_snoc (n : Nat) (xs : List (ByteArray × List Int)) (x : ByteArray × List Int) : xsB n (xs ++ [x]) = (xsB n xs ++ ((x.1.size : Int) :: sb x.1)) ++ ((x.2.length : Int) :: x.2) := by simp [xsB, xB]
theorem xsB_take (n : Nat) (xs : List (ByteArray × List Int)) (i : Nat) (h : i < xs.length) : xsB n (xs.take (i + 1)) = (xsB n (xs.take i) ++ (((gx xs i).1.size : Int) :: sb (gx xs i).1)) ++ (((gx xs i).2.length : Int) :: (gx xs i).2) := by
  rw [List.take_succ_eq_append_getElem h, xsB_snoc, gx_lt xs i h]
theorem flat_length {xs : List (ByteArray × List Int)} (h : ∀ x ∈ xs, x.1.size ≤ 40 ∧ x.2.length ≤ 200) : (xs.flatMap xB).length ≤ 242 * xs.length := by
  induction xs with
  | nil => simp
  | cons x r ih =>
    have := ih (fun y hy => h y (List.mem_cons_of_mem _ hy))
    have h1 := h x (List.mem_cons_self ..)
    have := xB_length x
    simp only [List.flatMap_cons, List.length_append, List.length_cons]
    omega
/-- What PutXattrs answers. -/
def putX (xs : List (ByteArray × List Int)) : St := if xs ≠ [] ∧ xsOk xs = true then (xsB xs.length xs, 0) else ([], 1)
theorem strN_size (zs : List Int) : (strOfNums zs).size = zs.length := by
  show (strOfNums zs).data.size = _
  simp [strOfNums]
theorem xs_bytes {w : World} {ao : Option Addr} {n : Nat} {xs : List (ByteArray × List Int)} (h : XsR w ao n xs) : ∀ x ∈ xs, Bytes x.2 := by
  intro x hx
  obtain ⟨i, hi, rfl⟩ := List.getElem_of_mem hx
  rcases h.2 with h0 | ⟨b, off, _, _, h3⟩
  · have := h.1; omega
  · obtain ⟨_, va, vn, vc, _, hb, _⟩ := h3 i (by have := h.1; omega)
    rw [gx_lt xs i hi] at hb
    exact hb.bytes
end Tab
set_option maxRecDepth 100000 in
theorem MayXattrs_any (a : Option Addr) (n c : Nat) (xs : List (ByteArray × List Int)) (w : World) (h : XsR w a n xs) (hc : n ≤ c) (hcm : c ≤ 9223372036854775807) (hnil : a = none → c = 0) (q : Bool) (hq : xsOk xs = q) :
    Calls Tryz.prog 138 #[.slice a n c] w fun e w' => e = .returned (.bool q) ∧ Below w.heap.size w w' := by
  obtain ⟨w1, hw1⟩ : ∃ w1, w1 = w.alloc (.cells (rootV a n c).cells 48) := ⟨_, rfl⟩
  have b1 : Below w.heap.size w w1 := by rw [hw1]; exact below_one _ _
  have hN : Ns w1 (some ⟨w.heap.size, 0, none⟩) 1 [(rootV a n c, rootN xs)] := by
    refine ⟨rfl, fun p hp => ?_, .inr ⟨w.heap.size, 0, rfl, by rw [hw1]; simp, fun i hi => ?_⟩⟩
    · simp at hp
      subst hp
      exact ⟨Rs.nil _ _, Nat.le_refl _, by simp [rootV], fun _ => rfl, rfl, by simp [rootV]; decide, rfl, rfl, rfl, rfl, (New.none _).bs, Nat.le_refl _, by simp [rootV], fun _ => rfl, rfl, by show (0 : Nat) ≤ _; omega, h.below b1, hc, hcm, hnil, rfl⟩
    · obtain rfl : i = 0 := by omega
      have hB := boxed w (rootV a n c)
      rw [← hw1] at hB
      exact ⟨hB.c0, hB.c1, hB.c2, hB.c3, hB.c4, hB.c5, hB.c6, hB.c7, hB.c8, hB.c9⟩
  have HC := hide (Check_any _ 1 1 _ w1 hN (Nat.le_refl _) (by omega))
  have e : nds [(rootV a n c, rootN xs)] = [rootN xs] := rfl
  rw [e, check_rootN] at HC
  have HB1 := hide b1
  have HW1 := hide hw1
  unfold Nv.cells rootV at HW1
  have HQ := hide hq
  clear b1 hw1 hN h e hq
  cases q with
  | true =>
    rw [HQ.out, if_pos rfl] at HC
    go_enter Tryz.func138, Tryz.ntmps138
    go_wp2_with fail
    rw [← HW1.out]
    refine HC.out.mono ?_
    rintro r w2 ⟨rfl, hb2⟩
    have HB2 := hide (HB1.out.trans (hb2.mono HB1.out.size))
    clear hb2 HC
    go_wp2
    go_ret
    exact ⟨rfl, HB2.out⟩
  | false =>
    rw [HQ.out, if_neg (by simp)] at HC
    go_enter Tryz.func138, Tryz.ntmps138
    go_wp2_with fail
    rw [← HW1.out]
    refine HC.out.mono ?_
    rintro r w2 ⟨rfl, hb2⟩
    have HB2 := hide (HB1.out.trans (hb2.mono HB1.out.size))
    clear hb2 HC
    go_wp2
    go_ret
    exact ⟨rfl, HB2.out⟩
set_option maxRecDepth 100000 in
set_option maxHeartbeats 1000000 in
theorem PutXattrs_any (a : Option Addr) (n c : Nat) (xs : List (ByteArray × List Int)) (w : World) (h : XsR w a n xs) (hc : n ≤ c) (hcm : c ≤ 9223372036854775807) (hnil : a = none → c = 0) :
    Calls Tryz.prog 93 #[.slice a n c] w fun r w' => PutsA (putX xs) w r w' := by
  have hlen := h.1
  by_cases h0 : n = 0
  · have e : putX xs = ([], 1) := by unfold putX; rw [if_neg (by intro hh; exact hh.1 (List.eq_nil_of_length_eq_zero (by omega)))]
    rw [e]
    subst h0
    clear e h
    go_enter Tryz.func93, Tryz.ntmps93
    go_wp2_with fail
    go_ret2
    exact ⟨none, 0, rfl, New.none _⟩
  · have hn0 : ((n : Int) == 0) = false := by simp; omega
    have hne : xs ≠ [] := fun e => by rw [e] at hlen; simp at hlen; omega
    cases hq : xsOk xs with
    | false =>
      have e : putX xs = ([], 1) := by unfold putX; rw [if_neg (by intro hh; rw [hq] at hh; exact absurd hh.2 (by simp))]
      rw [e]
      have HM := hide (MayXattrs_any a n c xs w h hc hcm hnil false hq)
      clear e h hq
      go_enter Tryz.func93, Tryz.ntmps93
      go_wp2_with fail
      refine HM.out.mono ?_
      rintro r w1 ⟨rfl, hb1⟩
      have HB := hide hb1
      clear hb1
      go_wp2_with fail
      go_ret2
      exact ⟨none, 0, rfl, (New.none w1).bs, Nat.le_refl _, by omega, fun _ => rfl, HB.out, fun a h => by simp at h⟩
    | true =>
      have e : putX xs = (xsB n xs, 0) := by unfold putX; rw [if_pos ⟨hne, hq⟩, hlen]
      rw [e]
      have HM := hide (MayXattrs_any a n c xs w h hc hcm hnil true hq)
      have HMe := hide (xsOk_mem hq).2
      have h8 := (xsOk_mem hq).1
      have HBy := hide (xs_bytes h)
      have HX := hide h
      clear e h hq
      go_enter Tryz.func93, Tryz.ntmps93
      go_wp2_with fail
      refine HM.out.mono ?_
      rintro r w1 ⟨rfl, hb1⟩
      obtain ⟨w2, hw2⟩ : ∃ w2, w2 = w1.alloc (.cells #[.slice none 0 0, .int .i64 0] 120) := ⟨_, rfl⟩
      have HT0 : Hid (TW w w1.heap.size ([], 0) w2) := by rw [hw2]; exact TW.new hb1
      have HW2 := hide hw2
      clear hw2 hb1 HM
      go_wp2_with fail
      rw [← HW2.out]
      refine (tw_num HT0.out (n : Int) 1 (by simp) (by constructor <;> omega) (by constructor <;> omega)).mono ?_
      rintro r w3 ⟨rfl, hT3⟩
      rw [wNum_ok [] 1 1 n rfl (by omega) (by omega) (by omega) (by omega)] at hT3
      have e1 : [] ++ by' 1 (n : Int) = xsB n (xs.take 0) := by simp [by', xsB]; omega
      rw [e1] at hT3
      have HT3 := hide hT3
      generalize w1.heap.size = p at *
      clear hT3 e1 HT0 HW2
      go_wp2_with fail
      go_loopw [20] (fun r wr => ∃ i : Nat, r = .int .i64 i ∧ i ≤ n ∧ TW w p (xsB n (xs.take i), 0) wr) (fun r _ => n - (intOf r).toNat)
      case atStart => exact ⟨0, rfl, Nat.zero_le _, HT3.out⟩
      case round =>
        clear HT3
        obtain ⟨i, rfl, hi, hT⟩ := hrel
        have HT := hide hT
        have hL : (xsB n (xs.take i)).length ≤ 2000 := by
          have h1 := flat_length (xs := xs.take i) (fun x hx => HMe.out x (List.mem_of_mem_take hx))
          have h2 : (xs.take i).length ≤ 8 := by simp; omega
          simp only [xsB, List.length_cons]
          omega
        by_cases hp : i < n
        · obtain ⟨b, off, rfl, hb, hcx⟩ := HX.out.at (by omega)
          obtain ⟨c0, va, vn, vc, c1, hB, _⟩ := hcx i hp
          replace c0 := (hT.bel.cell (p := ⟨b, off + i * 2, none⟩) hb).trans c0
          replace c1 := (hT.bel.cell (p := ⟨b, off + i * 2 + 1, none⟩) hb).trans c1
          have hbr : b < wr.heap.size := Nat.lt_of_lt_of_le hb hT.bel.size
          have hmem : gx xs i ∈ xs := by rw [gx_lt xs i (by omega)]; exact List.getElem_mem _
          obtain ⟨m1, m2⟩ := HMe.out _ hmem
          have hby := HBy.out _ hmem
          have HS := hide (xsB_take n xs i (by omega))
          have hd : (i : Int) < (n : Int) := by omega
          generalize gx xs i = X at *
          obtain ⟨nm, val⟩ := X
          simp only at c0 c1 hB m1 m2 hby HS
          obtain ⟨w4, hw4⟩ : ∃ w4, w4 = wr.alloc (.cells #[.string nm, .slice va vn vc] 127) := ⟨_, rfl⟩
          have b4 : Below wr.heap.size wr w4 := by rw [hw4]; exact below_one _ _
          have d1 : w4.heap[wr.heap.size]? = some (.cells #[.string nm, .slice va vn vc] 127 (0, 0)) := by rw [hw4]; exact heap_new rfl
          have HD1 := hide d1
          have HT4 := hide (hT.below b4)
          have HB0 := hide hB
          have HW4 := hide hw4
          have hpl : p < wr.heap.size := by
            obtain ⟨v, hv⟩ := hT.wr
            exact hv.lt
          clear hcx hT hB hw4 b4 d1 HT
          go_wp2_with fail
          rw [← HW4.out]
          refine (tw_text HT4.out nm (by simp; omega) (by omega)).mono ?_
          rintro r w5 ⟨rfl, hT5, hK5⟩
          rw [wTxt_ok _ nm (by omega)] at hT5
          have d5 := hK5 _ _ _ HD1.out (by decide) (by omega)
          have c5 : w5.cell? ⟨wr.heap.size, 1, none⟩ = some (.slice va vn vc) := by simp [World.cell?, d5]
          have s5 := str_any (HB0.out.below hT5.bel) vc
          have hl5 : (xsB n (xs.take i) ++ ((nm.size : Int) :: sb nm)).length ≤ 2100 := by simp [sb_length]; omega
          have HT5 := hide hT5
          clear hT5 hK5 d5 HT4 HW4 HD1 c0 c1
          go_wp2_with fail
          refine (tw_text HT5.out (strOfNums val) (by simp only []; omega) (by rw [strN_size]; omega)).mono ?_
          rintro r w6 ⟨rfl, hT6, _⟩
          rw [wTxt_ok _ (strOfNums val) (by rw [strN_size]; omega), Cap.sb_str hby, strN_size, ← HS.out] at hT6
          have HT6 := hide hT6
          clear hT6 HT5 s5 c5
          go_wp2_with fail
          go_roundw
          case rel => exact ⟨i + 1, rfl, by omega, HT6.out⟩
          case measure => simp [intOf]; omega
        · obtain rfl : i = n := by omega
          rw [List.take_of_length_le (by omega)] at HT hL
          clear hT
          go_wp2_with fail
          refine (tw_done HT.out (by simp; omega)).mono ?_
          rintro r w2 ⟨ao, c', rfl, hN, hT2⟩
          have HN := hide hN
          clear hN
          go_wp2_with fail
          refine (tw_err hT2).mono ?_
          rintro r w3 ⟨rfl, hw3⟩
          obtain rfl := hw3.symm
          go_wp2
          go_ret2
          exact ⟨ao, c', rfl, HN.out⟩
end Go.Proofs.YtoohanojfoichaaGreatDoor

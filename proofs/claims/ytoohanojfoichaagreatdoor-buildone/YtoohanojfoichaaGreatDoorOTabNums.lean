import Derived.Test.YtoohanojfoichaaGreatDoorOJLzAll
import Derived.Test.YtoohanojfoichaaGreatDoorOJCurNew
import Derived.Test.YtoohanojfoichaaGreatDoorOJInts
import Derived.BigQuiet
set_option linter.unusedVariables false
namespace Go.Proofs.YtoohanojfoichaaGreatDoor
open Go.RowKit Go.Maps
open Lz (g)
open Cur
namespace Tab
structure TW (w : World) (p : Nat) (s : St) (wX : World) : Prop where
 wr : ∃ v, WrP wX p w.heap.size v s
 bel : Below w.heap.size w wX
 up : w.heap.size ≤ p
section
variable {w wX wY : World} {p : Nat} {s : St}
theorem TW.below (h : TW w p s wX) (hb : Below wX.heap.size wX wY) : TW w p s wY := by
 obtain ⟨v, hv⟩ := h.wr
 exact ⟨⟨v, hv.below hb⟩, h.bel.trans (hb.mono h.bel.size), h.up⟩
theorem TW.new (hw : Below w.heap.size w wX) : TW w wX.heap.size ([], 0) (wX.alloc (.cells #[.slice none 0 0, .int .i64 0] 120)) :=
 ⟨⟨_, WrP.new wX w.heap.size⟩, hw.trans ((below_one _ _).mono hw.size), hw.size⟩
theorem TW.done {v : Value} {s' : St} (h : TW w p s wX) (hv : WrP wX p w.heap.size v s) (hd : WrDone wX wY p w.heap.size v s') : TW w p s' wY := by
 obtain ⟨v', h1, h2, _⟩ := hd
 exact ⟨⟨v', h1⟩, h.bel.trans (h2.two_below h.bel.size h.up hv.base), h.up⟩
end
def KeptB (p : Nat) (wX w' : World) : Prop := ∀ b cs t, wX.heap[b]? = some (.cells cs t (0, 0)) → t ≠ 5 → b ≠ p → w'.heap[b]? = some (.cells cs t (0, 0))
theorem kept_row {wX w' : World} {p B n : Nat} {v : Value} {xs : List Value} (ho : wX.ownsRow B 5 1 v n xs) (hf : Fr (Two p v) wX w') : KeptB p wX w' := fun b cs t hb ht hp => by
 refine (hf.block b (heap_lt hb) (fun hx => ?_)).trans hb
 rcases hx with hx | hx
 ·exact hp hx
 ·obtain ⟨cur, hc⟩ := owns_obj ho hx
  rw [hb] at hc
  cases hc
  exact ht rfl
theorem WrP.kept {wX w' : World} {p B : Nat} {v : Value} {s : St} (h : WrP wX p B v s) (hf : Fr (Two p v) wX w') : KeptB p wX w' := by
 obtain ⟨ao, n, c, rfl, _, ho, _⟩ := h
 exact kept_row ho hf
theorem tw_num {w wX : World} {p : Nat} {s : St} (h : TW w p s wX) (x n : Int) (hs : s.1.length ≤ 10000000) (hx : In64 x) (hn : In64 n) :
  Calls Tryz.prog 64 #[.pointer (some ⟨p, 0, none⟩), .int .i64 x, .int .i64 n] wX fun r w' => r = .returned (.tuple #[]) ∧ TW w p (wNum x n s) w' := by
 obtain ⟨v, hv⟩ := h.wr
 refine (wNum_any p _ v x n s wX hv h.bel.size hs hx hn).mono ?_
 rintro r w' ⟨rfl, hd⟩
 exact ⟨rfl, h.done hv hd⟩
theorem tw_text {w wX : World} {p : Nat} {s : St} (h : TW w p s wX) (b : ByteArray) (hs : s.1.length ≤ 1000000) (hb : b.size ≤ 1000000) :
  Calls Tryz.prog 139 #[.pointer (some ⟨p, 0, none⟩), .string b] wX fun r w' => r = .returned (.tuple #[]) ∧ TW w p (wTxt (sb b) s) w' ∧ KeptB p wX w' := by
 obtain ⟨v, hv⟩ := h.wr
 refine (wText_any p _ v b s wX hv h.bel.size hs hb).mono ?_
 rintro r w' ⟨rfl, hd⟩
 obtain ⟨v', h1, h2, h3⟩ := hd
 exact ⟨rfl, h.done hv ⟨v', h1, h2, h3⟩, WrP.kept hv h2⟩
theorem tw_done {w wX : World} {p : Nat} {s : St} (h : TW w p s wX) (hs : s.1.length ≤ 10000000) :
  Calls Tryz.prog 66 #[.pointer (some ⟨p, 0, none⟩)] wX fun r w' => ∃ ao c, r = .returned (.slice ao s.1.length c) ∧ New w w' ao s.1.length c s.1 ∧ TW w p s w' := by
 obtain ⟨v, hv⟩ := h.wr
 refine (DoneNew_any p _ v s wX hv (by omega)).mono ?_
 rintro r w' ⟨ao, c, rfl, hN⟩
 exact ⟨ao, c, rfl, hN.from h.bel, h.below hN.bel⟩
theorem tw_err {w wX : World} {p : Nat} {s : St} (h : TW w p s wX) :
  Calls Tryz.prog 96 #[.pointer (some ⟨p, 0, none⟩)] wX fun r w' => r = .returned (.int .i64 s.2) ∧ w' = wX := by
 obtain ⟨v, ao, n, c, _, hd, _⟩ := h.wr
 exact Err_any _ p n c ao s.2 wX hd
def pn (wide : Int) (l : List Int) : St := l.foldl (fun s x => wNum x wide s) ([], 0)
theorem pn_snoc (wide : Int) (l : List Int) (x : Int) : pn wide (l ++ [x]) = wNum x wide (pn wide l) := by simp [pn]
theorem pn_take (wide : Int) (l : List Int) (i : Nat) (h : i < l.length) : pn wide (l.take (i + 1)) = wNum (g l i) wide (pn wide (l.take i)) := by
 rw [List.take_succ_eq_append_getElem h, pn_snoc, g_get l i h]
theorem pn_fold_length (wide : Int) : ∀ (l : List Int) (s : St), (l.foldl (fun s x => wNum x wide s) s).1.length ≤ s.1.length + 4 * l.length
 | [], s => by simp
 | x :: r, s => by
  have := pn_fold_length wide r (wNum x wide s)
  have := wNum_length x wide s
  simp only [List.foldl_cons, List.length_cons]
  omega
theorem pn_length (wide : Int) (l : List Int) : (pn wide l).1.length ≤ 4 * l.length := by
 have := pn_fold_length wide l ([], 0)
 simpa [pn] using this
def putN (wide : Int) (l : List Int) : St := if wide = 2 ∨ wide = 4 then pn wide l else ([], 1)
end Tab
open Tab
theorem isWide_any (x : Int) (w : World) (q : Bool) (hq : decide (x = 2 ∨ x = 4) = q) :
  Calls Tryz.prog 98 #[.int .i64 x] w fun e w' => e = .returned (.bool q) ∧ w' = w := by
 by_cases h2 : x = 2
 ·have e2 : (x == 2) = true := by simpa using h2
  go_enter Tryz.func98, Tryz.ntmps98
  go_wp2
  go_ret
  exact ⟨ret_bool (by rw [← hq]; simp [h2]), rfl⟩
 ·have e2 : (x == 2) = false := by simpa using h2
  go_enter Tryz.func98, Tryz.ntmps98
  go_wp2
  go_ret
  exact ⟨ret_bool (by rw [← hq, Bool.eq_iff_iff]; simp [h2]), rfl⟩
def PutsA (A : St) (w : World) (r : Ending) (w' : World) : Prop := ∃ ao c, r = .returned (.tuple #[.slice ao A.1.length c, .int .i64 A.2]) ∧ New w w' ao A.1.length c A.1
set_option maxRecDepth 100000 in
set_option maxHeartbeats 1000000 in
theorem PutNums_any (a : Option Addr) (n c : Nat) (l : List Int) (wide : Int) (w : World) (h : Zs w a n l) (hn : n ≤ 10000) (hl : ∀ x ∈ l, In64 x) (hw : In64 wide) :
  Calls Tryz.prog 56 #[.slice a n c, .int .i64 wide] w fun r w' => PutsA (putN wide l) w r w' := by
 have hlen := h.1
 have HZ := hide h
 clear h
 by_cases hq : wide = 2 ∨ wide = 4
 ·have e : putN wide l = pn wide l := by unfold putN; rw [if_pos hq]
  rw [e]
  obtain ⟨w1, hw1⟩ : ∃ w1, w1 = w.alloc (.cells #[.slice none 0 0, .int .i64 0] 120) := ⟨_, rfl⟩
  have HT0 : Hid (TW w w.heap.size ([], 0) w1) := by rw [hw1]; exact TW.new (Below.refl _ _)
  have HW1 := hide hw1
  clear hw1 e
  go_enter Tryz.func56, Tryz.ntmps56
  go_wp2_with fail
  refine (isWide_any wide w true (decide_eq_true hq)).mono ?_
  rintro r wx ⟨rfl, hwx⟩
  obtain rfl := hwx.symm
  go_wp2_with fail
  rw [← HW1.out]
  go_loopw [14] (fun r wr => ∃ i : Nat, r = .int .i64 i ∧ i ≤ n ∧ TW w w.heap.size (pn wide (l.take i)) wr) (fun r _ => n - (intOf r).toNat)
  case atStart => exact ⟨0, rfl, Nat.zero_le _, HT0.out⟩
  case round =>
   clear HT0 HW1
   obtain ⟨i, rfl, hi, hT⟩ := hrel
   have HT := hide hT
   have hpl := pn_length wide (l.take i)
   have hpl2 : (l.take i).length ≤ 10000 := by simp; omega
   clear hT
   by_cases hp : i < n
   ·obtain ⟨b, off, rfl, hb, hc⟩ := (HZ.out.below HT.out.bel).at (by omega)
    have ci := hc i hp
    have hd : (i : Int) < (n : Int) := by omega
    have hgx := hl (g l i) (by rw [g_get l i (by omega)]; exact List.getElem_mem _)
    have HS := hide (pn_take wide l i (by omega))
    clear hc
    go_wp2_with fail
    refine (tw_num HT.out (g l i) wide (by omega) hgx hw).mono ?_
    rintro r w2 ⟨rfl, hT2⟩
    rw [← HS.out] at hT2
    have HT2 := hide hT2
    clear hT2 HT
    go_wp2_with fail
    go_roundw
    case rel => exact ⟨i + 1, rfl, by omega, HT2.out⟩
    case measure => simp [intOf]; omega
   ·obtain rfl : i = n := by omega
    rw [List.take_of_length_le (by omega)] at HT hpl
    go_wp2_with fail
    refine (tw_done HT.out (by omega)).mono ?_
    rintro r w2 ⟨ao, c', rfl, hN, hT2⟩
    have HN := hide hN
    clear hN
    go_wp2_with fail
    refine (tw_err hT2).mono ?_
    rintro r w3 ⟨rfl, hw3⟩
    obtain rfl := hw3.symm
    go_wp2
    go_ret2
    exact ⟨ao, c', rfl, HN.out⟩
 ·have e : putN wide l = ([], 1) := by unfold putN; rw [if_neg hq]
  rw [e]
  clear e
  go_enter Tryz.func56, Tryz.ntmps56
  go_wp2_with fail
  refine (isWide_any wide w false (decide_eq_false hq)).mono ?_
  rintro r wx ⟨rfl, hwx⟩
  obtain rfl := hwx.symm
  go_wp2_with fail
  go_ret2
  exact ⟨none, 0, rfl, New.none _⟩
end Go.Proofs.YtoohanojfoichaaGreatDoor

/- Layer 12: frames that are passed, by the program: wholeOf, maySize, pass, Walk. -/
import Derived.Test.YtifmikdknifcoaaDatPure
namespace Go.Proofs.Ytifmikdknifcoaa
set_option linter.unusedVariables false
open Go.RowKit Go.Maps
open Lz (g)
open Crc (ent more)
open Frm Mtr Dat

theorem wholeOf_any (n : Nat) (w : World) (h : n ≤ 1000000000000) : Calls Try.prog 26 #[.int .i64 n] w fun r w' => r = .returned (.int .i64 ((128 * (n / 128) : Nat) : Int)) ∧ w' = w := by
  go_enter Try.func26, Try.ntmps26
  go_wp2
  go_ret
  exact ⟨ret_int (by omega), rfl⟩
theorem maySize_any (n : Int) (w : World) : Calls Try.prog 30 #[.int .i64 n] w fun r w' => r = .returned (.bool (decide (0 ≤ n ∧ n ≤ 4096))) ∧ w' = w := by
  go_enter Try.func30, Try.ntmps30
  go_wp2
  all_goals (go_ret; exact ⟨ret_bool (by simp; omega), rfl⟩)
/-- What pass answers. -/
def DPasses (o : Option Int) (r : Ending) : Prop := r = .returned (.tuple #[.int .i64 (o.getD 0), .bool o.isSome])
set_option maxRecDepth 100000 in
theorem dPass_any (len cap k : Nat) (at' e : Int) (ao : Option Addr) (zs : List Int) (w : World) (hB : Bs w ao len zs) (hc : len ≤ cap) (hnil : ao = none → cap = 0) (hl : len ≤ 1000000) (hcm : cap ≤ 9223372036854775807) (ha : In64 at') (he : In64 e) (hk : k ≤ 1000000) :
    Calls Try.prog 31 #[.slice ao len cap, .int .i64 at', .int .i64 k, .int .i64 e] w fun r w' => DPasses (pas zs e k at') r ∧ Below w.heap.size w w' := by
  have HB := hide hB
  have HN := hide hnil
  have HZ := hide hB.1
  clear hB hnil
  go_enter Try.func31, Try.ntmps31
  go_wp2
  go_loopw [1, 13] (fun s1 s13 wr => ∃ (i : Nat) (x : Int), s1 = .int .i64 x ∧ s13 = .int .i64 i ∧ i ≤ k ∧ In64 x ∧ Below w.heap.size w wr ∧ Hid (pas zs e k at' = pas zs e (k - i) x)) (fun _ s13 _ => k - (intOf s13).toNat)
  case atStart => exact ⟨0, at', rfl, rfl, Nat.zero_le _, ha, Below.refl _ _, rfl⟩
  case round =>
    obtain ⟨i, x, rfl, rfl, hi, hx, hb, HE⟩ := hrel
    by_cases hp : i < k
    · have hd : (i : Int) < (k : Int) := by omega
      have HS := hide (Skip_any len cap x ao zs wr (HB.out.below hb) hc HN.out hl hcm hx)
      have hnx := skip_next (z := zs) (at' := x)
      have HE2 : Hid (pas zs e k at' = if (skip zs x).2 ≠ 0 ∨ e < (skip zs x).1 then none else pas zs e (k - (i + 1)) (skip zs x).1) := by
        show _ = _
        rw [HE.out, show k - i = (k - (i + 1)) + 1 by omega]; rfl
      have Hb := hide hb
      clear HE hb
      go_wp2_with fail
      refine HS.out.mono ?_
      rintro r w1 ⟨rfl, hb1⟩
      have Hb1 := hide (Hb.out.trans (hb1.mono Hb.out.size))
      clear hb1 HS Hb
      obtain ⟨⟨nx, er⟩, hsk⟩ : ∃ p, skip zs x = p := ⟨_, rfl⟩
      rw [hsk] at hnx HE2 ⊢
      simp only [] at hnx HE2 ⊢
      have hc0 : (er ≠ 0 ∧ nx = 0) ∨ (er = 0 ∧ 0 ≤ nx ∧ nx ≤ (len : Int)) := by
        have := HZ.out
        rcases hnx with hnx | hnx
        · have : nx = 0 ∧ er = 2 := by simpa using hnx
          omega
        · omega
      clear hsk hnx
      rcases hc0 with ⟨h1, h2⟩ | ⟨rfl, h2, h3⟩
      · have h1' : (er != 0) = true := by simpa using h1
        have HA : Hid (DPasses (pas zs e k at') (.returned (.tuple #[.int .i64 0, .bool false]))) := by
          show DPasses _ _
          rw [HE2.out, if_pos (.inl h1)]; rfl
        go_wp2
        go_ret2
        exact ⟨HA.out, Hb1.out⟩
      · by_cases h4 : e < nx
        · have HA : Hid (DPasses (pas zs e k at') (.returned (.tuple #[.int .i64 0, .bool false]))) := by
            show DPasses _ _
            rw [HE2.out, if_pos (.inr h4)]; rfl
          go_wp2
          go_ret2
          exact ⟨HA.out, Hb1.out⟩
        · have h4' : ¬ e < nx := h4
          have HA : Hid (pas zs e k at' = pas zs e (k - (i + 1)) nx) := by
            show _ = _
            rw [HE2.out, if_neg (by omega)]
          go_wp2
          go_roundw
          case rel => exact ⟨i + 1, nx, rfl, by go_num, by omega, ⟨by omega, by omega⟩, Hb1.out, HA⟩
          case measure => simp [intOf]; omega
    · obtain rfl : i = k := by omega
      have HA : Hid (DPasses (pas zs e i at') (.returned (.tuple #[.int .i64 x, .bool true]))) := by
        show DPasses _ _
        rw [HE.out, Nat.sub_self]; rfl
      go_wp2
      go_ret2
      exact ⟨HA.out, hb⟩
/-- What Walk answers. -/
def DWalks (z : List Int) (start size e : Int) (r : Ending) : Prop := r = .returned (.tuple #[.int .i64 (wk z start size e).1, .int .i64 (wk z start size e).2])
set_option maxRecDepth 100000 in
theorem dWalk_any (len cap : Nat) (start size e : Int) (ao : Option Addr) (zs : List Int) (w : World) (hB : Bs w ao len zs) (hc : len ≤ cap) (hnil : ao = none → cap = 0) (hl : len ≤ 1000000) (hcm : cap ≤ 9223372036854775807) (ha : In64 start) (hs : In64 size) (he : In64 e) :
    Calls Try.prog 19 #[.slice ao len cap, .int .i64 start, .int .i64 size, .int .i64 e] w fun r w' => DWalks zs start size e r ∧ Below w.heap.size w w' := by
  by_cases h : 0 ≤ size ∧ size ≤ 4096
  · obtain ⟨k, rfl⟩ : ∃ k : Nat, size = k := ⟨size.toNat, by omega⟩
    have hd : decide (0 ≤ (k : Int) ∧ (k : Int) ≤ 4096) = true := by simp; omega
    have HP := hide (dPass_any len cap (k / 128) start e ao zs w hB hc hnil hl hcm ha he (by omega))
    have hq : (k : Int) / 128 = ((k / 128 : Nat) : Int) := by omega
    have HW := hide (wk_of zs start e k (by omega))
    have H4 : k ≤ 4096 := by omega
    clear hB hnil h hq
    go_enter Try.func19, Try.ntmps19
    go_wp2_with fail
    refine (maySize_any k w).mono ?_
    rintro r w1 ⟨rfl, rfl⟩
    rw [hd]
    go_wp2_with fail
    refine HP.out.mono ?_
    rintro r w1 ⟨hr, hb⟩
    unfold DPasses at hr
    have hw := HW.out
    cases ho : pas zs e (k / 128) start with
    | none =>
      rw [ho] at hr hw
      subst hr
      have HA : Hid (DWalks zs start k e (.returned (.tuple #[.int .i64 0, .int .i64 2]))) := by show DWalks _ _ _ _ _; unfold DWalks; rw [hw]; rfl
      simp only [Option.getD_none, Option.isSome_none]
      clear ho hw HW HP
      go_wp2
      go_ret2
      exact ⟨HA.out, hb⟩
    | some x =>
      rw [ho] at hr hw
      subst hr
      have HA : Hid (DWalks zs start k e (.returned (.tuple #[.int .i64 x, .int .i64 0]))) := by show DWalks _ _ _ _ _; unfold DWalks; rw [hw]; rfl
      simp only [Option.getD_some, Option.isSome_some]
      clear ho hw HW HP
      go_wp2
      go_ret2
      exact ⟨HA.out, hb⟩
  · have hd : decide (0 ≤ size ∧ size ≤ 4096) = false := by simp; omega
    have HW : Hid (DWalks zs start size e (.returned (.tuple #[.int .i64 0, .int .i64 1]))) := by
      show DWalks _ _ _ _ _
      unfold DWalks wk
      rw [if_pos (by omega)]
    clear hB hnil
    go_enter Try.func19, Try.ntmps19
    go_wp2_with fail
    refine (maySize_any size w).mono ?_
    rintro r w1 ⟨rfl, rfl⟩
    rw [hd]
    go_wp2
    go_ret2
    exact ⟨HW.out, Below.refl _ _⟩
end Go.Proofs.Ytifmikdknifcoaa

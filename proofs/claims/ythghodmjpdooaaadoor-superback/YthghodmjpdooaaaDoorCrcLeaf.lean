/- The leaves of layer 2 (crc): what entry, the reference's Entry and few do. -/
import Derived.Test.YthghodmjpdooaaaDoorBase
import Derived.Test.YthghodmjpdooaaaDoorCrcPure
import Derived.Laws.BitsAllLaws
namespace Go.Proofs.YthghodmjpdooaaaDoor
set_option linter.unusedVariables false
open Go.RowKit Go.Maps
open Lz (g)
open Crc (stp steps ent bt run more)

theorem and1 {r : Nat} (hr : r < 4294967296) : bits .and .u32 (r : Int) 1 = ((r % 2 : Nat) : Int) := by
  rw [show (1 : Int) = ((1 : Nat) : Int) from rfl, u32_and_nat r 1 hr (by omega), nat_mask1]
theorem xorP {r : Nat} (hr : r < 4294967296) : bits .xor .u32 (r : Int) 3988292384 = ((r ^^^ 3988292384 : Nat) : Int) := u32_xor_nat r 3988292384 hr (by omega)
theorem steps_one (n r : Nat) : steps (n + 1) r = steps n (stp r) := rfl

set_option maxHeartbeats 400000 in
theorem entry_any (r : Nat) (w : World) (hr : r < 4294967296) :
    Calls Tryd.prog 16 #[.int .u32 r] w fun e w' => e = .returned (.int .u32 (ent r)) ∧ w' = w := by
  obtain ⟨E, hE⟩ : ∃ E, E = ent r := ⟨_, rfl⟩
  rw [← hE]
  have HE : Hid (E = steps 8 r) := hE
  clear hE
  go_enter Tryd.func16, Tryd.ntmps16
  go_wp2
  go_loopw [0, 4] (fun s0 s4 wr => ∃ k x : Nat, s0 = .int .u32 x ∧ s4 = .int .i64 k ∧ x < 4294967296 ∧ k ≤ 8 ∧ Hid (E = steps (8 - k) x) ∧ wr = w) (fun _ s4 _ => 8 - (intOf s4).toNat)
  case atStart => exact ⟨0, r, rfl, rfl, hr, by omega, HE, rfl⟩
  case round =>
    obtain ⟨k, x, rfl, rfl, hx, hk, H, rfl⟩ := hrel
    by_cases hlt : k < 8
    · have e1 := and1 hx
      have e2 := xorP (r := x / 2) (by omega)
      have e3 : ((x / 2 : Nat) : Int) = (x : Int) / 2 := by omega
      rw [e3] at e2
      have hs : E = steps (8 - (k + 1)) (stp x) := by
        rw [H.out, ← steps_one]
        congr 1
        omega
      rcases Nat.mod_two_eq_zero_or_one x with h0 | h1
      · rw [h0] at e1
        have hs' : E = steps (8 - (k + 1)) (x / 2) := by
          rw [show (x / 2) = stp x by unfold stp; simp [h0]]; exact hs
        have HS : Hid (E = steps (8 - (k + 1)) (x / 2)) := hs'
        clear hs'
        clear hs
        go_wp2
        go_roundw
        case rel => exact ⟨k + 1, x / 2, by go_num, by go_num, by omega, by omega, HS, trivial⟩
        case measure => simp [intOf]; omega
      · rw [h1] at e1
        have hs' : E = steps (8 - (k + 1)) (x / 2 ^^^ 3988292384) := by
          rw [show (x / 2 ^^^ 3988292384) = stp x by unfold stp; simp [h1]]; exact hs
        have HS : Hid (E = steps (8 - (k + 1)) (x / 2 ^^^ 3988292384)) := hs'
        clear hs'
        have hlt2 : x / 2 ^^^ 3988292384 < 4294967296 := Crc.xor_lt (by omega) (by omega)
        clear hs
        go_wp2
        go_roundw
        case rel => exact ⟨k + 1, x / 2 ^^^ 3988292384, rfl, by go_num, hlt2, by omega, HS, trivial⟩
        case measure => simp [intOf]; omega
    · obtain rfl : k = 8 := by omega
      go_wp2
      go_ret
      exact ⟨congrArg (fun q : Nat => Ending.returned (.int .u32 (q : Int))) (show x = E from H.out.symm), rfl⟩

set_option maxHeartbeats 400000 in
theorem refEntry_any (r : Nat) (w : World) (hr : r < 4294967296) :
    Calls Tryd.prog 32 #[.int .i64 r] w fun e w' => e = .returned (.int .u32 (ent r)) ∧ w' = w := by
  obtain ⟨E, hE⟩ : ∃ E, E = ent r := ⟨_, rfl⟩
  rw [← hE]
  have HE : Hid (E = steps 8 r) := hE
  clear hE
  go_enter Tryd.func32, Tryd.ntmps32
  go_wp2
  go_loopw [3, 4] (fun s3 s4 wr => ∃ k x : Nat, s3 = .int .u32 x ∧ s4 = .int .i64 k ∧ x < 4294967296 ∧ k ≤ 8 ∧ Hid (E = steps (8 - k) x) ∧ wr = w) (fun _ s4 _ => 8 - (intOf s4).toNat)
  case atStart => exact ⟨0, r, rfl, rfl, hr, by omega, HE, rfl⟩
  case round =>
    obtain ⟨k, x, rfl, rfl, hx, hk, H, rfl⟩ := hrel
    by_cases hlt : k < 8
    · have e1 : (x : Int) % 2 = ((x % 2 : Nat) : Int) := by omega
      have e2 := xorP (r := x / 2) (by omega)
      have e3 : ((x / 2 : Nat) : Int) = (x : Int) / 2 := by omega
      rw [e3] at e2
      have hs : E = steps (8 - (k + 1)) (stp x) := by
        rw [H.out, ← steps_one]
        congr 1
        omega
      rcases Nat.mod_two_eq_zero_or_one x with h0 | h1
      · rw [h0] at e1
        have hs' : E = steps (8 - (k + 1)) (x / 2) := by
          rw [show (x / 2) = stp x by unfold stp; simp [h0]]; exact hs
        have HS : Hid (E = steps (8 - (k + 1)) (x / 2)) := hs'
        clear hs'
        clear hs
        go_wp2
        go_roundw
        case rel => exact ⟨k + 1, x / 2, by go_num, by go_num, by omega, by omega, HS, trivial⟩
        case measure => simp [intOf]; omega
      · rw [h1] at e1
        have hs' : E = steps (8 - (k + 1)) (x / 2 ^^^ 3988292384) := by
          rw [show (x / 2 ^^^ 3988292384) = stp x by unfold stp; simp [h1]]; exact hs
        have HS : Hid (E = steps (8 - (k + 1)) (x / 2 ^^^ 3988292384)) := hs'
        clear hs'
        have hlt2 : x / 2 ^^^ 3988292384 < 4294967296 := Crc.xor_lt (by omega) (by omega)
        clear hs
        go_wp2
        go_roundw
        case rel => exact ⟨k + 1, x / 2 ^^^ 3988292384, rfl, by go_num, hlt2, by omega, HS, trivial⟩
        case measure => simp [intOf]; omega
    · obtain rfl : k = 8 := by omega
      go_wp2
      go_ret
      exact ⟨congrArg (fun q : Nat => Ending.returned (.int .u32 (q : Int))) (show x = E from H.out.symm), rfl⟩
end Go.Proofs.YthghodmjpdooaaaDoor

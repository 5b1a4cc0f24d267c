/- The walks of the smallest functions of frames: headOf, number, bodySize, the reference's head. -/
import Derived.Test.YtmhgjilpgbkaaaaFrmPure
namespace Go.Proofs.Ytmhgjilpgbkaaaa
set_option linter.unusedVariables false
open Go.RowKit Go.Maps
open Lz (g)
open Frm

theorem xor8 {a b : Int} (ha : 0 ≤ a ∧ a ≤ 255) (hb : 0 ≤ b ∧ b ≤ 255) : bits .xor .u8 a b = x8 a b := by
  obtain ⟨x, rfl⟩ : ∃ x : Nat, a = (x : Int) := ⟨a.toNat, by omega⟩
  obtain ⟨y, rfl⟩ : ∃ y : Nat, b = (y : Int) := ⟨b.toNat, by omega⟩
  rw [u8_xor_nat x y (by omega) (by omega)]; rfl
theorem hd_bits {n : Int} (hn : 0 ≤ n ∧ n ≤ 65535) : [n % 256, n / 256, (255 - bits .xor .u8 (n % 256) (n / 256)) % 256] = hd n := by
  have e : n / 256 % 256 = n / 256 := by omega
  rw [xor8 (by omega) (by omega)]
  unfold hd
  rw [e]
  have := x8_bd (a := n % 256) (b := n / 256) (by omega) (by omega)
  rw [show (255 - x8 (n % 256) (n / 256)) % 256 = 255 - x8 (n % 256) (n / 256) by omega]
/-- A head as the program has it. -/
def hv (n : Int) : Value := .agg (bv (hd n)).toArray
theorem infoHead : (Try.prog.info? 109).map (fun i => (i.zero, i.size)) = some (some (.agg #[.int .u8 0, .int .u8 0, .int .u8 0]), 3) := by kernel_rfl
set_option maxRecDepth 100000 in
theorem headOf_any (n : Int) (w : World) (hn : 0 ≤ n ∧ n ≤ 65535) :
    Calls Try.prog 73 #[.int .i64 n] w fun e w' => e = .returned (hv n) ∧ Below w.heap.size w w' := by
  have H : Hid (∀ x y z, x = n % 256 → y = n / 256 → z = (255 - bits .xor .u8 (n % 256) (n / 256)) % 256 → Value.agg #[.int .u8 x, .int .u8 y, .int .u8 z] = hv n) := by
    rintro x y z rfl rfl rfl
    unfold hv; rw [← hd_bits hn]; rfl
  obtain ⟨hz, hi'⟩ := zero_of_info infoHead
  go_enter Try.func73, Try.ntmps73
  go_wp2
  refine bodyPost_ret (v := hv n) ?_ rfl ⟨rfl, (Below.refl _ _).alloc (Nat.le_refl _) _⟩
  rw [← H.out _ _ _ rfl rfl rfl]
  exact results_cell_row rfl _ _ w.heap.size 109 _ (0, 0) _ rfl (heap_alloc_new w _) Try.underlying109 rfl hi'
theorem headOf_at (n a b c : Int) (w : World) (hn : 0 ≤ n ∧ n ≤ 65535) (h : hd n = [a, b, c]) :
    Calls Try.prog 73 #[.int .i64 n] w fun e w' => e = .returned (.agg #[.int .u8 a, .int .u8 b, .int .u8 c]) ∧ Below w.heap.size w w' := by
  refine (headOf_any n w hn).mono ?_
  rintro r w' ⟨rfl, hb⟩
  exact ⟨by unfold hv; rw [h]; rfl, hb⟩
set_option maxRecDepth 100000 in
theorem refHead_any (n : Int) (w : World) (hn : 0 ≤ n ∧ n ≤ 65535) :
    Calls Try.prog 91 #[.int .i64 n] w fun e w' => e = .returned (.slice (some ⟨w.heap.size, 0, none⟩) 3 3) ∧ Bs w' (some ⟨w.heap.size, 0, none⟩) 3 (hd n) ∧ Below w.heap.size w w' := by
  have H : Hid (∀ x y z, x = n % 256 → y = n / 256 → z = (255 - bits .xor .u8 (n % 256) (n / 256)) % 256 → Bs (w.alloc (.cells #[.int .u8 x, .int .u8 y, .int .u8 z] 5)) (some ⟨w.heap.size, 0, none⟩) 3 (hd n)) := by
    rintro x y z rfl rfl rfl
    rw [← hd_bits hn]
    refine bs_new w (0, 0) _ ?_
    rw [hd_bits hn]; exact hd_bytes n
  go_enter Try.func91, Try.ntmps91
  go_wp2
  go_ret
  exact ⟨rfl, H.out _ _ _ rfl rfl rfl, (Below.refl _ _).alloc (Nat.le_refl _) _⟩
set_option maxRecDepth 100000 in
theorem number_any (a b c : Int) (w : World) (ha : 0 ≤ a ∧ a ≤ 255) (hb : 0 ≤ b ∧ b ≤ 255) :
    Calls Try.prog 96 #[.agg #[.int .u8 a, .int .u8 b, .int .u8 c]] w fun e w' => e = .returned (.int .i64 (a + 256 * b)) ∧ Below w.heap.size w w' := by
  go_enter Try.func96, Try.ntmps96
  go_wp2
  go_ret
  exact ⟨ret_int (by omega), (Below.refl _ _).alloc (Nat.le_refl _) _⟩
set_option maxRecDepth 100000 in
theorem bodySize_any (n : Int) (w : World) (hn : 0 ≤ n ∧ n ≤ 65535) :
    Calls Try.prog 97 #[.int .i64 n] w fun e w' => e = .returned (.tuple #[.int .i64 (bsz n).1, .bool (bsz n).2]) ∧ w' = w := by
  by_cases h0 : n = 0
  · subst h0
    go_enter Try.func97, Try.ntmps97
    go_wp2
    go_ret2
    exact ⟨rfl, rfl⟩
  have t : n.tmod 32768 = n % 32768 := Int.tmod_eq_emod_of_nonneg hn.1
  obtain ⟨s, hs⟩ : ∃ s, s = n % 32768 := ⟨_, rfl⟩
  have hs0 : 0 ≤ s := by omega
  have HS : Hid (s = n % 32768) := hs
  rw [← hs] at t
  have hs1 : s ≤ 40000 := by omega
  clear hs
  by_cases h1 : s < 1 ∨ 128 < s
  · have e : bsz n = (0, false) := by unfold bsz; rw [if_neg h0, if_pos (by rw [← HS.out]; exact h1)]
    rw [e]
    clear e
    rcases h1 with h1 | h1
    all_goals
      go_enter Try.func97, Try.ntmps97
      go_wp2
      go_ret2
      exact ⟨rfl, rfl⟩
  · have e : bsz n = (4 + s, true) := by unfold bsz; rw [if_neg h0, if_neg (by rw [← HS.out]; exact h1), ← HS.out]
    rw [e]
    clear e
    have h2 : 1 ≤ s := by omega
    have h3 : s ≤ 128 := by omega
    clear h1
    go_enter Try.func97, Try.ntmps97
    go_wp2
    go_ret2
    exact ⟨rfl, rfl⟩
end Go.Proofs.Ytmhgjilpgbkaaaa

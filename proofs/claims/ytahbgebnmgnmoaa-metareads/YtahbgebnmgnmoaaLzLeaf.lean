/- The leaves of layer 1 (lz): what likewise, trio, the reference's like, and few do, called by themselves. -/
import Derived.Test.YtahbgebnmgnmoaaRows
import Derived.Test.YtahbgebnmgnmoaaLzChain
import Derived.WalkKit
import Derived.WalkSpells
import Derived.WalkLawsBesides
import Derived.BigQuiet
import Derived.Deep.QuietTactic
namespace Go.Proofs.Ytahbgebnmgnmoaa
open Go.RowKit
open Lz (g lk)




set_option maxHeartbeats 400000 in
theorem likewise_any (b off len cap p a m : Nat) (zs : List Int) (w : World) (hz : zs.length = len) (hs : Seg w b off zs) (hp : p + m ≤ len) (ha : a + m ≤ len) (hl : len ≤ 1000000) :
    Calls Try.prog 70 #[.slice (some ⟨b, off, none⟩) len cap, .int .i64 p, .int .i64 a, .int .i64 m] w fun e w' => e = .returned (.int .i64 (lk zs p a m)) ∧ ∃ n, w' = w.drewN n := by
  go_enter Try.func70, Try.ntmps70
  go_wp2
  go_loopw [9] (fun i wr => ∃ k : Nat, k ≤ m ∧ i = .int .i64 k ∧ (∀ j, j < k → g zs (p + j) = g zs (a + j)) ∧ ∃ n, wr = w.drewN n) (fun i _ => m - (intOf i).toNat)
  case atStart => exact ⟨0, Nat.zero_le _, rfl, fun j hj => by omega, 0, rfl⟩
  case round =>
    obtain ⟨k, hk, rfl, heq, n, rfl⟩ := hrel
    by_cases hlt : k < m
    · have hd : decide ((k : Int) < (m : Int)) = true := by simp; omega
      have c1 := hs (p + k) (by omega)
      have c2 := hs (a + k) (by omega)
      have i1 : (0 : Int) ≤ (p : Int) + k := by omega
      have i2 : (p : Int) + k < len := by omega
      have i3 : (0 : Int) ≤ (a : Int) + k := by omega
      have i4 : (a : Int) + k < len := by omega
      have H : Hid (∀ j, j < k → g zs (p + j) = g zs (a + j)) := heq
      clear heq
      go_wp2
      go_quiet (fail)
      go_wp2
      · have he : (g zs (p + k) == g zs (a + k)) = true := by assumption
        go_roundw
        case rel =>
          refine ⟨k + 1, by omega, by go_num, fun j hj => ?_, _, rfl⟩
          by_cases hjk : j < k
          · exact H.out j hjk
          · rw [show j = k by omega]; exact beq_iff_eq.1 he
        case measure => simp [intOf]; omega
      · have he : (g zs (p + k) == g zs (a + k)) = false := by assumption
        go_ret
        exact ⟨ret_nat (Lz.lk_unique zs p a m k hk H.out (fun _ => beq_eq_false_iff_ne.1 he)).symm, dr2 _ _ _⟩
    · have hd : decide ((k : Int) < (m : Int)) = false := by simp; omega
      have H : Hid (∀ j, j < k → g zs (p + j) = g zs (a + j)) := heq
      clear heq
      go_wp2
      go_quiet (fail)
      go_wp2
      go_ret
      exact ⟨ret_nat (Lz.lk_unique zs p a m k hk H.out (fun h => absurd h hlt)).symm, dr2 _ _ _⟩

set_option maxRecDepth 100000 in
set_option maxHeartbeats 400000 in
theorem like_any (b off len cap a j : Nat) (zs : List Int) (w : World) (hz : zs.length = len) (hs : Seg w b off zs) (hj1 : 1 ≤ j) (hj : j ≤ a) (ha : a < len) (hl : len ≤ 1000000) :
    Calls Try.prog 65 #[.slice (some ⟨b, off, none⟩) len cap, .int .i64 a, .int .i64 j] w fun e w' => e = .returned (.int .i64 (Lz.lb zs a j)) ∧ ∃ n, w' = w.drewN n := by
  obtain ⟨m, hm⟩ : ∃ m, m = Lz.most zs a := ⟨_, rfl⟩
  have hmm : m = min 130 (len - a) := by rw [hm, Lz.most, hz]
  have hfin : ∀ k, k ≤ m → (∀ i, i < k → g zs (a - j + i) = g zs (a + i)) → (k < m → g zs (a - j + k) ≠ g zs (a + k)) → k = Lz.lb zs a j := fun k h1 h2 h3 => by
    unfold Lz.lb; rw [← hm]; exact (Lz.lk_unique zs (a - j) a m k h1 h2 h3).symm
  have HF : Hid (∀ k, k ≤ m → (∀ i, i < k → g zs (a - j + i) = g zs (a + i)) → (k < m → g zs (a - j + k) ≠ g zs (a + k)) → k = Lz.lb zs a j) := hfin
  have hm1 : m ≤ 130 := by omega
  have hm2 : a + m ≤ len := by omega
  have HM : Hid (m = min 130 (len - a)) := hmm
  clear hfin hm hmm
  go_enter Try.func65, Try.ntmps65
  go_wp2
  go_loopw [7] (fun i wr => ∃ k : Nat, k ≤ m ∧ i = .int .i64 k ∧ (∀ i, i < k → g zs (a - j + i) = g zs (a + i)) ∧ ∃ n, wr = w.drewN n) (fun i _ => m - (intOf i).toNat)
  case atStart => exact ⟨0, Nat.zero_le _, rfl, fun j hj => by omega, 0, rfl⟩
  case round =>
    obtain ⟨k, hk, rfl, heq, n, rfl⟩ := hrel
    have H : Hid (∀ i, i < k → g zs (a - j + i) = g zs (a + i)) := heq
    clear heq
    by_cases hlt : k < m
    · have hd : decide ((k : Int) < 130) = true := by simp; omega
      have hd2 : decide ((a : Int) + k < (len : Int)) = true := by simp; omega
      have c1 := hs (a - j + k) (by omega)
      have c2 := hs (a + k) (by omega)
      have i1 : (0 : Int) ≤ (a : Int) + k - j := by omega
      have i2 : (a : Int) + k - j < len := by omega
      have i3 : (0 : Int) ≤ (a : Int) + k := by omega
      have i4 : (a : Int) + k < len := by omega
      have i5 : ((a : Int) + k - j).toNat = a - j + k := by omega
      go_wp2
      go_quiet (fail)
      go_wp2
      · have he : (g zs (a + k) == g zs (a - j + k)) = true := by assumption
        go_roundw
        case rel =>
          refine ⟨k + 1, by omega, by go_num, fun i hi => ?_, _, rfl⟩
          by_cases hjk : i < k
          · exact H.out i hjk
          · rw [show i = k by omega]; exact (beq_iff_eq.1 he).symm
        case measure => simp [intOf]; omega
      · have he : (g zs (a + k) == g zs (a - j + k)) = false := by assumption
        go_ret
        exact ⟨ret_nat (HF.out k hk H.out (fun _ => (beq_eq_false_iff_ne.1 he).symm)), dr2 _ _ _⟩
    · have hM := HM.out
      by_cases h130 : k < 130
      · have hd : decide ((k : Int) < 130) = true := by simp; omega
        have hd2 : decide ((a : Int) + k < (len : Int)) = false := by simp; omega
        clear hM
        go_wp2
        go_quiet (fail)
        go_wp2
        go_ret
        exact ⟨ret_nat (HF.out k hk H.out (fun h => absurd h hlt)), dr2 _ _ _⟩
      · have hd : decide ((k : Int) < 130) = false := by simp; omega
        clear hM
        go_wp2
        go_quiet (fail)
        go_wp2
        go_ret
        exact ⟨ret_nat (HF.out k hk H.out (fun h => absurd h hlt)), dr2 _ _ _⟩

theorem or_nat (A B M i : Nat) (hM : 2 ^ i = M) (h2 : A < M) (h4 : B * M + M ≤ 4294967296) : bits .or .i64 (A : Int) ((B * M : Nat) : Int) = ((A + B * M : Nat) : Int) := by
  have hor : A ||| B * M = A + B * M := by
    rw [← hM, Nat.or_comm, Nat.mul_comm, ← Nat.two_pow_add_eq_or_of_lt (by omega) B, Nat.add_comm]
  have hs : A + B * M < 4294967296 := by omega
  show IntKind.i64.wrap ((BitVec.ofInt 64 (A : Int) ||| BitVec.ofInt 64 ((B * M : Nat) : Int)).toNat : Int) = _
  rw [BitVec.toNat_or, BitVec.ofInt_natCast, BitVec.ofInt_natCast, BitVec.toNat_ofNat, BitVec.toNat_ofNat, Nat.mod_eq_of_lt (by omega), Nat.mod_eq_of_lt (by omega), hor]
  generalize A + B * M = C at *
  rw [IntKind.wrap_i64]
  omega
theorem or_256 (a b : Int) (h1 : 0 ≤ a) (h2 : a < 256) (h3 : 0 ≤ b) (h4 : b < 256) : bits .or .i64 a (b * 256) = a + b * 256 := by
  obtain ⟨A, rfl⟩ := Int.eq_ofNat_of_zero_le h1
  obtain ⟨B, rfl⟩ := Int.eq_ofNat_of_zero_le h3
  have := or_nat A B 256 8 rfl (by omega) (by omega)
  rw [show ((B * 256 : Nat) : Int) = (B : Int) * 256 by omega] at this
  rw [this]; omega
theorem or_65536 (a b : Int) (h1 : 0 ≤ a) (h2 : a < 65536) (h3 : 0 ≤ b) (h4 : b < 256) : bits .or .i64 a (b * 65536) = a + b * 65536 := by
  obtain ⟨A, rfl⟩ := Int.eq_ofNat_of_zero_le h1
  obtain ⟨B, rfl⟩ := Int.eq_ofNat_of_zero_le h3
  have := or_nat A B 65536 16 rfl (by omega) (by omega)
  rw [show ((B * 65536 : Nat) : Int) = (B : Int) * 65536 by omega] at this
  rw [this]; omega

set_option maxHeartbeats 400000 in
theorem trio_any (b off len cap a : Nat) (zs : List Int) (w : World) (hz : zs.length = len) (hs : Seg w b off zs) (ha : a + 3 ≤ len) (hl : len ≤ 1000000) (hb : ∀ i, i < len → 0 ≤ g zs i ∧ g zs i ≤ 255) :
    Calls Try.prog 69 #[.slice (some ⟨b, off, none⟩) len cap, .int .i64 a] w fun e w' => e = .returned (.int .i64 (Lz.key zs a)) ∧ ∃ n, w' = w.drewN n := by
  unfold Lz.key
  have c1 := hs a (by omega)
  have c2 := hs (a + 1) (by omega)
  have c3 := hs (a + 2) (by omega)
  have i2 : (a : Int) + 2 < len := by omega
  obtain ⟨b1, b2⟩ := hb a (by omega)
  obtain ⟨b3, b4⟩ := hb (a + 1) (by omega)
  obtain ⟨b5, b6⟩ := hb (a + 2) (by omega)
  clear hs hb
  go_enter Try.func69, Try.ntmps69
  go_wp2
  go_quiet (fail)
  go_wp2
  go_ret
  refine ⟨?_, _, rfl⟩
  show Ending.returned (.int .i64 (bits BinOp.or IntKind.i64 (bits BinOp.or IntKind.i64 (g zs a) (g zs (a + 1) * 256)) (g zs (a + 2) * 65536))) = _
  rw [or_256 (g zs a) (g zs (a + 1)) b1 (by omega) b3 (by omega), or_65536 (g zs a + g zs (a + 1) * 256) (g zs (a + 2)) (by omega) (by omega) b5 (by omega)]
  exact ret_int (by omega)

end Go.Proofs.Ytahbgebnmgnmoaa

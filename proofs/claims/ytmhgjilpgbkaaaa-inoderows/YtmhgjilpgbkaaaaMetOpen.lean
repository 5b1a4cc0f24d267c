/- The walk of Open. -/
import Derived.Test.YtmhgjilpgbkaaaaMetReader
namespace Go.Proofs.Ytmhgjilpgbkaaaa
set_option linter.unusedVariables false
open Go.RowKit Go.Maps
open Lz (g)
open Crc (ent)
open Frm Mtr

/-- A reader of places that may not be. -/
def Rx (w : World) (p : Nat) : Prop := p < w.heap.size ∧ w.cell? ⟨p, 1, none⟩ = some (.bool false)
theorem Rx.below {w w' : World} {p : Nat} (h : Rx w p) (hb : Below w.heap.size w w') : Rx w' p := ⟨Nat.lt_of_lt_of_le h.1 hb.size, (hb.cell (p := ⟨p, 1, none⟩) h.1).trans h.2⟩

theorem cells0 : Try.zeroCells79 = rcs (.pointer none) (.bool false) (.slice none 0 0) (.map none) := by kernel_rfl
theorem cells4 (tb m n c : Nat) (ao : Option Addr) : ((((Try.zeroCells79.setIfInBounds 0 (.pointer (some ⟨tb, 0, none⟩))).setIfInBounds 1 (.bool true)).setIfInBounds 2 (.slice ao n c)).setIfInBounds 3 (.map (some m))) = rcs (.pointer (some ⟨tb, 0, none⟩)) (.bool true) (.slice ao n c) (.map (some m)) := by kernel_rfl
theorem open_not (w : World) : Rx (w.alloc (.cells (rcs (.pointer none) (.bool false) (.slice none 0 0) (.map none)) 79)) w.heap.size :=
  ⟨by simp, by rw [cell_of_row _ _ 1 _ _ _ (heap_alloc_new w _)]; simp [rcs]⟩
theorem open_rd {w w1 : World} {tb n c : Nat} {ao : Option Addr} {X : List Int} {T : Nat → Nat} (hA : Rw w1 w.heap.size ao n c X) (hb : Below w.heap.size w w1) (hn : n ≤ 1000000) :
    RdM ((w1.alloc (.map #[] 0)).alloc (.cells (rcs (.pointer (some ⟨tb, 0, none⟩)) (.bool true) (.slice ao n c) (.map (some w1.heap.size))) 79)) (w1.heap.size + 1) (fun k => w.heap.size ≤ k ∧ k < ((w1.alloc (.map #[] 0)).alloc (.cells (rcs (.pointer (some ⟨tb, 0, none⟩)) (.bool true) (.slice ao n c) (.map (some w1.heap.size))) 79)).heap.size) tb T X 0 := by
  have hs : (w1.alloc (.map #[] 0)).heap.size = w1.heap.size + 1 := by simp
  have hh := heap_alloc_new (w1.alloc (.map #[] 0)) (.cells (rcs (.pointer (some ⟨tb, 0, none⟩)) (.bool true) (.slice ao n c) (.map (some w1.heap.size))) 79)
  rw [hs] at hh
  have hm := hA.2.2.2.1
  unfold maxLen at hm
  have hsz := hb.size
  refine ⟨ao, n, c, w1.heap.size, fun _ => 0, .map [], ⟨⟨⟨_, hh⟩, ?_, ?_, ?_, ?_, fun j v hv => ?_⟩, ⟨by omega, by simp⟩, ⟨hsz, by simp; omega⟩, (hA.bs.alloc _).alloc _, hA.2.2.1, by omega, hA.nil, fun a ha => ?_, (World.ownsMap_made w1 _ _ _).alloc _, .inl rfl, fun k hk => hk.2, fun q hq => by simp [has] at hq⟩⟩
  · rw [cell_of_row _ _ 0 _ _ _ hh]; simp [rcs]
  · rw [cell_of_row _ _ 1 _ _ _ hh]; simp [rcs]
  · rw [cell_of_row _ _ 2 _ _ _ hh]; simp [rcs]
  · rw [cell_of_row _ _ 3 _ _ _ hh]; simp [rcs]
  · rw [cell_of_row _ _ (4 + j) _ _ _ hh]; exact rcs_tab _ _ _ _ j v hv
  · obtain ⟨h1, h2, _⟩ := hA.own (k := a.block) (by rw [ha]; rfl)
    exact ⟨⟨h1, by simp; omega⟩, by omega, by omega⟩

set_option maxRecDepth 100000 in
set_option maxHeartbeats 400000 in
theorem Open_any (tb n c : Nat) (ao : Option Addr) (zs : List Int) (T : Nat → Nat) (w : World) (a b : Int) (hb : Bs w ao n zs) (hc : n ≤ c) (hcm : c ≤ 9223372036854775807) (hnil : ao = none → c = 0) (hn : n ≤ 1000000)
    (ha : -9223372036854775808 ≤ a ∧ a ≤ 9223372036854775807) (hb' : -9223372036854775808 ≤ b ∧ b ≤ 9223372036854775807) (h : 0 ≤ a ∧ a ≤ b ∧ b ≤ n) :
    Calls Try.prog 17 #[.pointer (some ⟨tb, 0, none⟩), .slice ao n c, .int .i64 a, .int .i64 b] w fun r w' => ∃ p, r = .returned (.pointer (some ⟨p, 0, none⟩)) ∧ RdM w' p (fun k => w.heap.size ≤ k ∧ k < w'.heap.size) tb T ((zs.take b.toNat).drop a.toNat) 0 ∧ Below w.heap.size w w' := by
  obtain ⟨i, rfl⟩ : ∃ i : Nat, a = i := ⟨a.toNat, by omega⟩
  obtain ⟨j, rfl⟩ : ∃ j : Nat, b = j := ⟨b.toNat, by omega⟩
  have hij : i ≤ j := by omega
  have hjn : j ≤ n := by omega
  have g1 : ((i : Int) < 0) = False := by simp
  have g2 : decide ((n : Int) < (j : Int)) = false := by simp; omega
  have g3 : decide ((j : Int) < (i : Int)) = false := by simp; omega
  have g4 : (i : Int) ≤ (j : Int) := by omega
  have g5 : (j : Int) ≤ (c : Int) := by omega
  have hmm := @run_makeMap Try.prog
  have hcut : Bs w (if c = i then ao else Option.map (fun x => x.add i) ao) (j - i) ((zs.take j).drop i) := by
    have h1 := (hb.take j hjn).toB
    exact (h1.rest i hij (by omega)).bs (Nat.le_refl _)
  have hnil2 : (if c = i then ao else Option.map (fun x => x.add i) ao) = none → c - i = 0 := by
    intro e
    by_cases e1 : c = i
    · omega
    · rw [if_neg e1] at e
      have := hnil (by simpa using e)
      omega
  have HC := hide (CloneRw_any (j - i) (c - i) _ ((zs.take j).drop i) w hcut (by omega) hnil2 (by omega))
  have HL := hide hcut.1
  clear hcut hnil2 hb
  simp only [Int.toNat_natCast]
  generalize (zs.take j).drop i = X at *
  by_cases e : c = i
  · subst e
    rw [if_pos rfl, Nat.sub_self] at HC
    go_enter Try.func17, Try.ntmps17
    go_wp2_with fail
    refine HC.out.mono ?_
    rintro r w1 ⟨ao1, k1, rfl, hA, hb1⟩
    have HA := hide hA
    have HB1 := hide hb1
    clear hA hb1 HC
    go_wp2
    go_ret
    refine ⟨w1.heap.size + 1, by simp, ?_, ?_⟩
    · rw [cells4]; exact open_rd HA.out HB1.out (by omega)
    · exact (HB1.out.alloc HB1.out.size _).alloc (Nat.le_trans HB1.out.size (by simp)) _
  · rw [if_neg e] at HC
    go_enter Try.func17, Try.ntmps17
    go_wp2_with fail
    refine HC.out.mono ?_
    rintro r w1 ⟨ao1, k1, rfl, hA, hb1⟩
    have HA := hide hA
    have HB1 := hide hb1
    clear hA hb1 HC
    go_wp2
    go_ret
    refine ⟨w1.heap.size + 1, by simp, ?_, ?_⟩
    · rw [cells4]; exact open_rd HA.out HB1.out (by omega)
    · exact (HB1.out.alloc HB1.out.size _).alloc (Nat.le_trans HB1.out.size (by simp)) _

set_option maxRecDepth 100000 in
theorem OpenNot_any (tb n c : Nat) (ao : Option Addr) (w : World) (a b : Int) (hc : n ≤ c) (hcm : c ≤ 9223372036854775807)
    (ha : -9223372036854775808 ≤ a ∧ a ≤ 9223372036854775807) (hb' : -9223372036854775808 ≤ b ∧ b ≤ 9223372036854775807) (h : ¬ (0 ≤ a ∧ a ≤ b ∧ b ≤ n)) :
    Calls Try.prog 17 #[.pointer (some ⟨tb, 0, none⟩), .slice ao n c, .int .i64 a, .int .i64 b] w fun r w' => ∃ p, r = .returned (.pointer (some ⟨p, 0, none⟩)) ∧ w.heap.size ≤ p ∧ Rx w' p ∧ Below w.heap.size w w' := by
  have hq : a < 0 ∨ (0 ≤ a ∧ (n : Int) < b) ∨ (0 ≤ a ∧ b ≤ n ∧ b < a) := by omega
  rcases hq with h1 | ⟨h1, h2⟩ | ⟨h1, h2, h3⟩
  · go_enter Try.func17, Try.ntmps17
    go_wp2
    go_ret
    exact ⟨w.heap.size, rfl, Nat.le_refl _, by rw [cells0]; exact open_not w, (Below.refl _ _).alloc (Nat.le_refl _) _⟩
  · have e1 : decide (a < 0) = false := by simp; omega
    go_enter Try.func17, Try.ntmps17
    go_wp2
    go_ret
    exact ⟨w.heap.size, rfl, Nat.le_refl _, by rw [cells0]; exact open_not w, (Below.refl _ _).alloc (Nat.le_refl _) _⟩
  · have e1 : decide (a < 0) = false := by simp; omega
    have e2 : decide ((n : Int) < b) = false := by simp; omega
    go_enter Try.func17, Try.ntmps17
    go_wp2
    go_ret
    exact ⟨w.heap.size, rfl, Nat.le_refl _, by rw [cells0]; exact open_not w, (Below.refl _ _).alloc (Nat.le_refl _) _⟩
end Go.Proofs.Ytmhgjilpgbkaaaa

/- The reference's reader of rows: its state in memory, and the walks of its may and holds. -/
import Derived.Test.YtgkclldiphcogaaMetCut
import Derived.Test.YtgkclldiphcogaaMetJoin
import Derived.Test.YtgkclldiphcogaaFrmRefTake
import Derived.Deep.RegionHeld3
namespace Go.Proofs.Ytgkclldiphcogaa
set_option linter.unusedVariables false
open Go.RowKit Go.Maps
open Lz (g)
open Crc (ent)
open Frm Mtr

/-- The reference's reader, of the image Im from a to b. -/
structure RdY (w : World) (y : Nat) (Im : List Int) (a b : Int) (ao : Option Addr) (n c : Nat) : Prop where
  hp : w.heap[y]? = some (.cells #[.slice ao n c, .int .i64 a, .int .i64 b] 46 (0, 0))
  bs : Bs w ao n Im
  cap : n ≤ c
  max : c ≤ 9223372036854775807
  nil : ao = none → c = 0
  lit : n ≤ 100000
section
variable {w w' : World} {y n c : Nat} {Im : List Int} {a b : Int} {ao : Option Addr}
theorem RdY.lt (h : RdY w y Im a b ao n c) : y < w.heap.size := heap_lt h.hp
theorem RdY.c0 (h : RdY w y Im a b ao n c) : w.cell? ⟨y, 0, none⟩ = some (.slice ao n c) := by have := h.hp; simp [World.cell?, this]
theorem RdY.c1 (h : RdY w y Im a b ao n c) : w.cell? ⟨y, 1, none⟩ = some (.int .i64 a) := by have := h.hp; simp [World.cell?, this]
theorem RdY.c2 (h : RdY w y Im a b ao n c) : w.cell? ⟨y, 2, none⟩ = some (.int .i64 b) := by have := h.hp; simp [World.cell?, this]
theorem RdY.below (h : RdY w y Im a b ao n c) (hb : Below w.heap.size w w') : RdY w' y Im a b ao n c := ⟨(hb.block y h.lt).trans h.hp, h.bs.below hb, h.cap, h.max, h.nil, h.lit⟩
theorem RdY.fr {S : Nat → Prop} (h : RdY w y Im a b ao n c) (hf : Fr S w w') (h1 : ¬ S y) (h2 : ∀ x, ao = some x → 0 < n → ¬ S x.block) : RdY w' y Im a b ao n c := ⟨(hf.block y h.lt h1).trans h.hp, h.bs.fr hf h2, h.cap, h.max, h.nil, h.lit⟩
end

set_option maxRecDepth 100000 in
theorem yMay_any (y n c : Nat) (Im : List Int) (a b : Int) (ao : Option Addr) (w : World) (h : RdY w y Im a b ao n c) (ha : -9223372036854775808 ≤ a ∧ a ≤ 9223372036854775807) (hb : -9223372036854775808 ≤ b ∧ b ≤ 9223372036854775807) (ok : Bool) (hok : ok = decide (0 ≤ a ∧ b ≤ n ∧ a ≤ b)) :
    Calls Try.prog 72 #[.pointer (some ⟨y, 0, none⟩)] w fun r w' => r = .returned (.bool ok) ∧ Below w.heap.size w w' := by
  have c0 := h.c0
  have c1 := h.c1
  have c2 := h.c2
  have HB : Hid (∀ nq, Below w.heap.size w (w.drewN nq)) := fun nq => below_drewN (Below.refl _ _) nq
  clear h
  by_cases h1 : 0 ≤ a
  · by_cases h2 : b ≤ (n : Int)
    · by_cases h3 : a ≤ b
      · obtain rfl : ok = true := by rw [hok]; simp [h1, h2, h3]
        clear hok
        go_enter Try.func72, Try.ntmps72
        go_wp2_with fail
        go_quiet (fail)
        go_wp2
        go_ret
        exact ⟨rfl, HB.out _⟩
      · obtain rfl : ok = false := by rw [hok]; simp [h3]
        clear hok
        have e3 : decide (a ≤ b) = false := by simp; omega
        go_enter Try.func72, Try.ntmps72
        go_wp2_with fail
        go_quiet (fail)
        go_wp2
        go_ret
        exact ⟨rfl, HB.out _⟩
    · obtain rfl : ok = false := by rw [hok]; simp [h2]
      clear hok
      have e3 : decide (b ≤ (n : Int)) = false := by simp; omega
      go_enter Try.func72, Try.ntmps72
      go_wp2_with fail
      go_quiet (fail)
      go_wp2
      go_ret
      exact ⟨rfl, HB.out _⟩
  · obtain rfl : ok = false := by rw [hok]; simp [h1]
    clear hok
    have e3 : decide (0 ≤ a) = false := by simp; omega
    go_enter Try.func72, Try.ntmps72
    go_wp2_with fail
    go_quiet (fail)
    go_wp2
    go_ret
    exact ⟨rfl, HB.out _⟩

/-- What holds answers. -/
def Holds (w w' : World) (X : List Int) (k : Int) (r : Ending) : Prop :=
  ∃ ao m c, (hold X k).1.length = m ∧ r = .returned (.tuple #[.slice ao m c, .int .i64 (hold X k).2.1, .int .i64 (hold X k).2.2]) ∧ Bs w' ao m (hold X k).1 ∧ m ≤ c ∧ (ao = none → c = 0) ∧ Below w.heap.size w w'
theorem Holds.none' {w w' : World} {X : List Int} {k : Int} (h : hold X k = ([], 0, 2)) (hb : Below w.heap.size w w') : Holds w w' X k (.returned (.tuple #[.slice none 0 0, .int .i64 0, .int .i64 2])) := by
  refine ⟨none, 0, 0, by rw [h]; rfl, by rw [h], ?_, Nat.le_refl _, fun _ => rfl, hb⟩
  rw [h]; exact ⟨rfl, fun i => by simp [g], .inl rfl⟩

set_option maxRecDepth 100000 in
set_option maxHeartbeats 400000 in
theorem yHolds_any (y n c k a b : Nat) (Im : List Int) (ao : Option Addr) (w : World) (h : RdY w y Im a b ao n c) (hab : a ≤ b) (hbn : b ≤ n) (hk : (k : Int) ≤ 9223372036854775807) :
    Calls Try.prog 73 #[.pointer (some ⟨y, 0, none⟩), .int .i64 k] w fun r w' => Holds w w' ((Im.take b).drop a) k r := by
  have c0 := h.c0
  have c1 := h.c1
  have c2 := h.c2
  have hn1 := h.lit
  have hyl := h.lt
  have himl := h.bs.1
  have hXl := cut_length (Im := Im) (a := a) (b := b) (by omega)
  have HH := hide h
  by_cases h1 : b - a < k
  · have e1 : (b : Int) - (a : Int) < (k : Int) := by omega
    have HX := hide (fun nq => Holds.none' (w := w) (w' := w.drewN nq) (hold_far (X := (Im.take b).drop a) (k := k) (by omega)) (below_drewN (Below.refl _ _) nq))
    clear h HH
    go_enter Try.func73, Try.ntmps73
    go_wp2_with fail
    go_quiet (fail)
    go_wp2
    go_ret3
    exact HX.out _
  · have e1 : (k : Int) ≤ (b : Int) - (a : Int) := by omega
    have e2 : decide ((b : Int) - (a : Int) < (k : Int)) = false := by simp; omega
    have HC := hide (hold_cut (Im := Im) (a := a) (b := b) (by omega) k)
    have HK := hide (fun nq => refTake_any n c ((a : Int) + k) ao Im ((w.drewN nq).drew) (h.bs.below ((below_drewN (Below.refl _ _) nq).drew)) h.cap h.nil h.lit h.max (by omega))
    have e3 : IntKind.i64.wrap ((a : Int) + (k : Int)) = (a : Int) + k := by rw [IntKind.wrap_i64]; omega
    have htk : ((a + k : Nat) : Int) = (a : Int) + k := by omega
    rw [htk] at HC
    have HTe := hide (take_err ent Im ((a : Int) + k))
    have HTn := hide (fun h => Mtr.take_next (T := ent) (z := Im) (at' := (a : Int) + k) h)
    unfold RTakes at HK
    generalize (Im.take b).drop a = X at *
    generalize take ent Im ((a : Int) + k) = t at *
    obtain ⟨bs, nx, er⟩ := t
    simp only at HC HK HTe HTn
    clear h HH
    go_enter Try.func73, Try.ntmps73
    go_wp2_with fail
    go_quiet (fail)
    have c0q : (w.drewN nq).cell? ⟨y, 0, none⟩ = some (.slice ao n c) := c0
    have c1q : (w.drewN nq).cell? ⟨y, 1, none⟩ = some (.int .i64 a) := c1
    go_wp2_with fail
    go_region_held3 (fun wX => wX.cell? ⟨y, 0, none⟩ = some (.slice ao n c) ∧ wX.cell? ⟨y, 1, none⟩ = some (.int .i64 a)) (go_keep)
      ((first
        | (go_at_call 91; refine (HK.out nq).mono ?_; rintro r w5 ⟨ao5, c5, rfl, hB5, hb5, hc5, hn5⟩; have hbw : Below w.heap.size w w5 := ⟨hb5.os, hb5.tape, hb5.output, hb5.size, hb5.block⟩; have d0 := (hbw.cell (p := ⟨y, 0, none⟩) hyl).trans c0; have d1 := (hbw.cell (p := ⟨y, 1, none⟩) hyl).trans c1; have d2 := (hbw.cell (p := ⟨y, 2, none⟩) hyl).trans c2; have HBw := hide hbw; have HB5 := hide hB5; have HN5 := hide hn5; clear hb5 hB5 hbw hn5)))
    obtain ⟨m, hm⟩ : ∃ m, bs.length = m := ⟨_, rfl⟩
    rw [hm] at HB5 hc5
    rw [hm]
    have HM := hide hm
    clear hm HK c0q c1q
    rcases HTe.out with h0 | h0
    · obtain rfl := h0
      obtain ⟨t1, t2, t3⟩ := HTn.out rfl
      by_cases h2 : (b : Int) < nx
      · have HX := hide (Holds.none' (w' := w5) (w := w) (X := X) (k := k) (by rw [HC.out, if_pos (.inr (.inl h2))]) HBw.out)
        clear HTe HTn
        go_wp2
        go_ret3
        exact HX.out
      · have e4 : nx ≤ (b : Int) := by omega
        have e5 : decide ((b : Int) < nx) = false := by simp; omega
        by_cases h3 : m = 0
        · subst h3
          have hbn : bs = [] := List.eq_nil_of_length_eq_zero HM.out
          have HX := hide (Holds.none' (w' := w5) (w := w) (X := X) (k := k) (by rw [HC.out, if_pos (.inr (.inr hbn))]) HBw.out)
          clear HTe HTn hbn
          go_wp2
          go_ret3
          exact HX.out
        · have e6 : ((m : Int) == 0) = false := by simp; omega
          have hne : bs ≠ [] := fun e => h3 (by rw [← HM.out, e]; rfl)
          have hh : hold X k = (bs, nx - a, 0) := by
            rw [HC.out, if_neg (fun hx => by
              rcases hx with hx | hx | hx
              · exact hx rfl
              · exact h2 hx
              · exact hne hx)]
          have HX := hide (fun nq => show Holds w (w5.drewN nq) X k (.returned (.tuple #[.slice ao5 m c5, .int .i64 (nx - a), .int .i64 0])) from
            ⟨ao5, m, c5, by rw [hh]; exact HM.out, by rw [hh], by rw [hh]; exact HB5.out.below (below_drewN (Below.refl _ _) nq), hc5, HN5.out, below_drewN HBw.out nq⟩)
          clear HTe HTn hne hh
          go_wp2_with fail
          go_quiet (fail)
          go_wp2
          go_ret3
          exact HX.out _
    · have her : er = 2 := by injection h0 with _ h; injection h
      have HX := hide (Holds.none' (w' := w5) (w := w) (X := X) (k := k) (by rw [HC.out, if_pos (.inl (by rw [her]; decide))]) HBw.out)
      subst her
      clear HTe HTn h0
      go_wp2
      go_ret3
      exact HX.out
end Go.Proofs.Ytgkclldiphcogaa

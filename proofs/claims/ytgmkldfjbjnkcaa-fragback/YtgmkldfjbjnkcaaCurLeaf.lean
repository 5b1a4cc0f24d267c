/- The walks of the smallest functions: kind, isWidth, Err, fail, Left, Len, Clone and the reference's fail. -/
import Derived.Test.YtgmkldfjbjnkcaaCurState
import Derived.Deep.RegionHeld3
namespace Go.Proofs.Ytgmkldfjbjnkcaa
set_option linter.unusedVariables false
open Go.RowKit Go.Maps
open Lz (g)
open Cur

/-- Which of m kinds. -/
def knd (c : Int) (m : Int) : Int := (if c < 0 then -(c + 1) else c) % m
theorem knd_nonneg (c m : Int) (h : 0 < m) : 0 ≤ knd c m := Int.emod_nonneg _ (by omega)
theorem knd_lt (c m : Int) (h : 0 < m) : knd c m < m := Int.emod_lt_of_pos _ h


set_option maxRecDepth 100000 in
theorem isWidth_any (n : Int) (w : World) :
    Calls Try.prog 53 #[.int .i64 n] w fun e w' => e = .returned (.bool (decide (1 ≤ n ∧ n ≤ 4))) ∧ w' = w := by
  by_cases h1 : 1 ≤ n
  · by_cases h2 : n ≤ 4
    · rw [decide_eq_true ⟨h1, h2⟩]
      go_enter Try.func53, Try.ntmps53
      go_wp2
      go_ret
      exact ⟨rfl, rfl⟩
    · rw [decide_eq_false (fun h => h2 h.2)]
      go_enter Try.func53, Try.ntmps53
      go_wp2
      go_ret
      exact ⟨rfl, rfl⟩
  · rw [decide_eq_false (fun h => h1 h.1)]
    go_enter Try.func53, Try.ntmps53
    go_wp2
    go_ret
    exact ⟨rfl, rfl⟩


/-- The first error stays; at it the bytes go. -/
def Failed (t : TypeId) (w : World) (p : Nat) (ao : Option Addr) (n c : Nat) (e k : Int) (w' : World) : Prop :=
  Fr (One p) w w' ∧ ((e = 0 ∧ Hd t w' p none 0 0 k) ∨ (e ≠ 0 ∧ w' = w))
set_option maxRecDepth 100000 in
theorem fail_any (t : TypeId) (p n c : Nat) (ao : Option Addr) (e0 k : Int) (w : World) (h : Hd t w p ao n c e0) :
    Calls Try.prog 54 #[.pointer (some ⟨p, 0, none⟩), .int .i64 k] w fun e w' => e = .returned (.tuple #[]) ∧ Failed t w p ao n c e0 k w' := by
  have h1 := h.c1
  have h0 := h.c0
  have f0 := h.f 0
  have f1 := h.f 1
  by_cases he : e0 = 0
  · subst he
    have H : Hid (Failed t w p ao n c 0 k ((w.setCell ⟨p, 0, none⟩ (.slice none 0 0)).setCell ⟨p, 1, none⟩ (.int .i64 k))) :=
      ⟨((Fr.refl (One p) w).set (p := ⟨p, 0, none⟩) _ (fun _ => rfl)).set (p := ⟨p, 1, none⟩) _ (fun _ => rfl), .inl ⟨rfl, (h.set0 none 0 0).set1 k⟩⟩
    clear h
    go_enter Try.func54, Try.ntmps54
    go_wp2
    go_end0
    exact ⟨rfl, H.out⟩
  · have H : Hid (Failed t w p ao n c e0 k w) := ⟨Fr.refl _ w, .inr ⟨he, rfl⟩⟩
    clear h
    go_enter Try.func54, Try.ntmps54
    go_wp2
    go_end0
    exact ⟨rfl, H.out⟩

set_option maxRecDepth 100000 in
theorem refFail_any (t : TypeId) (p n c : Nat) (ao : Option Addr) (e0 k : Int) (w : World) (h : Hd t w p ao n c e0) :
    Calls Try.prog 59 #[.pointer (some ⟨p, 0, none⟩), .int .i64 k] w fun e w' => e = .returned (.tuple #[]) ∧ Hd t w' p ao n c (if e0 = 0 then k else e0) ∧ Fr (One p) w w' := by
  have h1 := h.c1
  have f1 := h.f 1
  by_cases he : e0 = 0
  · subst he
    have H : Hid (Hd t (w.setCell ⟨p, 1, none⟩ (.int .i64 k)) p ao n c (if (0 : Int) = 0 then k else 0)) := h.set1 k
    have H2 : Hid (Fr (One p) w (w.setCell ⟨p, 1, none⟩ (.int .i64 k))) := (Fr.refl (One p) w).set (p := ⟨p, 1, none⟩) _ (fun _ => rfl)
    clear h
    go_enter Try.func59, Try.ntmps59
    go_wp2
    go_end0
    exact ⟨rfl, H.out, H2.out⟩
  · rw [if_neg he]
    have H : Hid (Hd t w p ao n c e0) := h
    clear h
    go_enter Try.func59, Try.ntmps59
    go_wp2
    go_end0
    exact ⟨rfl, H.out, Fr.refl _ _⟩

set_option maxRecDepth 100000 in
theorem Left_any (t : TypeId) (p n c : Nat) (ao : Option Addr) (e0 : Int) (w : World) (h : Hd t w p ao n c e0) :
    Calls Try.prog 45 #[.pointer (some ⟨p, 0, none⟩)] w fun e w' => e = .returned (.int .i64 n) ∧ w' = w := by
  have h0 := h.c0
  clear h
  go_enter Try.func45, Try.ntmps45
  go_wp2
  go_ret
  exact ⟨rfl, rfl⟩

/-- A copy of bytes, in a row that is new. -/
def Copied (w w' : World) (zs : List Int) (r : Ending) : Prop :=
  ∃ ao c, r = .returned (.slice ao zs.length c) ∧ Bs w' ao zs.length zs ∧ zs.length ≤ c ∧ c ≤ 9223372036854775807 ∧ (ao = none → c = 0) ∧ Below w.heap.size w w'
theorem Copied.nil (w : World) : Copied w w [] (.returned (.slice none 0 0)) := ⟨none, 0, rfl, ⟨rfl, fun i => by simp [g], .inl rfl⟩, by simp, by omega, fun _ => rfl, Below.refl _ _⟩
theorem copied_of_owns {w w' : World} {n c : Nat} {ao : Option Addr} {zs : List Int} (h : w'.ownsRow w.heap.size 5 1 (.slice ao n c) n (bv zs)) (hb : Bytes zs) (hbel : Below w.heap.size w w') : Copied w w' zs (.returned (.slice ao n c)) := by
  have hlen : zs.length = n := by have := h.1; rw [bv_length] at this; omega
  subst hlen
  refine ⟨ao, c, rfl, bs_of_owns h hb, cap_of_owns h, ?_, nil_cap h, hbel⟩
  rcases h.2 with ⟨e, _⟩ | ⟨_, _, _, e, _, _, _, h, _⟩
  · simp at e; omega
  · simp at e; unfold maxLen at h; omega
theorem eql_nil (w : World) (a : Option Addr) (n c : Nat) : (binOp .eql 30 (.slice a n c) (.slice none 0 0)).run Try.prog w = .ok (.bool a.isNone) w := by
  simp only [binOp]
  simp [run_equal_slice_nil w 30 5 a n c Try.underlying30]

set_option maxRecDepth 100000 in
theorem Clone_any (n c : Nat) (ao : Option Addr) (zs : List Int) (w : World) (hb : Bs w ao n zs) (hc : n ≤ c) (hnil : ao = none → c = 0) (hn : n ≤ 100000000) :
    Calls Try.prog 18 #[.slice ao n c] w fun r w' => Copied w w' zs r := by
  cases ao with
  | none =>
    obtain rfl : c = 0 := hnil rfl
    obtain rfl : n = 0 := by omega
    obtain rfl : zs = [] := List.eq_nil_of_length_eq_zero hb.1
    have H : Hid (Copied w w [] (.returned (.slice none 0 0))) := Copied.nil w
    clear hb hnil
    have hq : ∀ w : World, (binOp .eql 30 (.slice none 0 0) (.slice none 0 0)).run Try.prog w = .ok (.bool true) w := fun w => eql_nil w none 0 0
    go_enter Try.func18, Try.ntmps18
    go_wp2
    go_ret
    exact H.out
  | some a =>
    clear hnil
    have hq : ∀ w : World, (binOp .eql 30 (.slice (some a) n c) (.slice none 0 0)).run Try.prog w = .ok (.bool false) w := fun w => eql_nil w (some a) n c
    have ho := emptyB (w := w) (Nat.le_refl _)
    have hb2 := hb.alloc (.cells #[] 5)
    go_enter Try.func18, Try.ntmps18
    go_wp2_with (first
      | (at_builtin; refine wpList_append_bs _ rfl (.tmp 5) (.tmp 6) rfl w.heap.size _ _ _ _ rfl ho _ n c zs rfl hb2 (fun h => by simp at h) (by omega) (by simp) ?_; intro ao' c' w1 ho1 hg1))
    go_ret
    have hz : 0 + n = n := by omega
    rw [hz] at ho1
    rw [List.nil_append] at ho1
    exact copied_of_owns ho1 hb.bytes ((((Below.refl _ w).alloc (Nat.le_refl _) _)).grown hg1 (by simp) (fun k e => (ho.lt k e).1))
/-- Bytes in a row that is new since w and may be written. -/
structure New (w w' : World) (ao : Option Addr) (n c : Nat) (zs : List Int) : Prop where
  bs : Bs w' ao n zs
  cap : n ≤ c
  max : c ≤ 9223372036854775807
  nil : ao = none → c = 0
  bel : Below w.heap.size w w'
  own : ∀ a, ao = some a → w.heap.size ≤ a.block ∧ a = ⟨a.block, 0, none⟩ ∧ ∃ cur t, w'.heap[a.block]? = some (.cells cur t (0, 0))
theorem New.len {w w' : World} {ao : Option Addr} {n c : Nat} {zs : List Int} (h : New w w' ao n c zs) : zs.length = n := h.bs.1
theorem New.none (w : World) : New w w none 0 0 [] := ⟨⟨rfl, fun i => by simp [g], .inl rfl⟩, Nat.le_refl _, by omega, fun _ => rfl, Below.refl _ _, fun a h => by simp at h⟩
theorem New.of_owns {w w' : World} {B n c : Nat} {ao : Option Addr} {zs : List Int} (h : w'.ownsRow B 5 1 (.slice ao n c) n (bv zs)) (hb : Bytes zs) (hB : w.heap.size ≤ B) (hbel : Below w.heap.size w w') : New w w' ao n c zs := by
  refine ⟨bs_of_owns h hb, cap_of_owns h, ?_, nil_cap h, hbel, fun a ha => ?_⟩
  · rcases h.2 with ⟨e, _⟩ | ⟨_, _, _, e, _, _, _, h, _⟩
    · simp at e; omega
    · simp at e; unfold maxLen at h; omega
  · rcases h.2 with ⟨e, _⟩ | ⟨gb, _, cur, e, hg, hgg, _⟩
    · simp at e; rw [e.1] at ha; simp at ha
    · simp at e; rw [e.1] at ha; cases ha; exact ⟨Nat.le_trans hB hg, rfl, cur, _, hgg⟩
/-- Earlier blocks ahead of it. -/
theorem New.from {w0 w w' : World} {ao : Option Addr} {n c : Nat} {zs : List Int} (h : New w w' ao n c zs) (hb : Below w0.heap.size w0 w) : New w0 w' ao n c zs :=
  ⟨h.bs, h.cap, h.max, h.nil, hb.trans (h.bel.mono hb.size), fun a ha => by have := h.own a ha; exact ⟨Nat.le_trans hb.size this.1, this.2⟩⟩
/-- More blocks behind it. -/
theorem New.on {w w' w2 : World} {ao : Option Addr} {n c : Nat} {zs : List Int} (h : New w w' ao n c zs) (hb : Below w'.heap.size w' w2) : New w w2 ao n c zs :=
  ⟨h.bs.below hb, h.cap, h.max, h.nil, h.bel.trans (hb.mono h.bel.size), fun a ha => by
    obtain ⟨h1, h2, cur, t, h3⟩ := h.own a ha
    exact ⟨h1, h2, cur, t, by rw [hb.block _ (heap_lt h3)]; exact h3⟩⟩
set_option maxRecDepth 100000 in
theorem CloneNew_any (n c : Nat) (ao : Option Addr) (zs : List Int) (w : World) (hb : Bs w ao n zs) (hc : n ≤ c) (hnil : ao = none → c = 0) (hn : n ≤ 100000000) :
    Calls Try.prog 18 #[.slice ao n c] w fun r w' => ∃ ao' c', r = .returned (.slice ao' n c') ∧ New w w' ao' n c' zs := by
  cases ao with
  | none =>
    obtain rfl : c = 0 := hnil rfl
    obtain rfl : n = 0 := by omega
    obtain rfl : zs = [] := List.eq_nil_of_length_eq_zero hb.1
    have H : Hid (New w w none 0 0 []) := New.none w
    clear hb hnil
    have hq : ∀ w : World, (binOp .eql 30 (.slice none 0 0) (.slice none 0 0)).run Try.prog w = .ok (.bool true) w := fun w => eql_nil w none 0 0
    go_enter Try.func18, Try.ntmps18
    go_wp2
    go_ret
    exact ⟨_, _, rfl, H.out⟩
  | some a =>
    clear hnil
    have hq : ∀ w : World, (binOp .eql 30 (.slice (some a) n c) (.slice none 0 0)).run Try.prog w = .ok (.bool false) w := fun w => eql_nil w (some a) n c
    have ho := emptyB (w := w) (Nat.le_refl _)
    have hb2 := hb.alloc (.cells #[] 5)
    go_enter Try.func18, Try.ntmps18
    go_wp2_with (first
      | (at_builtin; refine wpList_append_bs _ rfl (.tmp 5) (.tmp 6) rfl w.heap.size _ _ _ _ rfl ho _ n c zs rfl hb2 (fun h => by simp at h) (by omega) (by simp) ?_; intro ao' c' w1 ho1 hg1))
    go_ret
    have hz : 0 + n = n := by omega
    rw [hz] at ho1
    rw [List.nil_append] at ho1
    exact ⟨_, _, rfl, New.of_owns ho1 hb.bytes (Nat.le_refl _) ((((Below.refl _ w).alloc (Nat.le_refl _) _)).grown hg1 (by simp) (fun k e => (ho.lt k e).1))⟩
end Go.Proofs.Ytgmkldfjbjnkcaa

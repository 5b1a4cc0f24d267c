/- Layer 6: the walk of NameTotal. -/
import Derived.Test.YtlaeplfbkpjpgaaNamRows
namespace Go.Proofs.Ytlaeplfbkpjpgaa
set_option linter.unusedVariables false
open Go.RowKit Go.Maps
open Nam

/-- How three rows may stand to each other, as far as it is asked. -/
theorem total_cases (a b c : List (List UInt8)) :
    (less a b = true ∧ less b a = false ∧ decide (a = b) = false ∧ below a b = false ∧ less b c = true ∧ less a c = true) ∨
    (less a b = true ∧ less b a = false ∧ decide (a = b) = false ∧ below a b = false ∧ less b c = false) ∨
    (less a b = false ∧ less b a = false ∧ decide (a = b) = true ∧ below a b = false) ∨
    (less a b = false ∧ less b a = true ∧ decide (a = b) = false ∧ below a b = false) ∨
    (less a b = false ∧ less b a = true ∧ decide (a = b) = false ∧ below a b = true ∧ below b a = false ∧ less b c = false) ∨
    (less a b = false ∧ less b a = true ∧ decide (a = b) = false ∧ below a b = true ∧ below b a = false ∧ less b c = true ∧ less c a = false) ∨
    (less a b = false ∧ less b a = true ∧ decide (a = b) = false ∧ below a b = true ∧ below b a = false ∧ less b c = true ∧ less c a = true ∧ below c b = true) := by
  by_cases e : a = b
  · subst e
    exact .inr (.inr (.inl ⟨less_irrefl a, less_irrefl a, by simp, below_irrefl a⟩))
  · have hd : decide (a = b) = false := by simpa using e
    rcases less_total a b e with h | h
    · have h' := less_asymm a b h
      have hbl : below a b = false := by
        cases k : below a b with
        | false => rfl
        | true => rw [(below_less k).1] at h'; cases h'
      cases k : less b c with
      | true => exact .inl ⟨h, h', hd, hbl, rfl, less_trans a b c h k⟩
      | false => exact .inr (.inl ⟨h, h', hd, hbl, rfl⟩)
    · have h' := less_asymm b a h
      cases k : below a b with
      | false => exact .inr (.inr (.inr (.inl ⟨h', h, hd, rfl⟩)))
      | true =>
        have k' := (below_less k).2
        cases m : less b c with
        | false => exact .inr (.inr (.inr (.inr (.inl ⟨h', h, hd, rfl, k', rfl⟩))))
        | true =>
          cases o : less c a with
          | false => exact .inr (.inr (.inr (.inr (.inr (.inl ⟨h', h, hd, rfl, k', rfl, rfl⟩)))))
          | true =>
            obtain ⟨x, y, rfl⟩ := (below_iff a b).1 k
            exact .inr (.inr (.inr (.inr (.inr (.inr ⟨h', h, hd, rfl, k', rfl, rfl, between b c x y m o⟩)))))
set_option maxRecDepth 100000 in
set_option maxHeartbeats 2000000 in
theorem total_walk (a0 : Option Addr) (n0 c0 : Nat) (l0 : List ByteArray) (a1 : Option Addr) (n1 c1 : Nat) (l1 : List ByteArray) (a2 : Option Addr) (n2 c2 : Nat) (l2 : List ByteArray) (w : World) (h0 : Rs w a0 n0 l0) (h0c : n0 ≤ c0) (h0m : c0 ≤ 9223372036854775807) (h0s : ∀ s ∈ l0, s.size ≤ 9223372036854775807)
    (h1 : Rs w a1 n1 l1) (h1c : n1 ≤ c1) (h1m : c1 ≤ 9223372036854775807) (h1s : ∀ s ∈ l1, s.size ≤ 9223372036854775807)
    (h2 : Rs w a2 n2 l2) (h2c : n2 ≤ c2) (h2m : c2 ≤ 9223372036854775807) (h2s : ∀ s ∈ l2, s.size ≤ 9223372036854775807) :
    Calls Try.prog 7 #[.slice a0 n0 c0, .slice a1 n1 c1, .slice a2 n2 c2] w fun e w' => e = .returned (.bool true) ∧ Below w.heap.size w w' := by
  clear h0s h1s h2s
  go_enter Try.func7, Try.ntmps7
  go_wp2_with (go_at_call 9; refine (shown_any w).mono ?_)
  rintro e w1 ⟨rfl, hb1⟩
  replace h0 := h0.below hb1
  replace h1 := h1.below hb1
  replace h2 := h2.below hb1
  have HB := hide hb1
  clear hb1
  go_wp2_with (go_at_call 12; refine (few_any a0 n0 c0 l0 w1 h0 h0c h0m).mono ?_)
  rintro e w' ⟨m0, rfl, r0, q0, t0, rfl⟩
  clear h0 h0c
  generalize l0.take 30 = k0 at r0
  go_wp2_with (go_at_call 12; refine (few_any a1 n1 c1 l1 _ h1 h1c h1m).mono ?_)
  rintro e w' ⟨m1, rfl, r1, q1, t1, rfl⟩
  clear h1 h1c
  generalize l1.take 30 = k1 at r1
  go_wp2_with (go_at_call 12; refine (few_any a2 n2 c2 l2 _ h2 h2c h2m).mono ?_)
  rintro e w' ⟨m2, rfl, r2, q2, t2, rfl⟩
  clear h2 h2c
  generalize l2.take 30 = k2 at r2
  have H : Hid (Ok w (a0, m0, k0) (a1, m1, k1) (a2, m2, k2) w') := ⟨HB.out, r0, r1, r2⟩
  clear r0 r1 r2 HB
  rcases total_cases (nm k0) (nm k1) (nm k2) with ⟨x1, x2, x3, x4, x5, x6⟩ | ⟨x1, x2, x3, x4, x5⟩ | ⟨x1, x2, x3, x4⟩ | ⟨x1, x2, x3, x4⟩ | ⟨x1, x2, x3, x4, x5, x6⟩ | ⟨x1, x2, x3, x4, x5, x6, x7⟩ | ⟨x1, x2, x3, x4, x5, x6, x7, x8⟩
  all_goals
    go_wp2_with (first
      | (go_at_call 13; refine (Less_any _ _ _ _ _ _ ?_ ?_ _ ?_ ?_ ?_ ?_).mono ?_; rotate_left 2; (first | exact H.out.2.1 | exact H.out.2.2.1 | exact H.out.2.2.2); (first | exact H.out.2.1 | exact H.out.2.2.1 | exact H.out.2.2.2); omega; omega;  rintro e w2 ⟨rfl, hq⟩; replace H := Ok.drew H hq; clear hq)
      | (go_at_call 15; refine (Same_any _ _ _ _ _ _ ?_ ?_ _ ?_ ?_ ?_ ?_).mono ?_; rotate_left 2; (first | exact H.out.2.1 | exact H.out.2.2.1 | exact H.out.2.2.2); (first | exact H.out.2.1 | exact H.out.2.2.1 | exact H.out.2.2.2); omega; omega;  rintro e w2 ⟨rfl, hq⟩; replace H := Ok.drew H hq; clear hq)
      | (go_at_call 17; refine (Below_any _ _ _ _ _ _ ?_ ?_ _ ?_ ?_ ?_ ?_ ?_ ?_).mono ?_; rotate_left 2; (first | exact H.out.2.1 | exact H.out.2.2.1 | exact H.out.2.2.2); (first | exact H.out.2.1 | exact H.out.2.2.1 | exact H.out.2.2.2); omega; omega; omega; omega;  rintro e w2 ⟨rfl, hq⟩; replace H := Ok.drew H hq; clear hq))
    go_ret
    exact ⟨rfl, H.out.1⟩
end Go.Proofs.Ytlaeplfbkpjpgaa

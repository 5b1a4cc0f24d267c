/- Layer 7: attributes that may be, and mayBe as a whole. -/
import Derived.Test.YtgkclldiphcogaaTreMay
namespace Go.Proofs.Ytgkclldiphcogaa
set_option linter.unusedVariables false
open Go.RowKit Go.Maps
open Nam Tre
open Lz (g)

theorem xs1_step (s : List UInt8) (xs : List (ByteArray × List Int)) (i : Nat) (h : i < xs.length) : xs1 s (xs.drop i) = (Op.bytesLess s (gx xs i).1.toList && txt (gx xs i).1.toList 40 && decide ((gx xs i).2.length ≤ 200) && xs1 (gx xs i).1.toList (xs.drop (i + 1))) := by
  rw [xs_drop xs i h, xs1]
set_option maxRecDepth 100000 in
theorem xattrsMayBe_any (ao : Option Addr) (n c : Nat) (xs : List (ByteArray × List Int)) (w : World) (h : XsR w ao n xs) (hc : n ≤ c) (hcm : c ≤ 9223372036854775807) (q : Bool) (hq : xsOk xs = q) :
    Calls Try.prog 89 #[.slice ao n c] w fun e w' => e = .returned (.bool q) ∧ Below w.heap.size w w' := by
  have HN := hide h.1
  have HX := hide h
  by_cases h8 : n ≤ 8
  · have HE : Hid (q = xs1 [] (xs.drop 0)) := by
      show _ = _
      rw [← hq, xsOk, decide_eq_true (by have := h.1; omega), Bool.true_and]; rfl
    have h8' : decide ((8 : Int) < n) = false := by simp; omega
    have h8n : ¬ (8 : Int) < n := by omega
    clear hq h
    go_enter Try.func89, Try.ntmps89
    go_wp2
    go_loopw [3, 5, 11] (fun r3 _ r wr => ∃ (i : Nat) (s : ByteArray), r3 = .string s ∧ r = .int .i64 i ∧ i ≤ n ∧ Below w.heap.size w wr ∧ q = xs1 s.toList (xs.drop i)) (fun _ _ r _ => n - (intOf r).toNat)
    case atStart => exact ⟨0, ⟨#[]⟩, rfl, rfl, Nat.zero_le _, Below.refl _ _, by rw [toList_mk [], HE.out]⟩
    case round =>
      obtain ⟨i, s, rfl, rfl, hi0, hbel, hinv⟩ := hrel
      have HI := hide hinv
      have HB := hide hbel
      by_cases hp : i < n
      · have hd : decide ((i : Int) < n) = true := by simpa using hp
        obtain ⟨ba, oa, rfl, hba, hca⟩ := (HX.out.below hbel).at (by omega)
        obtain ⟨c1, va, vn, vc, c2, b1, _⟩ := hca i hp
        have HS := hide (xs1_step s.toList xs i (by rw [HN.out]; exact hp))
        have HL := hide b1.1
        clear hca b1 hinv hbel
        obtain ⟨q1, hq1⟩ : ∃ q, Op.bytesLess s.toList (gx xs i).1.toList = q := ⟨_, rfl⟩
        obtain ⟨q2, hq2⟩ : ∃ q, txt (gx xs i).1.toList 40 = q := ⟨_, rfl⟩
        have HQ2 := hide hq2
        have bel : Hid (∀ o, Below w.heap.size w (wr.alloc o)) := fun o => HB.out.alloc HB.out.size _
        clear hq2
        cases q1 with
        | false =>
          by_cases he : (gx xs i).1.toList = s.toList
          · have g1 : Op.bytesLess (gx xs i).1.toList s.toList = false := by rw [he]; exact bless_irrefl _
            have g2 : ((gx xs i).1.toList == s.toList) = true := by simpa using he
            have HQ1 := hide hq1
            clear he hq1
            go_wp2
            go_ret
            exact ⟨ret_bool (by rw [HI.out, HS.out, HQ1.out]; rfl), bel.out _⟩
          · have g1 : Op.bytesLess (gx xs i).1.toList s.toList = true := by
              rcases bless_total _ _ he with k | k
              · exact k
              · rw [k] at hq1; cases hq1
            have HQ1 := hide hq1
            clear he hq1
            go_wp2
            go_ret
            exact ⟨ret_bool (by rw [HI.out, HS.out, HQ1.out]; rfl), bel.out _⟩
        | true =>
        have g1 : Op.bytesLess (gx xs i).1.toList s.toList = false := bless_asymm _ _ hq1
        have g2 : ((gx xs i).1.toList == s.toList) = false := by
          rw [beq_eq_false_iff_ne]; intro he; rw [he, bless_irrefl] at hq1; cases hq1
        have g3 : ¬ (gx xs i).1.toList = s.toList := by simpa using g2
        cases q2 with
        | false =>
          go_wp2_with (go_at_call 111; refine (isText_any (gx xs i).1 40 _ false HQ2.out (by omega)).mono ?_; rintro e w' ⟨rfl, rfl⟩)
          go_ret
          exact ⟨ret_bool (by rw [HI.out, HS.out, hq1, HQ2.out]; rfl), bel.out _⟩
        | true =>
          by_cases hv : vn ≤ 200
          · have hv1 : decide ((200 : Int) < vn) = false := by simp; omega
            have hv2 : ¬ (200 : Int) < vn := by omega
            go_wp2_with (go_at_call 111; refine (isText_any (gx xs i).1 40 _ true HQ2.out (by omega)).mono ?_; rintro e w' ⟨rfl, rfl⟩)
            refine ⟨⟨i + 1, _, rfl, by go_num, by omega, bel.out _, ?_⟩, by simp [intOf]; omega⟩
            rw [HI.out, HS.out, hq1, HQ2.out, decide_eq_true (by rw [HL.out]; exact hv)]
            rfl
          · have hv1 : decide ((200 : Int) < vn) = true := by simp; omega
            have hv2 : (200 : Int) < vn := by omega
            go_wp2_with (go_at_call 111; refine (isText_any (gx xs i).1 40 _ true HQ2.out (by omega)).mono ?_; rintro e w' ⟨rfl, rfl⟩)
            go_ret
            exact ⟨ret_bool (by rw [HI.out, HS.out, hq1, HQ2.out, decide_eq_false (by rw [HL.out]; exact hv)]; rfl), bel.out _⟩
      · have hd : decide ((i : Int) < n) = false := by simpa using hp
        go_wp2
        go_ret
        refine ⟨ret_bool ?_, HB.out⟩
        rw [HI.out, List.drop_eq_nil_of_le (by rw [HN.out]; omega)]; rfl
  · have h8' : decide ((8 : Int) < n) = true := by simp; omega
    have h8n : (8 : Int) < n := by omega
    have HE : Hid (false = q) := by
      show _ = _
      rw [← hq, xsOk, decide_eq_false (by have := h.1; omega)]; rfl
    clear hq h
    go_enter Try.func89, Try.ntmps89
    go_wp2
    go_ret
    exact ⟨ret_bool HE.out, Below.refl _ _⟩
set_option maxRecDepth 100000 in
theorem mayBe_any (v : Nv) (n : Nod) (w : World) (h : Rep w v n) :
    Calls Try.prog 69 #[.agg v.cells] w fun e w' => e = .returned (.bool (may n)) ∧ Below w.heap.size w w' := by
  obtain ⟨a, ha⟩ : ∃ q, kdOk n = q := ⟨_, rfl⟩
  obtain ⟨b, hb⟩ : ∃ q, (upB v.mode 511 && upB v.uid 65535 && upB v.gid 65535) = q := ⟨_, rfl⟩
  obtain ⟨c, hc⟩ : ∃ q, xsOk n.xs = q := ⟨_, rfl⟩
  have HE : Hid (may n = (a && b && c && !v.op)) := by
    show _ = _
    rw [may, ha, attrB, h.mode, h.uid, h.gid, hb, hc, h.op]
  have HA := hide ha
  have HB := hide hb
  have HC := hide hc
  have HR := hide h
  have x1 := h.xc
  have x2 := h.xcm
  have bel : Hid (∀ o, Below w.heap.size w (w.alloc o)) := fun o => (Below.refl _ _).alloc (Nat.le_refl _) _
  clear ha hb hc h
  have HBX := hide (boxed w v)
  unfold Nv.cells
  cases a with
  | false =>
    go_enter Try.func69, Try.ntmps69
    go_wp2_with (go_at_call 87; refine (kindMayBe_any v n _ (HR.out.below (bel.out _)) false HA.out).mono ?_; rintro e w1 ⟨rfl, hb1⟩)
    go_ret
    exact ⟨ret_bool (by rw [HE.out]; rfl), (bel.out _).trans (hb1.mono (by simp))⟩
  | true =>
    go_enter Try.func69, Try.ntmps69
    go_wp2_with (go_at_call 87; refine (kindMayBe_any v n _ (HR.out.below (bel.out _)) true HA.out).mono ?_)
    rintro e w1 ⟨rfl, hb1⟩
    have B1 := hide (HBX.out.below hb1)
    have e1 := hide ((bel.out _).trans (hb1.mono (by simp)))
    have d3 := B1.out.c3
    have d4 := B1.out.c4
    have d5 := B1.out.c5
    clear hb1
    cases b with
    | false =>
      go_wp2_with (go_at_call 88; refine (attrMayBe_any _ _ _ _ false HB.out).mono ?_; rintro e w2 ⟨rfl, hb2⟩)
      go_ret
      exact ⟨ret_bool (by rw [HE.out]; rfl), e1.out.trans (hb2.mono e1.out.size)⟩
    | true =>
      go_wp2_with (go_at_call 88; refine (attrMayBe_any _ _ _ _ true HB.out).mono ?_)
      rintro e w2 ⟨rfl, hb2⟩
      have B2 := hide (B1.out.below hb2)
      have e2 := hide (e1.out.trans (hb2.mono e1.out.size))
      have d8 := B2.out.c8
      clear hb2 d3 d4 d5
      cases c with
      | false =>
        go_wp2_with (go_at_call 89; refine (xattrsMayBe_any _ _ _ n.xs _ (HR.out.below e2.out).xs x1 x2 false HC.out).mono ?_; rintro e w3 ⟨rfl, hb3⟩)
        go_ret
        exact ⟨ret_bool (by rw [HE.out]; rfl), e2.out.trans (hb3.mono e2.out.size)⟩
      | true =>
        go_wp2_with (go_at_call 89; refine (xattrsMayBe_any _ _ _ n.xs _ (HR.out.below e2.out).xs x1 x2 true HC.out).mono ?_)
        rintro e w3 ⟨rfl, hb3⟩
        have e3 := hide (e2.out.trans (hb3.mono e2.out.size))
        have d9 := (B2.out.below hb3).c9
        clear hb3 d8
        go_wp2
        go_ret
        exact ⟨ret_bool (by rw [HE.out]; rfl), e3.out⟩
end Go.Proofs.Ytgkclldiphcogaa

import Derived.Test.YtflohhefbbidcaaLJTreAlike
import Derived.Deep.CutRange
set_option linter.unusedVariables false
namespace Go.Proofs.Ytflohhefbbidcaa
open Go.RowKit Go.Maps
open Stb Plc
def PMerges (w0 : World) (B blk n cap fn : Nat) (sv : Value) (lt : Nat → Nat → Prop) (S : Nat → Prop) (a m b : Nat) : Prop :=
 ∀ (C : Nat → Nat) (w : World), PR w0 B blk n cap w C → (∀ k, k < n → S (C k)) → Srd lt C a m → Srd lt C m b → Idx C a m b →
  Calls Try.prog 68 #[.slice (some ⟨blk, 0, none⟩) n cap, .int .i64 a, .int .i64 m, .int .i64 b, .func (.func fn) #[sv] #[]] w fun e w' => e = .returned (.tuple #[]) ∧ ∃ D, PR w0 B blk n cap w' D ∧ Mg lt C D a b
set_option maxRecDepth 100000 in
set_option maxHeartbeats 1000000 in
theorem psymMerge_mid (w0 : World) (B blk n cap : Nat) (fn : Nat) (sv : Value) (kc : Nat → Nat → Int) (lt : Nat → Nat → Prop) (S : Nat → Prop) (a m b : Nat) (C : Nat → Nat) (w : World)
  (hen : ∀ (args : Array Value) (w : World), (callFunc fn args).run Try.prog w = .ok (.enter fn args) w) (hq : PCmps fn sv kc S w0 blk) (ho : POdr kc lt)
  (hrec : ∀ a' m' b', a' < m' → m' < b' → b' ≤ n → b' - a' < b - a → PMerges w0 B blk n cap fn sv lt S a' m' b')
  (h : PR w0 B blk n cap w C) (hn : n ≤ 1000) (ham : a + 1 < m) (hmb : m + 1 < b) (hb : b ≤ n) (hS : ∀ k, k < n → S (C k)) (h1 : Srd lt C a m) (h2 : Srd lt C m b) (hx : Idx C a m b) :
  Calls Try.prog 68 #[.slice (some ⟨blk, 0, none⟩) n cap, .int .i64 a, .int .i64 m, .int .i64 b, .func (.func fn) #[sv] #[]] w fun e w' => e = .returned (.tuple #[]) ∧ ∃ D, PR w0 B blk n cap w' D ∧ Mg lt C D a b := by
 have H := hide h
 have HQ := hide hq
 have HO := hide ho
 have HS := hide hS
 have H1 := hide h1
 have H2 := hide h2
 have HX := hide hx
 have HREC := hide hrec
 obtain ⟨d, hd⟩ : ∃ d, d = m - a := ⟨_, rfl⟩
 obtain ⟨d', hd'⟩ : ∃ d, d = b - m := ⟨_, rfl⟩
 have v0 : IntKind.i64.wrap ((m : Int) - a) = (d : Int) := by rw [IntWalk.i64_in _ (by omega)]; omega
 have v1 : ((d : Int) == 1) = false := by simp; omega
 have v1' : ¬ d = 1 := by omega
 have v2 : IntKind.i64.wrap ((b : Int) - m) = (d' : Int) := by rw [IntWalk.i64_in _ (by omega)]; omega
 have v3 : ((d' : Int) == 1) = false := by simp; omega
 have v3' : ¬ d' = 1 := by omega
 obtain ⟨mid, hmid⟩ : ∃ t, t = (a + b) / 2 := ⟨_, rfl⟩
 have vh : ((a : Int) + b) / 2 = (mid : Int) := by omega
 obtain ⟨N, hN⟩ : ∃ t, t = mid + m := ⟨_, rfl⟩
 have vN : IntKind.i64.wrap ((mid : Int) + m) = (N : Int) := by rw [IntWalk.i64_in _ (by omega)]; omega
 have q1 : a < mid := by omega
 have q2 : mid < b := by omega
 have q3 : 2 * mid ≤ a + b := by omega
 have q4 : a + b ≤ 2 * mid + 1 := by omega
 have HN := hide hN
 clear h hq ho hS h1 h2 hx hrec hd hd' hmid hN
 go_enter Try.func68, Try.ntmps68
 go_upto_if 140 with fail
 go_cut [20, 21] from 138 (fun s20 s21 wx => ∃ lo r0 : Nat, s20 = .int .i64 lo ∧ s21 = .int .i64 r0 ∧ wx = w ∧ a ≤ lo ∧ lo ≤ r0 ∧ r0 ≤ m ∧ r0 ≤ mid ∧ N ≤ b + lo ∧ (lo = a ∨ lo + b = N) ∧ (r0 = m ∨ r0 = mid))
 case first =>
  have := HN.out
  by_cases c : mid < m
  ·have hd : decide ((m : Int) > mid) = true := by simpa using c
   have hd2 : decide ((mid : Int) < m) = true := by simpa using c
   obtain ⟨lo, hlo⟩ : ∃ t, t = N - b := ⟨_, rfl⟩
   have vl : IntKind.i64.wrap ((N : Int) - b) = (lo : Int) := by rw [IntWalk.i64_in _ (by omega)]; omega
   have HLO := hide hlo
   clear hlo this
   go_wp2_with fail
   go_meet
   have := HN.out
   have := HLO.out
   exact ⟨lo, mid, rfl, rfl, rfl, by omega, by omega, by omega, by omega, by omega, by omega, by omega⟩
  ·have hd : decide ((m : Int) > mid) = false := by simpa using c
   have hd2 : decide ((mid : Int) < m) = false := by simpa using c
   clear this
   go_wp2_with fail
   go_meet
   have := HN.out
   exact ⟨a, m, rfl, rfl, rfl, by omega, by omega, by omega, by omega, by omega, by omega, by omega⟩
 case rest =>
  obtain ⟨lo, r0, rfl, rfl, rfl, g1, g2, g3, g4, g5, g6, g7⟩ := hcut
  have HG6 := hide g6
  have HG7 := hide g7
  obtain ⟨p, hp⟩ : ∃ p, N = p + 1 := ⟨N - 1, by have := HN.out; omega⟩
  have vp : IntKind.i64.wrap ((N : Int) - 1) = (p : Int) := by have := HN.out; rw [IntWalk.i64_in _ (by omega)]; omega
  have HP := hide hp
  clear g6 g7 hp
  go_wp2
  go_loopw [20, 21, 23] (fun r20 r21 _ wr => ∃ s r : Nat, r20 = .int .i64 s ∧ r21 = .int .i64 r ∧ PR w0 B blk n cap wr C ∧ lo ≤ s ∧ s ≤ r ∧ r ≤ r0 ∧ (s = lo ∨ lt (C (s - 1)) (C (p - (s - 1)))) ∧ (r = r0 ∨ lt (C (p - r)) (C r))) (fun r20 r21 _ _ => (intOf r21).toNat - (intOf r20).toNat)
  case atStart => exact ⟨lo, r0, rfl, rfl, H.out, Nat.le_refl _, g2, Nat.le_refl _, .inl rfl, .inl rfl⟩
  case round =>
   obtain ⟨s, r, rfl, rfl, hir, hls, hsr, hrr, hl, hr⟩ := hrel
   have HI := hide hir
   have HL := hide hl
   have HR := hide hr
   clear hl hr hir
   by_cases hlt : s < r
   ·have hd : decide ((s : Int) < r) = true := by simpa using hlt
    obtain ⟨t, ht⟩ : ∃ t, t = (s + r) / 2 := ⟨_, rfl⟩
    have vh : ((s : Int) + r) / 2 = (t : Int) := by omega
    have t1 : s ≤ t := by omega
    have t2 : t < r := by omega
    obtain ⟨u, hu⟩ : ∃ u, u = p - t := ⟨_, rfl⟩
    have u1 : m ≤ u := by have := HN.out; have := HP.out; omega
    have u2 : u < b := by have := HN.out; have := HP.out; omega
    have vu : IntKind.i64.wrap ((p : Int) - t) = (u : Int) := by have := HN.out; have := HP.out; rw [IntWalk.i64_in _ (by omega)]; omega
    have i1 : (t : Int) < n := by omega
    have i2 : (u : Int) < n := by omega
    have hx := HX.out t u (by omega) (by omega) u1 u2
    have HNEG := hide (HO.out.neg _ _ hx)
    have HPOS := hide (HO.out.pos _ _ hx)
    have hQ0 := HQ.out.at (C := C) (B := B) (n := n) (cap := cap) (i := u) (j := t) (by first | omega | (have := HM.out; omega)) (by first | omega | (have := HM.out; omega)) (HS.out u (by omega)) (HS.out t (by omega))
    have hT0 := HI.out.two (i := u) (j := t) (by first | omega | (have := HM.out; omega)) (by first | omega | (have := HM.out; omega))
    have HQ1 := hide hQ0
    have HT0 := hide hT0
    generalize hx1 : C t = x1 at *
    generalize hx2 : C u = x2 at *
    generalize kc x2 x1 = z at *
    have HX1 := hide hx1
    have HX2 := hide hx2
    have HU := hide hu
    clear hx1 hx2 hx ht hu hQ0
    unfold Two2 at HT0 hT0
    obtain ⟨c1, c2, c3, c4⟩ := hT0
    by_cases hz : z < 0
    ·have hdz : decide (z < 0) = true := by simpa using hz
     have HNN := hide (HNEG.out hz)
     clear HNEG HPOS hz
     go_wp2_with fail
     go_region_held3 (fun wX => wX.cell? ⟨blk, u * 2, none⟩ = some (.int .i64 (pa x2 : Int)) ∧ wX.cell? ⟨blk, u * 2 + 1, none⟩ = some (.int .i64 (pb x2 : Int)) ∧ wX.cell? ⟨blk, t * 2, none⟩ = some (.int .i64 (pa x1 : Int)) ∧ wX.cell? ⟨blk, t * 2 + 1, none⟩ = some (.int .i64 (pb x1 : Int))) (first | exact HT0.out | exact HT2.out)
      ((refine (HQ1.out _ (by first | exact HI.out | exact HI.out.drew1)).mono ?_; rintro rx w2 ⟨rfl, hp2, ht2⟩; have HT2 := hide ht2; have HP2 := hide hp2; unfold Two2 at HT2; clear hp2 ht2))
     rename_i hHd
     clear hHd c1 c2 c3 c4 HT0 HQ1 HT2
     go_wp2
     exact ⟨⟨s, t, rfl, rfl, HP2.out, hls, by omega, by omega, HL.out, .inr (by rw [← HU.out, HX1.out, HX2.out]; exact HNN.out)⟩, by simp [intOf]; omega⟩
    ·have hdz : decide (z < 0) = false := by simpa using hz
     have HPP := hide (HPOS.out hz)
     clear HNEG HPOS hz
     go_wp2_with fail
     go_region_held3 (fun wX => wX.cell? ⟨blk, u * 2, none⟩ = some (.int .i64 (pa x2 : Int)) ∧ wX.cell? ⟨blk, u * 2 + 1, none⟩ = some (.int .i64 (pb x2 : Int)) ∧ wX.cell? ⟨blk, t * 2, none⟩ = some (.int .i64 (pa x1 : Int)) ∧ wX.cell? ⟨blk, t * 2 + 1, none⟩ = some (.int .i64 (pb x1 : Int))) (first | exact HT0.out | exact HT2.out)
      ((refine (HQ1.out _ (by first | exact HI.out | exact HI.out.drew1)).mono ?_; rintro rx w2 ⟨rfl, hp2, ht2⟩; have HT2 := hide ht2; have HP2 := hide hp2; unfold Two2 at HT2; clear hp2 ht2))
     rename_i hHd
     clear hHd c1 c2 c3 c4 HT0 HQ1 HT2
     go_wp2
     exact ⟨⟨t + 1, r, by go_num, rfl, HP2.out, by omega, by omega, hrr, .inr (by rw [show t + 1 - 1 = t by omega, ← HU.out, HX1.out, HX2.out]; exact HPP.out), HR.out⟩, by simp [intOf]; omega⟩
   ·have hd : decide ((s : Int) < r) = false := by simpa using hlt
    obtain ⟨e, he⟩ : ∃ e, e = N - s := ⟨_, rfl⟩
    have e1 : m ≤ e := by have := HN.out; omega
    have e2 : e ≤ b := by omega
    have e3 : mid ≤ e := by have := HN.out; omega
    have e4 : s ≤ mid := by omega
    have e5 : s ≤ m := by omega
    have e6 : a ≤ s := by omega
    have ve : IntKind.i64.wrap ((N : Int) - s) = (e : Int) := by have := HN.out; rw [IntWalk.i64_in _ (by omega)]; omega
    have HH : Hid (Half lt C (rot C s m e) a s mid e b) := by
     have h1 := HN.out
     have h2 := HP.out
     have h6 := HG6.out
     have h7 := HG7.out
     refine Stb.half HO.out.tr H1.out H2.out HX.out e6 e5 e1 e2 (by omega) ?_ ?_
     ·rcases HL.out with c | c
      ·omega
      ·by_cases c0 : s = a
       ·exact .inl c0
       ·refine .inr (.inr ?_)
        rw [show p - (s - 1) = e by omega] at c
        exact c
     ·rcases HR.out with c | c
      ·omega
      ·refine .inr (.inr ?_)
       rw [show p - r = e - 1 by omega, show r = s by omega] at c
       exact c
    clear HL HR HG6 HG7 he hls hsr hrr
    obtain ⟨W, rfl⟩ : ∃ W, W = wr := ⟨wr, rfl⟩
    go_upto_region 39 with fail
    go_cut [185] from 178 (fun c wx => ∃ z : Bool, c = .bool z ∧ (z = true ↔ (s < m ∧ m < e)) ∧ wx = W)
    case first =>
     by_cases c1 : s < m
     ·have d1 : decide ((s : Int) < m) = true := by simpa using c1
      by_cases c2 : m < e
      ·have d2 : decide ((m : Int) < e) = true := by simpa using c2
       go_wp2_with fail
       go_meet
       exact ⟨_, rfl, by simp [c1, c2], rfl⟩
      ·have d2 : decide ((m : Int) < e) = false := by simpa using c2
       go_wp2_with fail
       go_meet
       exact ⟨_, rfl, by simp [c1, c2], rfl⟩
     ·have d1 : decide ((s : Int) < m) = false := by simpa using c1
      go_wp2_with fail
      go_meet
      exact ⟨_, rfl, by simp [c1], rfl⟩
    case rest =>
     obtain ⟨z, rfl, hz, rfl⟩ := hcut
     have HZ := hide hz
     clear hz
     go_upto_if 185 with fail
     go_cut [] from 186 (fun wx => PR w0 B blk n cap wx (rot C s m e))
     case first =>
      cases z
      case true =>
       have c : s < m ∧ m < e := HZ.out.1 rfl
       have HC := hide (protate_any w0 B blk n cap (.func (.func fn) #[sv] #[]) s m e C wc HI.out hn c.1 c.2 (by omega))
       clear c
       go_wp2_with (go_at_call 73; refine HC.out.mono ?_; rintro e0 w1 ⟨rfl, hir1⟩; have HI1 := hide hir1; clear hir1 HC)
       go_meet
       exact HI1.out
      case false =>
       have c : ¬ (s < m ∧ m < e) := fun h => by have := HZ.out.2 h; simp at this
       have HI1 : Hid (PR w0 B blk n cap wc (rot C s m e)) := by
        show PR _ _ _ _ _ _ _
        rw [rot_none C s m e e5 e1 (by omega)]; exact HI.out
       clear c
       go_wp2_with fail
       go_meet
       exact HI1.out
     case rest =>
      have HI1 := hide hcut
      have HS1 := hide (protAll (S := S) HS.out e5 e1 (show e ≤ n by omega))
      clear hcut HI
      generalize rot C s m e = D at *
      obtain ⟨W, rfl⟩ : ∃ W, W = wc := ⟨wc, rfl⟩
      go_upto_region 41 with fail
      go_cut [199] from 192 (fun c wx => ∃ z : Bool, c = .bool z ∧ (z = true ↔ (a < s ∧ s < mid)) ∧ wx = W)
      case first =>
       by_cases c1 : a < s
       ·have d1 : decide ((a : Int) < s) = true := by simpa using c1
        by_cases c2 : s < mid
        ·have d2 : decide ((s : Int) < mid) = true := by simpa using c2
         go_wp2_with fail
         go_meet
         exact ⟨_, rfl, by simp [c1, c2], rfl⟩
        ·have d2 : decide ((s : Int) < mid) = false := by simpa using c2
         go_wp2_with fail
         go_meet
         exact ⟨_, rfl, by simp [c1, c2], rfl⟩
       ·have d1 : decide ((a : Int) < s) = false := by simpa using c1
        go_wp2_with fail
        go_meet
        exact ⟨_, rfl, by simp [c1], rfl⟩
      case rest =>
       obtain ⟨z, rfl, hz, rfl⟩ := hcut
       have HZ := hide hz
       clear hz
       go_upto_if 199 with fail
       go_cut [] from 200 (fun wx => ∃ E, PR w0 B blk n cap wx E ∧ Mg lt D E a mid)
       case first =>
        cases z
        case true =>
         have c : a < s ∧ s < mid := HZ.out.1 rfl
         have HC := hide (HREC.out a s mid c.1 c.2 (by omega) (by omega) D wc HI1.out HS1.out HH.out.s1 HH.out.s2 HH.out.i1)
         clear c
         go_wp2_with (go_at_call 68; refine HC.out.mono ?_; rintro e0 w1 ⟨rfl, hir1⟩; have HE1 := hide hir1; clear hir1 HC)
         go_meet
         exact HE1.out
        case false =>
         have c : ¬ (a < s ∧ s < mid) := fun h => by have := HZ.out.2 h; simp at this
         have HM1 := hide (Mg.none HH.out.s1 HH.out.s2 c e6 e4)
         clear c
         go_wp2_with fail
         go_meet
         exact ⟨D, HI1.out, HM1.out⟩
       case rest =>
        obtain ⟨E, hirE, hmE⟩ := hcut
        have HI2 := hide hirE
        have HM2 := hide hmE
        have HS2 := hide (pMgAll hmE (by omega) HS1.out)
        have HA2 := hide (HH.out.again2 e3 e2 hmE)
        clear hirE hmE HI1
        obtain ⟨W, rfl⟩ : ∃ W, W = wc := ⟨wc, rfl⟩
        go_upto_region 43 with fail
        go_cut [213] from 206 (fun c wx => ∃ z : Bool, c = .bool z ∧ (z = true ↔ (mid < e ∧ e < b)) ∧ wx = W)
        case first =>
         by_cases c1 : mid < e
         ·have d1 : decide ((mid : Int) < e) = true := by simpa using c1
          by_cases c2 : e < b
          ·have d2 : decide ((e : Int) < b) = true := by simpa using c2
           go_wp2_with fail
           go_meet
           exact ⟨_, rfl, by simp [c1, c2], rfl⟩
          ·have d2 : decide ((e : Int) < b) = false := by simpa using c2
           go_wp2_with fail
           go_meet
           exact ⟨_, rfl, by simp [c1, c2], rfl⟩
         ·have d1 : decide ((mid : Int) < e) = false := by simpa using c1
          go_wp2_with fail
          go_meet
          exact ⟨_, rfl, by simp [c1], rfl⟩
        case rest =>
         obtain ⟨z, rfl, hz, rfl⟩ := hcut
         have HZ := hide hz
         clear hz
         cases z
         case true =>
          have c : mid < e ∧ e < b := HZ.out.1 rfl
          have HC := hide (HREC.out mid e b c.1 c.2 (by omega) (by omega) E wc HI2.out HS2.out HA2.out.1 HA2.out.2.1 HA2.out.2.2)
          clear c
          go_wp2_with (go_at_call 68; refine HC.out.mono ?_; rintro e0 w1 ⟨rfl, G, hirG, hmG⟩; have HE1 := hide hirG; have HE2 := hide (HH.out.mg (by omega) (by omega) HM2.out hmG); clear hirG hmG HC)
          go_end0
          exact ⟨rfl, G, HE1.out, HE2.out⟩
         case false =>
          have c : ¬ (mid < e ∧ e < b) := fun h => by have := HZ.out.2 h; simp at this
          have HE2 := hide (HH.out.mg (by omega) (by omega) HM2.out (Mg.none HA2.out.1 HA2.out.2.1 c e3 e2))
          clear c
          go_wp2
          go_end0
          exact ⟨rfl, E, HI2.out, HE2.out⟩
theorem psymMerge_any (w0 : World) (B blk n cap : Nat) (fn : Nat) (sv : Value) (kc : Nat → Nat → Int) (lt : Nat → Nat → Prop) (S : Nat → Prop)
  (hen : ∀ (args : Array Value) (w : World), (callFunc fn args).run Try.prog w = .ok (.enter fn args) w) (hq : PCmps fn sv kc S w0 blk) (ho : POdr kc lt) (hn : n ≤ 1000) :
  ∀ k a m b, b - a ≤ k → a < m → m < b → b ≤ n → PMerges w0 B blk n cap fn sv lt S a m b := by
 intro k
 induction k with
 | zero => intro a m b h1 h2 h3; omega
 | succ k ih =>
  intro a m b h1 h2 h3 h4 C w hir hS s1 s2 hx
  by_cases c1 : m = a + 1
  ·exact psymMerge_up w0 B blk n cap fn sv kc lt S a m b C w hen hq ho hir hn c1 h3 h4 hS s2 hx
  ·by_cases c2 : b = m + 1
   ·exact psymMerge_down w0 B blk n cap fn sv kc lt S a m b C w hen hq ho hir hn (by omega) c2 h4 hS s1 hx
   ·exact psymMerge_mid w0 B blk n cap fn sv kc lt S a m b C w hen hq ho (fun a' m' b' g1 g2 g3 g4 => ih a' m' b' (by omega) g1 g2 g3) hir hn (by omega) (by omega) h4 hS s1 s2 hx
end Go.Proofs.Ytflohhefbbidcaa
namespace Go.Proofs.Ytflohhefbbidcaa
open Go.RowKit Go.Maps
open Stb Plc
theorem pinsertion_none (v fv : Value) (a b : Nat) (w : World) (ha : a ≤ 1000) (h : b ≤ a + 1) :
  Calls Try.prog 67 #[v, .int .i64 a, .int .i64 b, fv] w fun e w' => e = .returned (.tuple #[]) ∧ w' = w := by
 have v1 : IntKind.i64.wrap ((a : Int) + 1) = ((a + 1 : Nat) : Int) := by rw [IntWalk.i64_in _ (by omega)]; omega
 have hd : decide ((((a + 1 : Nat)) : Int) < b) = false := by simp; omega
 have hd2 : ¬ (a + 1 < b) := by omega
 obtain ⟨c, hc⟩ : ∃ c, c = a + 1 := ⟨_, rfl⟩
 rw [← hc] at v1 hd hd2
 clear hc h
 go_enter Try.func67, Try.ntmps67
 go_wp2
 refine wp_loop_rounds 1 ?_
 rw [rounds_succ]
 go_wp2
 go_end0
 exact ⟨rfl, rfl⟩
def PBk (lt : Nat → Nat → Prop) (C D : Nat → Nat) (n s : Nat) : Prop := ∀ i, i * s < n → Stb.St lt C D (i * s) (min (i * s + s) n)
theorem stIns {lt : Nat → Nat → Prop} {C D E : Nat → Nat} {a b : Nat} (hs : ∀ k, a ≤ k → k < b → D k = C k) (h : Mg lt D E a b) : Stb.St lt C E a b := ⟨h.srd, fun x => (h.inn x).trans (In.same hs)⟩
theorem stNone {lt : Nat → Nat → Prop} {C D : Nat → Nat} (x : Nat) : Stb.St lt C D x x := ⟨fun i j h1 h2 h3 => by omega, fun y => ⟨fun ⟨k, k1, k2, _⟩ => by omega, fun ⟨k, k1, k2, _⟩ => by omega⟩⟩
theorem pbk20 {lt : Nat → Nat → Prop} {n a : Nat} {C D E : Nat → Nat} (h1 : a ≤ n) (h2 : n < a + 20) (h3 : a % 20 = 0) (hb : ∀ j, j + 20 ≤ a → j % 20 = 0 → Stb.St lt C D j (j + 20)) (hs : ∀ k, a ≤ k → D k = C k) (h : Mg lt D E a n) : PBk lt C E n 20 := by
 intro i hi
 by_cases c : i * 20 + 20 ≤ a
 ·rw [Nat.min_eq_left (by omega)]
  exact (hb (i * 20) c (by omega)).same fun k k1 k2 => h.out k (.inl (by omega))
 ·obtain rfl : a = i * 20 := by omega
  rw [Nat.min_eq_right (by omega)]
  exact stIns (fun k k1 _ => hs k k1) h
theorem pbk_all {lt : Nat → Nat → Prop} {n s : Nat} {C D : Nat → Nat} (h : PBk lt C D n s) (hs : n ≤ s) : Stb.St lt C D 0 n := by
 rcases Nat.eq_zero_or_pos n with rfl | hn
 ·exact stNone 0
 ·have := h 0 (by omega)
  rw [Nat.zero_mul, Nat.zero_add, Nat.min_eq_right hs] at this
  exact this
structure PInL (lt : Nat → Nat → Prop) (C G D : Nat → Nat) (s k : Nat) : Prop where
 low : ∀ i, i < k → Stb.St lt C D (i * (2 * s)) (i * (2 * s) + 2 * s)
 up : ∀ x, k * (2 * s) ≤ x → D x = G x
theorem pinl_zero (lt : Nat → Nat → Prop) (C G : Nat → Nat) (s : Nat) : PInL lt C G G s 0 := ⟨fun i hi => by omega, fun x _ => rfl⟩
theorem PInL.one {lt : Nat → Nat → Prop} {C G D : Nat → Nat} {n s k a m : Nat} (h : PInL lt C G D s k) (hB : PBk lt C G n s) (ha : a = k * (2 * s)) (hm : m = a + s) (h1 : m ≤ n) (hs : 0 < s) : Stb.St lt C D a m := by
 have e : 2 * k * s = a := by rw [ha, Nat.mul_comm 2 k, Nat.mul_assoc]
 have := hB (2 * k) (by omega)
 rw [e, Nat.min_eq_left (by omega), ← hm] at this
 exact this.same fun x x1 _ => h.up x (by omega)
theorem PInL.two {lt : Nat → Nat → Prop} {C G D : Nat → Nat} {n s k a m : Nat} (h : PInL lt C G D s k) (hB : PBk lt C G n s) (ha : a = k * (2 * s)) (hm : m = a + s) (h1 : m < n) : Stb.St lt C D m (min (m + s) n) := by
 have e : (2 * k + 1) * s = m := by rw [Nat.succ_mul, Nat.mul_comm 2 k, Nat.mul_assoc, hm, ha]
 have := hB (2 * k + 1) (by omega)
 rw [e] at this
 exact this.same fun x x1 _ => h.up x (by omega)
theorem PInL.less {lt : Nat → Nat → Prop} {C G D : Nat → Nat} {n s k a : Nat} (h : PInL lt C G D s k) (hB : PBk lt C G n s) (ha : a = k * (2 * s)) (h1 : n ≤ a + s) (h2 : a < n) : Stb.St lt C D a n := by
 have e : 2 * k * s = a := by rw [ha, Nat.mul_comm 2 k, Nat.mul_assoc]
 have := hB (2 * k) (by omega)
 rw [e, Nat.min_eq_right (by omega)] at this
 exact this.same fun x x1 _ => h.up x (by omega)
theorem PInL.next {lt : Nat → Nat → Prop} {C G D E : Nat → Nat} {s k a b : Nat} (h : PInL lt C G D s k) (ha : a = k * (2 * s)) (hb : b = a + 2 * s) (hm : Mg lt D E a b) (hs : Stb.St lt C E a b) : PInL lt C G E s (k + 1) := by
 have e : (k + 1) * (2 * s) = b := by rw [Nat.succ_mul, hb, ha]
 refine ⟨fun i hi => ?_, fun x hx => ?_⟩
 ·by_cases c : i = k
  ·rw [c, ← ha, ← hb]; exact hs
  ·have h1 : (i + 1) * (2 * s) ≤ k * (2 * s) := Nat.mul_le_mul_right _ (by omega)
   rw [Nat.succ_mul] at h1
   exact (h.low i (by omega)).same fun x _ x2 => hm.out x (.inl (by omega))
 ·rw [e] at hx
  rw [hm.out x (.inr hx)]
  exact h.up x (by omega)
theorem PInL.bk {lt : Nat → Nat → Prop} {C G D E : Nat → Nat} {n s k a : Nat} (h : PInL lt C G D s k) (ha : a = k * (2 * s)) (h1 : a ≤ n) (h2 : n < a + 2 * s) (ho : ∀ x, x < a → E x = D x) (hs : a < n → Stb.St lt C E a n) : PBk lt C E n (2 * s) := by
 intro i hi
 by_cases c : i < k
 ·have h3 : (i + 1) * (2 * s) ≤ k * (2 * s) := Nat.mul_le_mul_right _ (by omega)
  rw [Nat.succ_mul] at h3
  rw [Nat.min_eq_left (by omega)]
  exact (h.low i c).same fun x _ x2 => ho x (by omega)
 ·by_cases d : i = k
  ·rw [d, ← ha] at hi ⊢
   rw [Nat.min_eq_right (by omega)]
   exact hs hi
  ·have h3 : (k + 1) * (2 * s) ≤ i * (2 * s) := Nat.mul_le_mul_right _ (by omega)
   rw [Nat.succ_mul] at h3
   omega
set_option maxRecDepth 100000 in
set_option maxHeartbeats 1000000 in
theorem pstable_any (w0 : World) (B blk n cap : Nat) (fn : Nat) (sv : Value) (kc : Nat → Nat → Int) (lt : Nat → Nat → Prop) (S : Nat → Prop) (C : Nat → Nat) (w : World)
  (hen : ∀ (args : Array Value) (w : World), (callFunc fn args).run Try.prog w = .ok (.enter fn args) w) (hq : PCmps fn sv kc S w0 blk) (ho : POdr kc lt)
  (h : PR w0 B blk n cap w C) (hn : n ≤ 1000) (hS : ∀ k, k < n → S (C k)) (hc : ∀ i j, i < j → j < n → C i < C j) :
  Calls Try.prog 58 #[.slice (some ⟨blk, 0, none⟩) n cap, .int .i64 n, .func (.func fn) #[sv] #[]] w fun e w' => e = .returned (.tuple #[]) ∧ ∃ D, PR w0 B blk n cap w' D ∧ Stb.St lt C D 0 n := by
 have H := hide h
 have HQ := hide hq
 have HO := hide ho
 have HS := hide hS
 have HC := hide hc
 clear h hq ho hS hc
 go_enter Try.func58, Try.ntmps58
 go_wp2
 go_loopw [7, 8] (fun r7 r8 wr => ∃ (a b : Nat) (D : Nat → Nat), r7 = .int .i64 a ∧ r8 = .int .i64 b ∧ b = a + 20 ∧ a ≤ n ∧ a % 20 = 0 ∧ PR w0 B blk n cap wr D ∧ (∀ k, k < n → S (D k)) ∧ (∀ j, j + 20 ≤ a → j % 20 = 0 → Stb.St lt C D j (j + 20)) ∧ (∀ k, a ≤ k → D k = C k)) (fun r7 _ _ => n - (intOf r7).toNat)
 case atStart => exact ⟨0, 20, C, rfl, rfl, rfl, Nat.zero_le _, rfl, H.out, HS.out, fun j hj => by omega, fun _ _ => rfl⟩
 case round =>
  obtain ⟨a, b, D, rfl, rfl, hb, han, ham, hir, hDS, hst, hsm⟩ := hrel
  have HB := hide hb
  have HI := hide hir
  have HDS := hide hDS
  have HST := hide hst
  have HSM := hide hsm
  have HAM := hide ham
  have HCX : Hid (∀ i j, a ≤ i → i < j → j < n → D i < D j) := fun i j h1 h2 h3 => by
   rw [hsm i h1, hsm j (by omega)]; exact HC.out i j h2 h3
  clear hb hir hDS hst hsm ham
  by_cases hbn : b ≤ n
  ·have hd : decide ((b : Int) ≤ n) = true := by simpa using hbn
   have HCA := hide (pinsertion_any w0 B blk n cap fn sv kc lt S a b D wr hen HQ.out HO.out HI.out (by omega) (by have := HB.out; omega) hbn HDS.out (fun i j h1 h2 h3 => HCX.out i j h1 h2 (by omega)))
   obtain ⟨b', hb'⟩ : ∃ b', b' = b + 20 := ⟨_, rfl⟩
   have vb : IntKind.i64.wrap ((b : Int) + 20) = (b' : Int) := by rw [IntWalk.i64_in _ (by omega)]; omega
   have HB' := hide hb'
   clear hb'
   go_wp2_with (go_at_call 67; refine HCA.out.mono ?_; rintro e0 w1 ⟨rfl, E, hirE, hmE⟩; have HE1 := hide hirE; have HE2 := hide hmE; clear hirE hmE HCA)
   have hb1 := HB.out
   have hb2 := HB'.out
   have hb3 := HAM.out
   refine ⟨⟨b, b', E, rfl, rfl, hb2, hbn, by omega, HE1.out, pMgAll HE2.out hbn HDS.out, fun j j1 j2 => ?_, fun k hk => ?_⟩, by simp [intOf]; omega⟩
   ·by_cases c : j + 20 ≤ a
    ·exact (HST.out j c j2).same fun k k1 k2 => HE2.out.out k (.inl (by omega))
    ·obtain rfl : j = a := by omega
     rw [← hb1]
     exact stIns (fun k k1 _ => HSM.out k k1) HE2.out
   ·rw [HE2.out.out k (.inr hk)]; exact HSM.out k (by omega)
  ·have hd : decide ((b : Int) ≤ n) = false := by simpa using hbn
   have HCA := hide (pinsertion_any w0 B blk n cap fn sv kc lt S a n D wr hen HQ.out HO.out HI.out (by omega) han (Nat.le_refl _) HDS.out HCX.out)
   have HAF : Hid (∀ E, Mg lt D E a n → PBk lt C E n 20 ∧ ∀ k, k < n → S (E k)) := fun E hE => ⟨pbk20 han (by have := HB.out; omega) HAM.out HST.out HSM.out hE, pMgAll hE (Nat.le_refl _) HDS.out⟩
   obtain ⟨W, rfl⟩ : ∃ W, W = wr := ⟨wr, rfl⟩
   go_wp2_with (go_at_call 67; refine HCA.out.mono ?_; rintro e0 w1 ⟨rfl, E, hirE, hmE⟩; have HE1 := hide hirE; have HE2 := hide (HAF.out E hmE); clear hirE hmE HCA HAF)
   clear HST HSM HCX HDS HI HB HAM
   go_loopw [6, 7, 8, 9] (fun r6 _ _ _ wr => ∃ (s : Nat) (G : Nat → Nat), r6 = .int .i64 s ∧ 0 < s ∧ s ≤ 2000 ∧ PR w0 B blk n cap wr G ∧ (∀ k, k < n → S (G k)) ∧ PBk lt C G n s) (fun r6 _ _ _ _ => n - (intOf r6).toNat)
   case atStart => exact ⟨20, E, rfl, by omega, by omega, HE1.out, HE2.out.2, HE2.out.1⟩
   case round =>
    obtain ⟨s, G, rfl, hs0, hs1, hir, hGS, hbk⟩ := hrel
    have HI := hide hir
    have HGS := hide hGS
    have HBK := hide hbk
    clear hir hGS hbk
    by_cases c1 : s < n
    ·have d1 : decide ((s : Int) < n) = true := by simp; omega
     have hx1 : (s : Int) < n := by omega
     obtain ⟨d, hdd⟩ : ∃ d, d = 2 * s := ⟨_, rfl⟩
     have vd : IntKind.i64.wrap ((2 : Int) * s) = (d : Int) := by rw [IntWalk.i64_in _ (by omega)]; omega
     have vd' : IntKind.i64.wrap ((s : Int) * 2) = (d : Int) := by rw [IntWalk.i64_in _ (by omega)]; omega
     have HD := hide hdd
     clear hdd
     obtain ⟨W, rfl⟩ : ∃ W, W = wr := ⟨wr, rfl⟩
     go_wp2
     go_loopw [7, 8] (fun r7 r8 wr => ∃ (k a b : Nat) (F : Nat → Nat), r7 = .int .i64 a ∧ r8 = .int .i64 b ∧ a = k * (2 * s) ∧ b = a + d ∧ a ≤ n ∧ PR w0 B blk n cap wr F ∧ (∀ k, k < n → S (F k)) ∧ PInL lt C G F s k) (fun r7 _ _ => n - (intOf r7).toNat)
     case atStart => exact ⟨0, 0, d, G, rfl, rfl, by omega, by omega, Nat.zero_le _, HI.out, HGS.out, pinl_zero lt C G s⟩
     case round =>
      obtain ⟨k, a, b, F, rfl, rfl, ha, hb, han, hir, hFS, hin⟩ := hrel
      have HIR := hide hir
      have HFS := hide hFS
      have HIN := hide hin
      have HA := hide ha
      have HB := hide hb
      clear hir hFS hin ha hb
      obtain ⟨m, hm⟩ : ∃ m, m = a + s := ⟨_, rfl⟩
      have vm : IntKind.i64.wrap ((a : Int) + s) = (m : Int) := by rw [IntWalk.i64_in _ (by omega)]; omega
      have HMM := hide hm
      clear hm
      by_cases c2 : b ≤ n
      ·have d2 : decide ((b : Int) ≤ n) = true := by simp; omega
       have hx2 : (b : Int) ≤ n := by omega
       have HCA : Hid (Calls Try.prog 68 #[.slice (some ⟨blk, 0, none⟩) n cap, .int .i64 a, .int .i64 m, .int .i64 b, .func (.func fn) #[sv] #[]] wr fun e w' => e = .returned (.tuple #[]) ∧ ∃ E, PR w0 B blk n cap w' E ∧ Mg lt F E a b ∧ Stb.St lt C E a b) := by
        have q1 := HB.out
        have q2 := HMM.out
        have q3 := HD.out
        have s1 := HIN.out.one HBK.out HA.out q2 (by omega) hs0
        have s2 := HIN.out.two HBK.out HA.out q2 (by omega)
        rw [show min (m + s) n = b by omega] at s2
        refine (psymMerge_any w0 B blk n cap fn sv kc lt S hen HQ.out HO.out (by omega) n a m b (by omega) (by omega) (by omega) c2 F wr HIR.out HFS.out s1.srd s2.srd (Stb.St.idx HC.out c2 s1 s2)).mono ?_
        rintro e w' ⟨rfl, E, h1, h2⟩
        exact ⟨rfl, E, h1, h2, Stb.St.mg (by omega) (by omega) s1 s2 h2⟩
       obtain ⟨b', hb'⟩ : ∃ b', b' = b + d := ⟨_, rfl⟩
       have vb : IntKind.i64.wrap ((b : Int) + d) = (b' : Int) := by have := HD.out; rw [IntWalk.i64_in _ (by omega)]; omega
       have HB' := hide hb'
       clear hb'
       go_wp2_with (go_at_call 68; refine HCA.out.mono ?_; rintro e0 w2 ⟨rfl, E2, hirE, hmE, hsE⟩; have HE3 := hide hirE; have HE4 := hide hmE; have HE5 := hide hsE; clear hirE hmE hsE HCA)
       have q1 := HB.out
       have q3 := HD.out
       refine ⟨⟨k + 1, b, b', E2, rfl, rfl, ?_, HB'.out, c2, HE3.out, pMgAll HE4.out c2 HFS.out, HIN.out.next HA.out (by omega) HE4.out HE5.out⟩, by simp [intOf]; omega⟩
       rw [Nat.succ_mul, ← HA.out]; omega
      ·have d2 : decide ((b : Int) ≤ n) = false := by simp; omega
       have hx2 : ¬ (b : Int) ≤ n := by omega
       by_cases c3 : m < n
       ·have d3 : decide ((m : Int) < n) = true := by simp; omega
        have HCA : Hid (Calls Try.prog 68 #[.slice (some ⟨blk, 0, none⟩) n cap, .int .i64 a, .int .i64 m, .int .i64 n, .func (.func fn) #[sv] #[]] wr fun e w' => e = .returned (.tuple #[]) ∧ ∃ E, PR w0 B blk n cap w' E ∧ (∀ k, k < n → S (E k)) ∧ PBk lt C E n (2 * s)) := by
         have q1 := HB.out
         have q2 := HMM.out
         have q3 := HD.out
         have s1 := HIN.out.one HBK.out HA.out q2 (by omega) hs0
         have s2 := HIN.out.two HBK.out HA.out q2 (by omega)
         rw [show min (m + s) n = n by omega] at s2
         refine (psymMerge_any w0 B blk n cap fn sv kc lt S hen HQ.out HO.out (by omega) n a m n (by omega) (by omega) (by omega) (Nat.le_refl _) F wr HIR.out HFS.out s1.srd s2.srd (Stb.St.idx HC.out (Nat.le_refl _) s1 s2)).mono ?_
         rintro e w' ⟨rfl, E, h1, h2⟩
         exact ⟨rfl, E, h1, pMgAll h2 (Nat.le_refl _) HFS.out, HIN.out.bk HA.out han (by omega) (fun x hx => h2.out x (.inl hx)) (fun _ => Stb.St.mg (by omega) (by omega) s1 s2 h2)⟩
        go_wp2_with (go_at_call 68; refine HCA.out.mono ?_; rintro e0 w2 ⟨rfl, E2, hirE, hmE, hsE⟩; have HE3 := hide hirE; have HE4 := hide hmE; have HE5 := hide hsE; clear hirE hmE hsE HCA)
        have q3 := HD.out
        exact ⟨⟨d, E2, rfl, by omega, by omega, HE3.out, HE4.out, by rw [q3]; exact HE5.out⟩, by simp [intOf]; omega⟩
       ·have d3 : decide ((m : Int) < n) = false := by simp; omega
        have HBK2 : Hid (PBk lt C F n (2 * s)) := by
         have q1 := HB.out
         have q2 := HMM.out
         have q3 := HD.out
         exact HIN.out.bk HA.out han (by omega) (fun x _ => rfl) (fun q => HIN.out.less HBK.out HA.out (by omega) q)
        go_wp2
        have q3 := HD.out
        exact ⟨⟨d, F, rfl, by omega, by omega, HIR.out, HFS.out, by rw [q3]; exact HBK2.out⟩, by simp [intOf]; omega⟩
    ·have d1 : decide ((s : Int) < n) = false := by simp; omega
     have hx1 : ¬ (s : Int) < n := by omega
     have HF := hide (pbk_all HBK.out (by omega))
     clear c1
     go_wp2
     go_end0
     exact ⟨rfl, G, HI.out, HF.out⟩
theorem pstable_none (v fv : Value) (w : World) :
  Calls Try.prog 58 #[v, .int .i64 0, fv] w fun e w' => e = .returned (.tuple #[]) ∧ w' = w := by
 have HCA : Hid (Calls Try.prog 67 #[v, .int .i64 0, .int .i64 0, fv] w fun e w' => e = .returned (.tuple #[]) ∧ w' = w) := pinsertion_none v fv 0 0 w (by omega) (by omega)
 go_enter Try.func58, Try.ntmps58
 go_wp2
 refine wp_loop_rounds 1 ?_
 rw [rounds_succ]
 go_wp2_with (go_at_call 67; refine HCA.out.mono ?_; rintro e0 w2 ⟨rfl, rfl⟩)
 refine wp_loop_rounds 1 ?_
 rw [rounds_succ]
 go_wp2
 go_end0
 exact ⟨rfl, rfl⟩
theorem pSortStable_any (w0 : World) (B blk n cap : Nat) (fn : Nat) (sv : Value) (kc : Nat → Nat → Int) (lt : Nat → Nat → Prop) (S : Nat → Prop) (C : Nat → Nat) (w : World)
  (hen : ∀ (args : Array Value) (w : World), (callFunc fn args).run Try.prog w = .ok (.enter fn args) w) (hq : PCmps fn sv kc S w0 blk) (ho : POdr kc lt)
  (h : PR w0 B blk n cap w C) (hn : n ≤ 1000) (hS : ∀ k, k < n → S (C k)) (hc : ∀ i j, i < j → j < n → C i < C j) :
  Calls Try.prog 42 #[.slice (some ⟨blk, 0, none⟩) n cap, .func (.func fn) #[sv] #[]] w fun e w' => e = .returned (.tuple #[]) ∧ ∃ D, PR w0 B blk n cap w' D ∧ Stb.St lt C D 0 n := by
 have HCA := hide (pstable_any w0 B blk n cap fn sv kc lt S C w hen hq ho h hn hS hc)
 clear h hq ho hS hc
 go_enter Try.func42, Try.ntmps42
 go_wp2_with (go_at_call 58; refine HCA.out.mono ?_; rintro e0 w2 ⟨rfl, hE⟩; have HE3 := hide hE; clear hE HCA)
 go_end0
 exact ⟨rfl, HE3.out⟩
theorem pSortStable_none (a : Option Addr) (c : Nat) (fv : Value) (w : World) :
  Calls Try.prog 42 #[.slice a 0 c, fv] w fun e w' => e = .returned (.tuple #[]) ∧ w' = w := by
 have HCA := hide (pstable_none (.slice a 0 c) fv w)
 go_enter Try.func42, Try.ntmps42
 go_wp2_with (go_at_call 58; refine HCA.out.mono ?_; rintro e0 w2 ⟨rfl, rfl⟩)
 go_end0
 exact ⟨rfl, rfl⟩
end Go.Proofs.Ytflohhefbbidcaa
namespace Go.Proofs.Ytflohhefbbidcaa
open Go.RowKit Go.Maps
open Stb
end Go.Proofs.Ytflohhefbbidcaa
namespace Go.Proofs.Ytflohhefbbidcaa
open Go.RowKit Go.Maps
open Stb
end Go.Proofs.Ytflohhefbbidcaa

import Derived.Test.YtoohanojfoichaaGreatDoorOJTreAlike
import Derived.Deep.CutRange
set_option linter.unusedVariables false
namespace Go.Proofs.YtoohanojfoichaaGreatDoor
open Go.RowKit Go.Maps
open Stb
def Merges (w0 : World) (B blk n cap fn : Nat) (caps : Array Value) (lt : Nat → Nat → Prop) (S : Nat → Prop) (a m b : Nat) : Prop :=
 ∀ (C : Nat → Nat) (w : World), IR w0 B blk n cap w C → (∀ k, k < n → S (C k)) → Srd lt C a m → Srd lt C m b → Idx C a m b →
  Calls Tryz.prog 211 #[.slice (some ⟨blk, 0, none⟩) n cap, .int .i64 a, .int .i64 m, .int .i64 b, .func (.func fn) #[] caps] w fun e w' => e = .returned (.tuple #[]) ∧ ∃ D, IR w0 B blk n cap w' D ∧ Mg lt C D a b
set_option maxRecDepth 100000 in
set_option maxHeartbeats 1000000 in
theorem symMerge_mid (w0 : World) (B blk n cap : Nat) (fn : Nat) (caps : Array Value) (kc : Nat → Nat → Int) (lt : Nat → Nat → Prop) (S : Nat → Prop) (a m b : Nat) (C : Nat → Nat) (w : World)
  (hen : ∀ (args : Array Value) (w : World), (callFunc fn args).run Tryz.prog w = .ok (.enter fn args) w) (hq : Cmps fn caps kc S w0 blk) (ho : Odr kc lt)
  (hrec : ∀ a' m' b', a' < m' → m' < b' → b' ≤ n → b' - a' < b - a → Merges w0 B blk n cap fn caps lt S a' m' b')
  (h : IR w0 B blk n cap w C) (hn : n ≤ 1000) (ham : a + 1 < m) (hmb : m + 1 < b) (hb : b ≤ n) (hS : ∀ k, k < n → S (C k)) (h1 : Srd lt C a m) (h2 : Srd lt C m b) (hx : Idx C a m b) :
  Calls Tryz.prog 211 #[.slice (some ⟨blk, 0, none⟩) n cap, .int .i64 a, .int .i64 m, .int .i64 b, .func (.func fn) #[] caps] w fun e w' => e = .returned (.tuple #[]) ∧ ∃ D, IR w0 B blk n cap w' D ∧ Mg lt C D a b := by
 have H := hide h
 have HQ := hide hq
 have HO := hide ho
 have HS := hide hS
 have H1 := hide h1
 have H2 := hide h2
 have HX := hide hx
 have HREC := hide hrec
 obtain ⟨d, hd⟩ : ∃ d, d = m - a := ⟨_, rfl⟩
 obtain ⟨d', hd'⟩ : ∃ d, d = b - m := ⟨_, rfl⟩
 have v0 : IntKind.i64.wrap ((m : Int) - a) = (d : Int) := by rw [IntWalk.i64_in _ (by omega)]; omega
 have v1 : ((d : Int) == 1) = false := by simp; omega
 have v1' : ¬ d = 1 := by omega
 have v2 : IntKind.i64.wrap ((b : Int) - m) = (d' : Int) := by rw [IntWalk.i64_in _ (by omega)]; omega
 have v3 : ((d' : Int) == 1) = false := by simp; omega
 have v3' : ¬ d' = 1 := by omega
 obtain ⟨mid, hmid⟩ : ∃ t, t = (a + b) / 2 := ⟨_, rfl⟩
 have vh : ((a : Int) + b) / 2 = (mid : Int) := by omega
 obtain ⟨N, hN⟩ : ∃ t, t = mid + m := ⟨_, rfl⟩
 have vN : IntKind.i64.wrap ((mid : Int) + m) = (N : Int) := by rw [IntWalk.i64_in _ (by omega)]; omega
 have q1 : a < mid := by omega
 have q2 : mid < b := by omega
 have q3 : 2 * mid ≤ a + b := by omega
 have q4 : a + b ≤ 2 * mid + 1 := by omega
 have HN := hide hN
 clear h hq ho hS h1 h2 hx hrec hd hd' hmid hN
 go_enter Tryz.func211, Tryz.ntmps211
 go_upto_if 140 with fail
 go_cut [20, 21] from 138 (fun s20 s21 wx => ∃ lo r0 : Nat, s20 = .int .i64 lo ∧ s21 = .int .i64 r0 ∧ wx = w ∧ a ≤ lo ∧ lo ≤ r0 ∧ r0 ≤ m ∧ r0 ≤ mid ∧ N ≤ b + lo ∧ (lo = a ∨ lo + b = N) ∧ (r0 = m ∨ r0 = mid))
 case first =>
  have := HN.out
  by_cases c : mid < m
  ·have hd : decide ((m : Int) > mid) = true := by simpa using c
   have hd2 : decide ((mid : Int) < m) = true := by simpa using c
   obtain ⟨lo, hlo⟩ : ∃ t, t = N - b := ⟨_, rfl⟩
   have vl : IntKind.i64.wrap ((N : Int) - b) = (lo : Int) := by rw [IntWalk.i64_in _ (by omega)]; omega
   have HLO := hide hlo
   clear hlo this
   go_wp2_with fail
   go_meet
   have := HN.out
   have := HLO.out
   exact ⟨lo, mid, rfl, rfl, rfl, by omega, by omega, by omega, by omega, by omega, by omega, by omega⟩
  ·have hd : decide ((m : Int) > mid) = false := by simpa using c
   have hd2 : decide ((mid : Int) < m) = false := by simpa using c
   clear this
   go_wp2_with fail
   go_meet
   have := HN.out
   exact ⟨a, m, rfl, rfl, rfl, by omega, by omega, by omega, by omega, by omega, by omega, by omega⟩
 case rest =>
  obtain ⟨lo, r0, rfl, rfl, rfl, g1, g2, g3, g4, g5, g6, g7⟩ := hcut
  have HG6 := hide g6
  have HG7 := hide g7
  obtain ⟨p, hp⟩ : ∃ p, N = p + 1 := ⟨N - 1, by have := HN.out; omega⟩
  have vp : IntKind.i64.wrap ((N : Int) - 1) = (p : Int) := by have := HN.out; rw [IntWalk.i64_in _ (by omega)]; omega
  have HP := hide hp
  clear g6 g7 hp
  go_wp2
  go_loopw [20, 21, 23] (fun r20 r21 _ wr => ∃ s r : Nat, r20 = .int .i64 s ∧ r21 = .int .i64 r ∧ IR w0 B blk n cap wr C ∧ lo ≤ s ∧ s ≤ r ∧ r ≤ r0 ∧ (s = lo ∨ lt (C (s - 1)) (C (p - (s - 1)))) ∧ (r = r0 ∨ lt (C (p - r)) (C r))) (fun r20 r21 _ _ => (intOf r21).toNat - (intOf r20).toNat)
  case atStart => exact ⟨lo, r0, rfl, rfl, H.out, Nat.le_refl _, g2, Nat.le_refl _, .inl rfl, .inl rfl⟩
  case round =>
   obtain ⟨s, r, rfl, rfl, hir, hls, hsr, hrr, hl, hr⟩ := hrel
   have HI := hide hir
   have HL := hide hl
   have HR := hide hr
   clear hl hr hir
   by_cases hlt : s < r
   ·have hd : decide ((s : Int) < r) = true := by simpa using hlt
    obtain ⟨t, ht⟩ : ∃ t, t = (s + r) / 2 := ⟨_, rfl⟩
    have vh : ((s : Int) + r) / 2 = (t : Int) := by omega
    have t1 : s ≤ t := by omega
    have t2 : t < r := by omega
    obtain ⟨u, hu⟩ : ∃ u, u = p - t := ⟨_, rfl⟩
    have u1 : m ≤ u := by have := HN.out; have := HP.out; omega
    have u2 : u < b := by have := HN.out; have := HP.out; omega
    have vu : IntKind.i64.wrap ((p : Int) - t) = (u : Int) := by have := HN.out; have := HP.out; rw [IntWalk.i64_in _ (by omega)]; omega
    have c1 := HI.out.cell (k := u) (by omega)
    have c2 := HI.out.cell (k := t) (by omega)
    have i1 : (t : Int) < n := by omega
    have i2 : (u : Int) < n := by omega
    have hx := HX.out t u (by omega) (by omega) u1 u2
    have HNEG := hide (HO.out.neg _ _ hx)
    have HPOS := hide (HO.out.pos _ _ hx)
    have HQ1 := hide (HQ.out.quiet HI.out (C u) (C t) (HS.out u (by omega)) (HS.out t (by omega)))
    generalize hx1 : C t = x1 at *
    generalize hx2 : C u = x2 at *
    generalize kc x2 x1 = z at *
    have HX1 := hide hx1
    have HX2 := hide hx2
    have HU := hide hu
    clear hx1 hx2 hx ht hu
    by_cases hz : z < 0
    ·have hdz : decide (z < 0) = true := by simpa using hz
     have HNN := hide (HNEG.out hz)
     clear HNEG HPOS hz
     go_wp2_with fail
     go_quiet ((exact HQ1.out _))
     have HI2 : Hid (∀ o, o = wr.drewN nq → IR w0 B blk n cap o C) := fun o e => by rw [e]; exact HI.out.drew nq
     go_wp2
     exact ⟨⟨s, t, rfl, rfl, HI2.out _ rfl, hls, by omega, by omega, HL.out, .inr (by rw [← HU.out, HX1.out, HX2.out]; exact HNN.out)⟩, by simp [intOf]; omega⟩
    ·have hdz : decide (z < 0) = false := by simpa using hz
     have HPP := hide (HPOS.out hz)
     clear HNEG HPOS hz
     go_wp2_with fail
     go_quiet ((exact HQ1.out _))
     have HI2 : Hid (∀ o, o = wr.drewN nq → IR w0 B blk n cap o C) := fun o e => by rw [e]; exact HI.out.drew nq
     go_wp2
     exact ⟨⟨t + 1, r, by go_num, rfl, HI2.out _ rfl, by omega, by omega, hrr, .inr (by rw [show t + 1 - 1 = t by omega, ← HU.out, HX1.out, HX2.out]; exact HPP.out), HR.out⟩, by simp [intOf]; omega⟩
   ·have hd : decide ((s : Int) < r) = false := by simpa using hlt
    obtain ⟨e, he⟩ : ∃ e, e = N - s := ⟨_, rfl⟩
    have e1 : m ≤ e := by have := HN.out; omega
    have e2 : e ≤ b := by omega
    have e3 : mid ≤ e := by have := HN.out; omega
    have e4 : s ≤ mid := by omega
    have e5 : s ≤ m := by omega
    have e6 : a ≤ s := by omega
    have ve : IntKind.i64.wrap ((N : Int) - s) = (e : Int) := by have := HN.out; rw [IntWalk.i64_in _ (by omega)]; omega
    have HH : Hid (Half lt C (rot C s m e) a s mid e b) := by
     have h1 := HN.out
     have h2 := HP.out
     have h6 := HG6.out
     have h7 := HG7.out
     refine Stb.half HO.out.tr H1.out H2.out HX.out e6 e5 e1 e2 (by omega) ?_ ?_
     ·rcases HL.out with c | c
      ·omega
      ·by_cases c0 : s = a
       ·exact .inl c0
       ·refine .inr (.inr ?_)
        rw [show p - (s - 1) = e by omega] at c
        exact c
     ·rcases HR.out with c | c
      ·omega
      ·refine .inr (.inr ?_)
       rw [show p - r = e - 1 by omega, show r = s by omega] at c
       exact c
    clear HL HR HG6 HG7 he hls hsr hrr
    obtain ⟨W, rfl⟩ : ∃ W, W = wr := ⟨wr, rfl⟩
    go_upto_region 39 with fail
    go_cut [185] from 178 (fun c wx => ∃ z : Bool, c = .bool z ∧ (z = true ↔ (s < m ∧ m < e)) ∧ wx = W)
    case first =>
     by_cases c1 : s < m
     ·have d1 : decide ((s : Int) < m) = true := by simpa using c1
      by_cases c2 : m < e
      ·have d2 : decide ((m : Int) < e) = true := by simpa using c2
       go_wp2_with fail
       go_meet
       exact ⟨_, rfl, by simp [c1, c2], rfl⟩
      ·have d2 : decide ((m : Int) < e) = false := by simpa using c2
       go_wp2_with fail
       go_meet
       exact ⟨_, rfl, by simp [c1, c2], rfl⟩
     ·have d1 : decide ((s : Int) < m) = false := by simpa using c1
      go_wp2_with fail
      go_meet
      exact ⟨_, rfl, by simp [c1], rfl⟩
    case rest =>
     obtain ⟨z, rfl, hz, rfl⟩ := hcut
     have HZ := hide hz
     clear hz
     go_upto_if 185 with fail
     go_cut [] from 186 (fun wx => IR w0 B blk n cap wx (rot C s m e))
     case first =>
      cases z
      case true =>
       have c : s < m ∧ m < e := HZ.out.1 rfl
       have HC := hide (rotate_any w0 B blk n cap (.func (.func fn) #[] caps) s m e C wc HI.out hn c.1 c.2 (by omega))
       clear c
       go_wp2_with (go_at_call 216; refine HC.out.mono ?_; rintro e0 w1 ⟨rfl, hir1⟩; have HI1 := hide hir1; clear hir1 HC)
       go_meet
       exact HI1.out
      case false =>
       have c : ¬ (s < m ∧ m < e) := fun h => by have := HZ.out.2 h; simp at this
       have HI1 : Hid (IR w0 B blk n cap wc (rot C s m e)) := by
        show IR _ _ _ _ _ _ _
        rw [rot_none C s m e e5 e1 (by omega)]; exact HI.out
       clear c
       go_wp2_with fail
       go_meet
       exact HI1.out
     case rest =>
      have HI1 := hide hcut
      have HS1 := hide (rot_all (S := S) HS.out e5 e1 (show e ≤ n by omega))
      clear hcut HI
      generalize rot C s m e = D at *
      obtain ⟨W, rfl⟩ : ∃ W, W = wc := ⟨wc, rfl⟩
      go_upto_region 41 with fail
      go_cut [199] from 192 (fun c wx => ∃ z : Bool, c = .bool z ∧ (z = true ↔ (a < s ∧ s < mid)) ∧ wx = W)
      case first =>
       by_cases c1 : a < s
       ·have d1 : decide ((a : Int) < s) = true := by simpa using c1
        by_cases c2 : s < mid
        ·have d2 : decide ((s : Int) < mid) = true := by simpa using c2
         go_wp2_with fail
         go_meet
         exact ⟨_, rfl, by simp [c1, c2], rfl⟩
        ·have d2 : decide ((s : Int) < mid) = false := by simpa using c2
         go_wp2_with fail
         go_meet
         exact ⟨_, rfl, by simp [c1, c2], rfl⟩
       ·have d1 : decide ((a : Int) < s) = false := by simpa using c1
        go_wp2_with fail
        go_meet
        exact ⟨_, rfl, by simp [c1], rfl⟩
      case rest =>
       obtain ⟨z, rfl, hz, rfl⟩ := hcut
       have HZ := hide hz
       clear hz
       go_upto_if 199 with fail
       go_cut [] from 200 (fun wx => ∃ E, IR w0 B blk n cap wx E ∧ Mg lt D E a mid)
       case first =>
        cases z
        case true =>
         have c : a < s ∧ s < mid := HZ.out.1 rfl
         have HC := hide (HREC.out a s mid c.1 c.2 (by omega) (by omega) D wc HI1.out HS1.out HH.out.s1 HH.out.s2 HH.out.i1)
         clear c
         go_wp2_with (go_at_call 211; refine HC.out.mono ?_; rintro e0 w1 ⟨rfl, hir1⟩; have HE1 := hide hir1; clear hir1 HC)
         go_meet
         exact HE1.out
        case false =>
         have c : ¬ (a < s ∧ s < mid) := fun h => by have := HZ.out.2 h; simp at this
         have HM1 := hide (Mg.none HH.out.s1 HH.out.s2 c e6 e4)
         clear c
         go_wp2_with fail
         go_meet
         exact ⟨D, HI1.out, HM1.out⟩
       case rest =>
        obtain ⟨E, hirE, hmE⟩ := hcut
        have HI2 := hide hirE
        have HM2 := hide hmE
        have HS2 := hide (Mg.all hmE (by omega) HS1.out)
        have HA2 := hide (HH.out.again2 e3 e2 hmE)
        clear hirE hmE HI1
        obtain ⟨W, rfl⟩ : ∃ W, W = wc := ⟨wc, rfl⟩
        go_upto_region 43 with fail
        go_cut [213] from 206 (fun c wx => ∃ z : Bool, c = .bool z ∧ (z = true ↔ (mid < e ∧ e < b)) ∧ wx = W)
        case first =>
         by_cases c1 : mid < e
         ·have d1 : decide ((mid : Int) < e) = true := by simpa using c1
          by_cases c2 : e < b
          ·have d2 : decide ((e : Int) < b) = true := by simpa using c2
           go_wp2_with fail
           go_meet
           exact ⟨_, rfl, by simp [c1, c2], rfl⟩
          ·have d2 : decide ((e : Int) < b) = false := by simpa using c2
           go_wp2_with fail
           go_meet
           exact ⟨_, rfl, by simp [c1, c2], rfl⟩
         ·have d1 : decide ((mid : Int) < e) = false := by simpa using c1
          go_wp2_with fail
          go_meet
          exact ⟨_, rfl, by simp [c1], rfl⟩
        case rest =>
         obtain ⟨z, rfl, hz, rfl⟩ := hcut
         have HZ := hide hz
         clear hz
         cases z
         case true =>
          have c : mid < e ∧ e < b := HZ.out.1 rfl
          have HC := hide (HREC.out mid e b c.1 c.2 (by omega) (by omega) E wc HI2.out HS2.out HA2.out.1 HA2.out.2.1 HA2.out.2.2)
          clear c
          go_wp2_with (go_at_call 211; refine HC.out.mono ?_; rintro e0 w1 ⟨rfl, G, hirG, hmG⟩; have HE1 := hide hirG; have HE2 := hide (HH.out.mg (by omega) (by omega) HM2.out hmG); clear hirG hmG HC)
          go_end0
          exact ⟨rfl, G, HE1.out, HE2.out⟩
         case false =>
          have c : ¬ (mid < e ∧ e < b) := fun h => by have := HZ.out.2 h; simp at this
          have HE2 := hide (HH.out.mg (by omega) (by omega) HM2.out (Mg.none HA2.out.1 HA2.out.2.1 c e3 e2))
          clear c
          go_wp2
          go_end0
          exact ⟨rfl, E, HI2.out, HE2.out⟩
theorem symMerge_any (w0 : World) (B blk n cap : Nat) (fn : Nat) (caps : Array Value) (kc : Nat → Nat → Int) (lt : Nat → Nat → Prop) (S : Nat → Prop)
  (hen : ∀ (args : Array Value) (w : World), (callFunc fn args).run Tryz.prog w = .ok (.enter fn args) w) (hq : Cmps fn caps kc S w0 blk) (ho : Odr kc lt) (hn : n ≤ 1000) :
  ∀ k a m b, b - a ≤ k → a < m → m < b → b ≤ n → Merges w0 B blk n cap fn caps lt S a m b := by
 intro k
 induction k with
 | zero => intro a m b h1 h2 h3; omega
 | succ k ih =>
  intro a m b h1 h2 h3 h4 C w hir hS s1 s2 hx
  by_cases c1 : m = a + 1
  ·exact symMerge_up w0 B blk n cap fn caps kc lt S a m b C w hen hq ho hir hn c1 h3 h4 hS s2 hx
  ·by_cases c2 : b = m + 1
   ·exact symMerge_down w0 B blk n cap fn caps kc lt S a m b C w hen hq ho hir hn (by omega) c2 h4 hS s1 hx
   ·exact symMerge_mid w0 B blk n cap fn caps kc lt S a m b C w hen hq ho (fun a' m' b' g1 g2 g3 g4 => ih a' m' b' (by omega) g1 g2 g3) hir hn (by omega) (by omega) h4 hS s1 s2 hx
end Go.Proofs.YtoohanojfoichaaGreatDoor
namespace Go.Proofs.YtoohanojfoichaaGreatDoor
open Go.RowKit Go.Maps
open Stb
theorem insertion_none (v fv : Value) (a b : Nat) (w : World) (ha : a ≤ 1000) (h : b ≤ a + 1) :
  Calls Tryz.prog 210 #[v, .int .i64 a, .int .i64 b, fv] w fun e w' => e = .returned (.tuple #[]) ∧ w' = w := by
 have v1 : IntKind.i64.wrap ((a : Int) + 1) = ((a + 1 : Nat) : Int) := by rw [IntWalk.i64_in _ (by omega)]; omega
 have hd : decide ((((a + 1 : Nat)) : Int) < b) = false := by simp; omega
 have hd2 : ¬ (a + 1 < b) := by omega
 obtain ⟨c, hc⟩ : ∃ c, c = a + 1 := ⟨_, rfl⟩
 rw [← hc] at v1 hd hd2
 clear hc h
 go_enter Tryz.func210, Tryz.ntmps210
 go_wp2
 refine wp_loop_rounds 1 ?_
 rw [rounds_succ]
 go_wp2
 go_end0
 exact ⟨rfl, rfl⟩
structure P20 (lt : Nat → Nat → Prop) (n : Nat) (C D : Nat → Nat) : Prop where
 a : n ≤ 20 → Stb.St lt C D 0 n
 b : 20 < n → Stb.St lt C D 0 20
 c : 20 < n → n ≤ 40 → Stb.St lt C D 20 n
 d : 40 < n → Stb.St lt C D 20 40 ∧ Stb.St lt C D 40 n
structure P40 (lt : Nat → Nat → Prop) (n : Nat) (C D : Nat → Nat) : Prop where
 a : n ≤ 40 → Stb.St lt C D 0 n
 b : 40 < n → Stb.St lt C D 0 40 ∧ Stb.St lt C D 40 n
theorem Stb.St.ins {lt : Nat → Nat → Prop} {C D E : Nat → Nat} {a b : Nat} (hs : ∀ k, a ≤ k → k < b → D k = C k) (h : Mg lt D E a b) : Stb.St lt C E a b := ⟨h.srd, fun x => (h.inn x).trans (In.same hs)⟩
theorem p20_of {lt : Nat → Nat → Prop} {n a : Nat} {C D E : Nat → Nat} (hn : n ≤ 60) (h1 : a ≤ n) (h2 : n < a + 20) (h3 : a % 20 = 0) (hb : ∀ j, j + 20 ≤ a → j % 20 = 0 → Stb.St lt C D j (j + 20)) (hs : ∀ k, a ≤ k → D k = C k) (h : Mg lt D E a n) : P20 lt n C E := by
 have hl := Stb.St.ins (fun k k1 _ => hs k k1) h
 have ho : ∀ j, j + 20 ≤ a → j % 20 = 0 → Stb.St lt C E j (j + 20) := fun j j1 j2 => (hb j j1 j2).same fun k k1 k2 => h.out k (.inl (by omega))
 have hz : ∀ x, Stb.St lt C E x x := fun x => ⟨fun i j h1 h2 h3 => by omega, fun y => ⟨fun ⟨k, k1, k2, _⟩ => by omega, fun ⟨k, k1, k2, _⟩ => by omega⟩⟩
 have : a = 0 ∨ a = 20 ∨ a = 40 ∨ a = 60 := by omega
 rcases this with rfl | rfl | rfl | rfl
 ·exact ⟨fun _ => hl, fun _ => by omega, fun _ => by omega, fun _ => by omega⟩
 ·refine ⟨fun c => ?_, fun _ => ho 0 (by omega) (by omega), fun _ _ => hl, fun _ => by omega⟩
  obtain rfl : n = 20 := by omega
  exact ho 0 (by omega) (by omega)
 ·refine ⟨fun c => by omega, fun _ => ho 0 (by omega) (by omega), fun _ c => ?_, fun _ => ⟨ho 20 (by omega) (by omega), hl⟩⟩
  obtain rfl : n = 40 := by omega
  exact ho 20 (by omega) (by omega)
 ·refine ⟨fun c => by omega, fun _ => ho 0 (by omega) (by omega), fun _ c => by omega, fun _ => ⟨ho 20 (by omega) (by omega), ?_⟩⟩
  obtain rfl : n = 60 := by omega
  exact ho 40 (by omega) (by omega)
set_option maxRecDepth 100000 in
set_option maxHeartbeats 1000000 in
theorem stable_any (w0 : World) (B blk n cap : Nat) (fn : Nat) (caps : Array Value) (kc : Nat → Nat → Int) (lt : Nat → Nat → Prop) (S : Nat → Prop) (C : Nat → Nat) (w : World)
  (hen : ∀ (args : Array Value) (w : World), (callFunc fn args).run Tryz.prog w = .ok (.enter fn args) w) (hq : Cmps fn caps kc S w0 blk) (ho : Odr kc lt)
  (h : IR w0 B blk n cap w C) (hn : n ≤ 60) (hS : ∀ k, k < n → S (C k)) (hc : ∀ i j, i < j → j < n → C i < C j) :
  Calls Tryz.prog 200 #[.slice (some ⟨blk, 0, none⟩) n cap, .int .i64 n, .func (.func fn) #[] caps] w fun e w' => e = .returned (.tuple #[]) ∧ ∃ D, IR w0 B blk n cap w' D ∧ Stb.St lt C D 0 n := by
 have H := hide h
 have HQ := hide hq
 have HO := hide ho
 have HS := hide hS
 have HC := hide hc
 clear h hq ho hS hc
 go_enter Tryz.func200, Tryz.ntmps200
 go_wp2
 go_loopw [7, 8] (fun r7 r8 wr => ∃ (a b : Nat) (D : Nat → Nat), r7 = .int .i64 a ∧ r8 = .int .i64 b ∧ b = a + 20 ∧ a ≤ n ∧ a % 20 = 0 ∧ IR w0 B blk n cap wr D ∧ (∀ k, k < n → S (D k)) ∧ (∀ j, j + 20 ≤ a → j % 20 = 0 → Stb.St lt C D j (j + 20)) ∧ (∀ k, a ≤ k → D k = C k)) (fun r7 _ _ => n - (intOf r7).toNat)
 case atStart => exact ⟨0, 20, C, rfl, rfl, rfl, Nat.zero_le _, rfl, H.out, HS.out, fun j hj => by omega, fun _ _ => rfl⟩
 case round =>
  obtain ⟨a, b, D, rfl, rfl, hb, han, ham, hir, hDS, hst, hsm⟩ := hrel
  have HB := hide hb
  have HI := hide hir
  have HDS := hide hDS
  have HST := hide hst
  have HSM := hide hsm
  have HAM := hide ham
  have HCX : Hid (∀ i j, a ≤ i → i < j → j < n → D i < D j) := fun i j h1 h2 h3 => by
   rw [hsm i h1, hsm j (by omega)]; exact HC.out i j h2 h3
  clear hb hir hDS hst hsm ham
  by_cases hbn : b ≤ n
  ·have hd : decide ((b : Int) ≤ n) = true := by simpa using hbn
   have HCA := hide (insertion_any w0 B blk n cap fn caps kc lt S a b D wr hen HQ.out HO.out HI.out (by omega) (by have := HB.out; omega) hbn HDS.out (fun i j h1 h2 h3 => HCX.out i j h1 h2 (by omega)))
   obtain ⟨b', hb'⟩ : ∃ b', b' = b + 20 := ⟨_, rfl⟩
   have vb : IntKind.i64.wrap ((b : Int) + 20) = (b' : Int) := by rw [IntWalk.i64_in _ (by omega)]; omega
   have HB' := hide hb'
   clear hb'
   go_wp2_with (go_at_call 210; refine HCA.out.mono ?_; rintro e0 w1 ⟨rfl, E, hirE, hmE⟩; have HE1 := hide hirE; have HE2 := hide hmE; clear hirE hmE HCA)
   have hb1 := HB.out
   have hb2 := HB'.out
   have hb3 := HAM.out
   refine ⟨⟨b, b', E, rfl, rfl, hb2, hbn, by omega, HE1.out, Mg.all HE2.out hbn HDS.out, fun j j1 j2 => ?_, fun k hk => ?_⟩, by simp [intOf]; omega⟩
   ·by_cases c : j + 20 ≤ a
    ·exact (HST.out j c j2).same fun k k1 k2 => HE2.out.out k (.inl (by omega))
    ·obtain rfl : j = a := by omega
     rw [← hb1]
     exact Stb.St.ins (fun k k1 _ => HSM.out k k1) HE2.out
   ·rw [HE2.out.out k (.inr hk)]; exact HSM.out k (by omega)
  ·have hd : decide ((b : Int) ≤ n) = false := by simpa using hbn
   have HCA := hide (insertion_any w0 B blk n cap fn caps kc lt S a n D wr hen HQ.out HO.out HI.out (by omega) han (Nat.le_refl _) HDS.out HCX.out)
   have HAF : Hid (∀ E, Mg lt D E a n → P20 lt n C E ∧ ∀ k, k < n → S (E k)) := fun E hE => ⟨p20_of hn han (by have := HB.out; omega) HAM.out HST.out HSM.out hE, Mg.all hE (Nat.le_refl _) HDS.out⟩
   obtain ⟨W, rfl⟩ : ∃ W, W = wr := ⟨wr, rfl⟩
   go_wp2_with (go_at_call 210; refine HCA.out.mono ?_; rintro e0 w1 ⟨rfl, E, hirE, hmE⟩; have HE1 := hide hirE; have HE2 := hide (HAF.out E hmE); clear hirE hmE HCA HAF)
   clear HST HSM HCX HDS HI HB HAM
   go_loopw [6, 7, 8, 9] (fun r6 _ _ _ wr => ∃ (s : Nat) (G : Nat → Nat), r6 = .int .i64 s ∧ IR w0 B blk n cap wr G ∧ (∀ k, k < n → S (G k)) ∧ ((s = 20 ∧ P20 lt n C G) ∨ (s = 40 ∧ P40 lt n C G) ∨ (s = 80 ∧ Stb.St lt C G 0 n))) (fun r6 _ _ _ _ => 80 - (intOf r6).toNat)
   case atStart => exact ⟨20, E, rfl, HE1.out, HE2.out.2, .inl ⟨rfl, HE2.out.1⟩⟩
   case round =>
    obtain ⟨s, G, rfl, hir, hGS, hcase⟩ := hrel
    have HI := hide hir
    have HGS := hide hGS
    clear hir hGS
    rcases hcase with ⟨rfl, hp⟩ | ⟨rfl, hp⟩ | ⟨rfl, hp⟩
    ·have HP := hide hp
     clear hp
     by_cases c1 : 20 < n
     ·have d1 : decide ((20 : Int) < n) = true := by simp; omega
      have hx1 : (20 : Int) < n := by omega
      by_cases c2 : 40 ≤ n
      ·have d2 : decide ((40 : Int) ≤ n) = true := by simp; omega
       have hx2 : (40 : Int) ≤ n := by omega
       have s1 := HP.out.b c1
       have s2 : Stb.St lt C G 20 40 := by
        by_cases c3 : n ≤ 40
        ·obtain rfl : n = 40 := by omega
         exact HP.out.c c1 c3
        ·exact (HP.out.d (by omega)).1
       have HCA : Hid (Calls Tryz.prog 211 #[.slice (some ⟨blk, 0, none⟩) n cap, .int .i64 0, .int .i64 20, .int .i64 40, .func (.func fn) #[] caps] wr fun e w' => e = .returned (.tuple #[]) ∧ ∃ D, IR w0 B blk n cap w' D ∧ Mg lt G D 0 40) :=
        symMerge_any w0 B blk n cap fn caps kc lt S hen HQ.out HO.out (by omega) 60 0 20 40 (by omega) (by omega) (by omega) c2 G wr HI.out HGS.out s1.srd s2.srd (Stb.St.idx HC.out c2 s1 s2)
       have HAF : Hid (∀ E, Mg lt G E 0 40 → P40 lt n C E ∧ ∀ k, k < n → S (E k)) := fun E hE => ⟨⟨fun c => by
         obtain rfl : n = 40 := by omega
         exact Stb.St.mg (by omega) (by omega) s1 s2 hE, fun c => ⟨Stb.St.mg (by omega) (by omega) s1 s2 hE, (HP.out.d c).2.same fun k k1 k2 => hE.out k (.inr k1)⟩⟩, Mg.all hE c2 HGS.out⟩
       have e80 : ¬ (80 : Int) ≤ n := by omega
       have d80 : decide ((80 : Int) ≤ n) = false := by simp; omega
       have e60 : ¬ (60 : Int) < n := by omega
       have d60 : decide ((60 : Int) < n) = false := by simp; omega
       clear s1 s2 c1 c2
       go_wp2
       refine wp_loop_rounds 2 ?_
       rw [rounds_succ]
       go_wp2_with (go_at_call 211; refine HCA.out.mono ?_; rintro e0 w2 ⟨rfl, E2, hirE, hmE⟩; have HE3 := hide hirE; have HE4 := hide (HAF.out E2 hmE); clear hirE hmE HCA HAF)
       rw [rounds_succ]
       go_wp2
       exact ⟨⟨40, E2, rfl, HE3.out, HE4.out.2, .inr (.inl ⟨rfl, HE4.out.1⟩)⟩, by simp [intOf]⟩
      ·have d2 : decide ((40 : Int) ≤ n) = false := by simp; omega
       have hx2 : ¬ (40 : Int) ≤ n := by omega
       have s1 := HP.out.b c1
       have s2 := HP.out.c c1 (by omega)
       have HCA : Hid (Calls Tryz.prog 211 #[.slice (some ⟨blk, 0, none⟩) n cap, .int .i64 0, .int .i64 20, .int .i64 n, .func (.func fn) #[] caps] wr fun e w' => e = .returned (.tuple #[]) ∧ ∃ D, IR w0 B blk n cap w' D ∧ Mg lt G D 0 n) :=
        symMerge_any w0 B blk n cap fn caps kc lt S hen HQ.out HO.out (by omega) 60 0 20 n (by omega) (by omega) (by omega) (Nat.le_refl _) G wr HI.out HGS.out s1.srd s2.srd (Stb.St.idx HC.out (Nat.le_refl _) s1 s2)
       have HAF : Hid (∀ E, Mg lt G E 0 n → P40 lt n C E ∧ ∀ k, k < n → S (E k)) := fun E hE => ⟨⟨fun c => Stb.St.mg (by omega) (by omega) s1 s2 hE, fun c => by omega⟩, Mg.all hE (Nat.le_refl _) HGS.out⟩
       clear s1 s2 c1 c2
       go_wp2
       refine wp_loop_rounds 1 ?_
       rw [rounds_succ]
       go_wp2_with (go_at_call 211; refine HCA.out.mono ?_; rintro e0 w2 ⟨rfl, E2, hirE, hmE⟩; have HE3 := hide hirE; have HE4 := hide (HAF.out E2 hmE); clear hirE hmE HCA HAF)
       exact ⟨⟨40, E2, rfl, HE3.out, HE4.out.2, .inr (.inl ⟨rfl, HE4.out.1⟩)⟩, by simp [intOf]⟩
     ·have d1 : decide ((20 : Int) < n) = false := by simp; omega
      have hx1 : ¬ (20 : Int) < n := by omega
      have HF := hide (HP.out.a (by omega))
      clear c1
      go_wp2
      go_end0
      exact ⟨rfl, G, HI.out, HF.out⟩
    ·have HP := hide hp
     clear hp
     by_cases c1 : 40 < n
     ·have d1 : decide ((40 : Int) < n) = true := by simp; omega
      have hx1 : (40 : Int) < n := by omega
      have e80 : ¬ (80 : Int) ≤ n := by omega
      have d80 : decide ((80 : Int) ≤ n) = false := by simp; omega
      have s1 := (HP.out.b c1).1
      have s2 := (HP.out.b c1).2
      have HCA : Hid (Calls Tryz.prog 211 #[.slice (some ⟨blk, 0, none⟩) n cap, .int .i64 0, .int .i64 40, .int .i64 n, .func (.func fn) #[] caps] wr fun e w' => e = .returned (.tuple #[]) ∧ ∃ D, IR w0 B blk n cap w' D ∧ Mg lt G D 0 n) :=
       symMerge_any w0 B blk n cap fn caps kc lt S hen HQ.out HO.out (by omega) 60 0 40 n (by omega) (by omega) (by omega) (Nat.le_refl _) G wr HI.out HGS.out s1.srd s2.srd (Stb.St.idx HC.out (Nat.le_refl _) s1 s2)
      have HAF : Hid (∀ E, Mg lt G E 0 n → Stb.St lt C E 0 n ∧ ∀ k, k < n → S (E k)) := fun E hE => ⟨Stb.St.mg (by omega) (by omega) s1 s2 hE, Mg.all hE (Nat.le_refl _) HGS.out⟩
      clear s1 s2 c1
      go_wp2
      refine wp_loop_rounds 1 ?_
      rw [rounds_succ]
      go_wp2_with (go_at_call 211; refine HCA.out.mono ?_; rintro e0 w2 ⟨rfl, E2, hirE, hmE⟩; have HE3 := hide hirE; have HE4 := hide (HAF.out E2 hmE); clear hirE hmE HCA HAF)
      exact ⟨⟨80, E2, rfl, HE3.out, HE4.out.2, .inr (.inr ⟨rfl, HE4.out.1⟩)⟩, by simp [intOf]⟩
     ·have d1 : decide ((40 : Int) < n) = false := by simp; omega
      have hx1 : ¬ (40 : Int) < n := by omega
      have HF := hide (HP.out.a (by omega))
      clear c1
      go_wp2
      go_end0
      exact ⟨rfl, G, HI.out, HF.out⟩
    ·have d1 : decide ((80 : Int) < n) = false := by simp; omega
     have hx1 : ¬ (80 : Int) < n := by omega
     have HF := hide hp
     clear hp
     go_wp2
     go_end0
     exact ⟨rfl, G, HI.out, HF.out⟩
theorem stable_none (v fv : Value) (w : World) :
  Calls Tryz.prog 200 #[v, .int .i64 0, fv] w fun e w' => e = .returned (.tuple #[]) ∧ w' = w := by
 have HCA : Hid (Calls Tryz.prog 210 #[v, .int .i64 0, .int .i64 0, fv] w fun e w' => e = .returned (.tuple #[]) ∧ w' = w) := insertion_none v fv 0 0 w (by omega) (by omega)
 go_enter Tryz.func200, Tryz.ntmps200
 go_wp2
 refine wp_loop_rounds 1 ?_
 rw [rounds_succ]
 go_wp2_with (go_at_call 210; refine HCA.out.mono ?_; rintro e0 w2 ⟨rfl, rfl⟩)
 refine wp_loop_rounds 1 ?_
 rw [rounds_succ]
 go_wp2
 go_end0
 exact ⟨rfl, rfl⟩
theorem SortStable_any (w0 : World) (B blk n cap : Nat) (fn : Nat) (caps : Array Value) (kc : Nat → Nat → Int) (lt : Nat → Nat → Prop) (S : Nat → Prop) (C : Nat → Nat) (w : World)
  (hen : ∀ (args : Array Value) (w : World), (callFunc fn args).run Tryz.prog w = .ok (.enter fn args) w) (hq : Cmps fn caps kc S w0 blk) (ho : Odr kc lt)
  (h : IR w0 B blk n cap w C) (hn : n ≤ 60) (hS : ∀ k, k < n → S (C k)) (hc : ∀ i j, i < j → j < n → C i < C j) :
  Calls Tryz.prog 179 #[.slice (some ⟨blk, 0, none⟩) n cap, .func (.func fn) #[] caps] w fun e w' => e = .returned (.tuple #[]) ∧ ∃ D, IR w0 B blk n cap w' D ∧ Stb.St lt C D 0 n := by
 have HCA := hide (stable_any w0 B blk n cap fn caps kc lt S C w hen hq ho h hn hS hc)
 clear h hq ho hS hc
 go_enter Tryz.func179, Tryz.ntmps179
 go_wp2_with (go_at_call 200; refine HCA.out.mono ?_; rintro e0 w2 ⟨rfl, hE⟩; have HE3 := hide hE; clear hE HCA)
 go_end0
 exact ⟨rfl, HE3.out⟩
theorem SortStable_none (a : Option Addr) (c : Nat) (fv : Value) (w : World) :
  Calls Tryz.prog 179 #[.slice a 0 c, fv] w fun e w' => e = .returned (.tuple #[]) ∧ w' = w := by
 have HCA := hide (stable_none (.slice a 0 c) fv w)
 go_enter Tryz.func179, Tryz.ntmps179
 go_wp2_with (go_at_call 200; refine HCA.out.mono ?_; rintro e0 w2 ⟨rfl, rfl⟩)
 go_end0
 exact ⟨rfl, rfl⟩
end Go.Proofs.YtoohanojfoichaaGreatDoor

/- Layer 7: slices.SortStableFunc of ints, walked: two stretches in order merged. -/
import Derived.Test.YtppmekmaclolbabTreStab3
import Derived.Deep.CutRange
namespace Go.Proofs.Ytppmekmaclolbab
set_option linter.unusedVariables false
open Go.RowKit Go.Maps
open Stb

/-- What a merge of two stretches answers. -/
def Merges (w0 : World) (B blk n cap fn : Nat) (caps : Array Value) (lt : Nat → Nat → Prop) (S : Nat → Prop) (a m b : Nat) : Prop :=
  ∀ (C : Nat → Nat) (w : World), IR w0 B blk n cap w C → (∀ k, k < n → S (C k)) → Srd lt C a m → Srd lt C m b → Idx C a m b →
    Calls Try.prog 55 #[.slice (some ⟨blk, 0, none⟩) n cap, .int .i64 a, .int .i64 m, .int .i64 b, .func (.func fn) #[] caps] w fun e w' => e = .returned (.tuple #[]) ∧ ∃ D, IR w0 B blk n cap w' D ∧ Mg lt C D a b
set_option maxRecDepth 100000 in
set_option maxHeartbeats 1000000 in
theorem symMerge_mid (w0 : World) (B blk n cap : Nat) (fn : Nat) (caps : Array Value) (kc : Nat → Nat → Int) (lt : Nat → Nat → Prop) (S : Nat → Prop) (a m b : Nat) (C : Nat → Nat) (w : World)
    (hen : ∀ (args : Array Value) (w : World), (callFunc fn args).run Try.prog w = .ok (.enter fn args) w) (hq : Cmps fn caps kc S w0 blk) (ho : Odr kc lt)
    (hrec : ∀ a' m' b', a' < m' → m' < b' → b' ≤ n → b' - a' < b - a → Merges w0 B blk n cap fn caps lt S a' m' b')
    (h : IR w0 B blk n cap w C) (hn : n ≤ 1000) (ham : a + 1 < m) (hmb : m + 1 < b) (hb : b ≤ n) (hS : ∀ k, k < n → S (C k)) (h1 : Srd lt C a m) (h2 : Srd lt C m b) (hx : Idx C a m b) :
    Calls Try.prog 55 #[.slice (some ⟨blk, 0, none⟩) n cap, .int .i64 a, .int .i64 m, .int .i64 b, .func (.func fn) #[] caps] w fun e w' => e = .returned (.tuple #[]) ∧ ∃ D, IR w0 B blk n cap w' D ∧ Mg lt C D a b := by
  have H := hide h
  have HQ := hide hq
  have HO := hide ho
  have HS := hide hS
  have H1 := hide h1
  have H2 := hide h2
  have HX := hide hx
  have HREC := hide hrec
  obtain ⟨d, hd⟩ : ∃ d, d = m - a := ⟨_, rfl⟩
  obtain ⟨d', hd'⟩ : ∃ d, d = b - m := ⟨_, rfl⟩
  have v0 : IntKind.i64.wrap ((m : Int) - a) = (d : Int) := by rw [IntWalk.i64_in _ (by omega)]; omega
  have v1 : ((d : Int) == 1) = false := by simp; omega
  have v1' : ¬ d = 1 := by omega
  have v2 : IntKind.i64.wrap ((b : Int) - m) = (d' : Int) := by rw [IntWalk.i64_in _ (by omega)]; omega
  have v3 : ((d' : Int) == 1) = false := by simp; omega
  have v3' : ¬ d' = 1 := by omega
  obtain ⟨mid, hmid⟩ : ∃ t, t = (a + b) / 2 := ⟨_, rfl⟩
  have vh : ((a : Int) + b) / 2 = (mid : Int) := by omega
  obtain ⟨N, hN⟩ : ∃ t, t = mid + m := ⟨_, rfl⟩
  have vN : IntKind.i64.wrap ((mid : Int) + m) = (N : Int) := by rw [IntWalk.i64_in _ (by omega)]; omega
  have q1 : a < mid := by omega
  have q2 : mid < b := by omega
  have q3 : 2 * mid ≤ a + b := by omega
  have q4 : a + b ≤ 2 * mid + 1 := by omega
  have HN := hide hN
  clear h hq ho hS h1 h2 hx hrec hd hd' hmid hN
  go_enter Try.func55, Try.ntmps55
  go_upto_if 140 with fail
  go_cut [20, 21] from 138 (fun s20 s21 wx => ∃ lo r0 : Nat, s20 = .int .i64 lo ∧ s21 = .int .i64 r0 ∧ wx = w ∧ a ≤ lo ∧ lo ≤ r0 ∧ r0 ≤ m ∧ r0 ≤ mid ∧ N ≤ b + lo ∧ (lo = a ∨ lo + b = N) ∧ (r0 = m ∨ r0 = mid))
  case first =>
    have := HN.out
    by_cases c : mid < m
    · have hd : decide ((m : Int) > mid) = true := by simpa using c
      have hd2 : decide ((mid : Int) < m) = true := by simpa using c
      obtain ⟨lo, hlo⟩ : ∃ t, t = N - b := ⟨_, rfl⟩
      have vl : IntKind.i64.wrap ((N : Int) - b) = (lo : Int) := by rw [IntWalk.i64_in _ (by omega)]; omega
      have HLO := hide hlo
      clear hlo this
      go_wp2_with fail
      go_meet
      have := HN.out
      have := HLO.out
      exact ⟨lo, mid, rfl, rfl, rfl, by omega, by omega, by omega, by omega, by omega, by omega, by omega⟩
    · have hd : decide ((m : Int) > mid) = false := by simpa using c
      have hd2 : decide ((mid : Int) < m) = false := by simpa using c
      clear this
      go_wp2_with fail
      go_meet
      have := HN.out
      exact ⟨a, m, rfl, rfl, rfl, by omega, by omega, by omega, by omega, by omega, by omega, by omega⟩
  case rest =>
    obtain ⟨lo, r0, rfl, rfl, rfl, g1, g2, g3, g4, g5, g6, g7⟩ := hcut
    have HG6 := hide g6
    have HG7 := hide g7
    obtain ⟨p, hp⟩ : ∃ p, N = p + 1 := ⟨N - 1, by have := HN.out; omega⟩
    have vp : IntKind.i64.wrap ((N : Int) - 1) = (p : Int) := by have := HN.out; rw [IntWalk.i64_in _ (by omega)]; omega
    have HP := hide hp
    clear g6 g7 hp
    go_wp2
    go_loopw [20, 21, 23] (fun r20 r21 _ wr => ∃ s r : Nat, r20 = .int .i64 s ∧ r21 = .int .i64 r ∧ IR w0 B blk n cap wr C ∧ lo ≤ s ∧ s ≤ r ∧ r ≤ r0 ∧ (s = lo ∨ lt (C (s - 1)) (C (p - (s - 1)))) ∧ (r = r0 ∨ lt (C (p - r)) (C r))) (fun r20 r21 _ _ => (intOf r21).toNat - (intOf r20).toNat)
    case atStart => exact ⟨lo, r0, rfl, rfl, H.out, Nat.le_refl _, g2, Nat.le_refl _, .inl rfl, .inl rfl⟩
    case round =>
      obtain ⟨s, r, rfl, rfl, hir, hls, hsr, hrr, hl, hr⟩ := hrel
      have HI := hide hir
      have HL := hide hl
      have HR := hide hr
      clear hl hr hir
      by_cases hlt : s < r
      · have hd : decide ((s : Int) < r) = true := by simpa using hlt
        obtain ⟨t, ht⟩ : ∃ t, t = (s + r) / 2 := ⟨_, rfl⟩
        have vh : ((s : Int) + r) / 2 = (t : Int) := by omega
        have t1 : s ≤ t := by omega
        have t2 : t < r := by omega
        obtain ⟨u, hu⟩ : ∃ u, u = p - t := ⟨_, rfl⟩
        have u1 : m ≤ u := by have := HN.out; have := HP.out; omega
        have u2 : u < b := by have := HN.out; have := HP.out; omega
        have vu : IntKind.i64.wrap ((p : Int) - t) = (u : Int) := by have := HN.out; have := HP.out; rw [IntWalk.i64_in _ (by omega)]; omega
        have c1 := HI.out.cell (k := u) (by omega)
        have c2 := HI.out.cell (k := t) (by omega)
        have i1 : (t : Int) < n := by omega
        have i2 : (u : Int) < n := by omega
        have hx := HX.out t u (by omega) (by omega) u1 u2
        have HNEG := hide (HO.out.neg _ _ hx)
        have HPOS := hide (HO.out.pos _ _ hx)
        have HQ1 := hide (HQ.out.quiet HI.out (C u) (C t) (HS.out u (by omega)) (HS.out t (by omega)))
        generalize hx1 : C t = x1 at *
        generalize hx2 : C u = x2 at *
        generalize kc x2 x1 = z at *
        have HX1 := hide hx1
        have HX2 := hide hx2
        have HU := hide hu
        clear hx1 hx2 hx ht hu
        by_cases hz : z < 0
        · have hdz : decide (z < 0) = true := by simpa using hz
          have HNN := hide (HNEG.out hz)
          clear HNEG HPOS hz
          go_wp2_with fail
          go_quiet ((exact HQ1.out _))
          have HI2 : Hid (∀ o, o = wr.drewN nq → IR w0 B blk n cap o C) := fun o e => by rw [e]; exact HI.out.drew nq
          go_wp2
          exact ⟨⟨s, t, rfl, rfl, HI2.out _ rfl, hls, by omega, by omega, HL.out, .inr (by rw [← HU.out, HX1.out, HX2.out]; exact HNN.out)⟩, by simp [intOf]; omega⟩
        · have hdz : decide (z < 0) = false := by simpa using hz
          have HPP := hide (HPOS.out hz)
          clear HNEG HPOS hz
          go_wp2_with fail
          go_quiet ((exact HQ1.out _))
          have HI2 : Hid (∀ o, o = wr.drewN nq → IR w0 B blk n cap o C) := fun o e => by rw [e]; exact HI.out.drew nq
          go_wp2
          exact ⟨⟨t + 1, r, by go_num, rfl, HI2.out _ rfl, by omega, by omega, hrr, .inr (by rw [show t + 1 - 1 = t by omega, ← HU.out, HX1.out, HX2.out]; exact HPP.out), HR.out⟩, by simp [intOf]; omega⟩
      · have hd : decide ((s : Int) < r) = false := by simpa using hlt
        obtain ⟨e, he⟩ : ∃ e, e = N - s := ⟨_, rfl⟩
        have e1 : m ≤ e := by have := HN.out; omega
        have e2 : e ≤ b := by omega
        have e3 : mid ≤ e := by have := HN.out; omega
        have e4 : s ≤ mid := by omega
        have e5 : s ≤ m := by omega
        have e6 : a ≤ s := by omega
        have ve : IntKind.i64.wrap ((N : Int) - s) = (e : Int) := by have := HN.out; rw [IntWalk.i64_in _ (by omega)]; omega
        have HH : Hid (Half lt C (rot C s m e) a s mid e b) := by
          have h1 := HN.out
          have h2 := HP.out
          have h6 := HG6.out
          have h7 := HG7.out
          refine Stb.half HO.out.tr H1.out H2.out HX.out e6 e5 e1 e2 (by omega) ?_ ?_
          · rcases HL.out with c | c
            · omega
            · by_cases c0 : s = a
              · exact .inl c0
              · refine .inr (.inr ?_)
                rw [show p - (s - 1) = e by omega] at c
                exact c
          · rcases HR.out with c | c
            · omega
            · refine .inr (.inr ?_)
              rw [show p - r = e - 1 by omega, show r = s by omega] at c
              exact c
        clear HL HR HG6 HG7 he hls hsr hrr
        obtain ⟨W, rfl⟩ : ∃ W, W = wr := ⟨wr, rfl⟩
        go_upto_region 39 with fail
        go_cut [185] from 178 (fun c wx => ∃ z : Bool, c = .bool z ∧ (z = true ↔ (s < m ∧ m < e)) ∧ wx = W)
        case first =>
          by_cases c1 : s < m
          · have d1 : decide ((s : Int) < m) = true := by simpa using c1
            by_cases c2 : m < e
            · have d2 : decide ((m : Int) < e) = true := by simpa using c2
              go_wp2_with fail
              go_meet
              exact ⟨_, rfl, by simp [c1, c2], rfl⟩
            · have d2 : decide ((m : Int) < e) = false := by simpa using c2
              go_wp2_with fail
              go_meet
              exact ⟨_, rfl, by simp [c1, c2], rfl⟩
          · have d1 : decide ((s : Int) < m) = false := by simpa using c1
            go_wp2_with fail
            go_meet
            exact ⟨_, rfl, by simp [c1], rfl⟩
        case rest =>
          obtain ⟨z, rfl, hz, rfl⟩ := hcut
          have HZ := hide hz
          clear hz
          go_upto_if 185 with fail
          go_cut [] from 186 (fun wx => IR w0 B blk n cap wx (rot C s m e))
          case first =>
            cases z
            case true =>
              have c : s < m ∧ m < e := HZ.out.1 rfl
              have HC := hide (rotate_any w0 B blk n cap (.func (.func fn) #[] caps) s m e C wc HI.out hn c.1 c.2 (by omega))
              clear c
              go_wp2_with (go_at_call 71; refine HC.out.mono ?_; rintro e0 w1 ⟨rfl, hir1⟩; have HI1 := hide hir1; clear hir1 HC)
              go_meet
              exact HI1.out
            case false =>
              have c : ¬ (s < m ∧ m < e) := fun h => by have := HZ.out.2 h; simp at this
              have HI1 : Hid (IR w0 B blk n cap wc (rot C s m e)) := by
                show IR _ _ _ _ _ _ _
                rw [rot_none C s m e e5 e1 (by omega)]; exact HI.out
              clear c
              go_wp2_with fail
              go_meet
              exact HI1.out
          case rest =>
            have HI1 := hide hcut
            have HS1 := hide (rot_all (S := S) HS.out e5 e1 (show e ≤ n by omega))
            clear hcut HI
            generalize rot C s m e = D at *
            obtain ⟨W, rfl⟩ : ∃ W, W = wc := ⟨wc, rfl⟩
            go_upto_region 41 with fail
            go_cut [199] from 192 (fun c wx => ∃ z : Bool, c = .bool z ∧ (z = true ↔ (a < s ∧ s < mid)) ∧ wx = W)
            case first =>
              by_cases c1 : a < s
              · have d1 : decide ((a : Int) < s) = true := by simpa using c1
                by_cases c2 : s < mid
                · have d2 : decide ((s : Int) < mid) = true := by simpa using c2
                  go_wp2_with fail
                  go_meet
                  exact ⟨_, rfl, by simp [c1, c2], rfl⟩
                · have d2 : decide ((s : Int) < mid) = false := by simpa using c2
                  go_wp2_with fail
                  go_meet
                  exact ⟨_, rfl, by simp [c1, c2], rfl⟩
              · have d1 : decide ((a : Int) < s) = false := by simpa using c1
                go_wp2_with fail
                go_meet
                exact ⟨_, rfl, by simp [c1], rfl⟩
            case rest =>
              obtain ⟨z, rfl, hz, rfl⟩ := hcut
              have HZ := hide hz
              clear hz
              go_upto_if 199 with fail
              go_cut [] from 200 (fun wx => ∃ E, IR w0 B blk n cap wx E ∧ Mg lt D E a mid)
              case first =>
                cases z
                case true =>
                  have c : a < s ∧ s < mid := HZ.out.1 rfl
                  have HC := hide (HREC.out a s mid c.1 c.2 (by omega) (by omega) D wc HI1.out HS1.out HH.out.s1 HH.out.s2 HH.out.i1)
                  clear c
                  go_wp2_with (go_at_call 55; refine HC.out.mono ?_; rintro e0 w1 ⟨rfl, hir1⟩; have HE1 := hide hir1; clear hir1 HC)
                  go_meet
                  exact HE1.out
                case false =>
                  have c : ¬ (a < s ∧ s < mid) := fun h => by have := HZ.out.2 h; simp at this
                  have HM1 := hide (Mg.none HH.out.s1 HH.out.s2 c e6 e4)
                  clear c
                  go_wp2_with fail
                  go_meet
                  exact ⟨D, HI1.out, HM1.out⟩
              case rest =>
                obtain ⟨E, hirE, hmE⟩ := hcut
                have HI2 := hide hirE
                have HM2 := hide hmE
                have HS2 := hide (Mg.all hmE (by omega) HS1.out)
                have HA2 := hide (HH.out.again2 e3 e2 hmE)
                clear hirE hmE HI1
                obtain ⟨W, rfl⟩ : ∃ W, W = wc := ⟨wc, rfl⟩
                go_upto_region 43 with fail
                go_cut [213] from 206 (fun c wx => ∃ z : Bool, c = .bool z ∧ (z = true ↔ (mid < e ∧ e < b)) ∧ wx = W)
                case first =>
                  by_cases c1 : mid < e
                  · have d1 : decide ((mid : Int) < e) = true := by simpa using c1
                    by_cases c2 : e < b
                    · have d2 : decide ((e : Int) < b) = true := by simpa using c2
                      go_wp2_with fail
                      go_meet
                      exact ⟨_, rfl, by simp [c1, c2], rfl⟩
                    · have d2 : decide ((e : Int) < b) = false := by simpa using c2
                      go_wp2_with fail
                      go_meet
                      exact ⟨_, rfl, by simp [c1, c2], rfl⟩
                  · have d1 : decide ((mid : Int) < e) = false := by simpa using c1
                    go_wp2_with fail
                    go_meet
                    exact ⟨_, rfl, by simp [c1], rfl⟩
                case rest =>
                  obtain ⟨z, rfl, hz, rfl⟩ := hcut
                  have HZ := hide hz
                  clear hz
                  cases z
                  case true =>
                    have c : mid < e ∧ e < b := HZ.out.1 rfl
                    have HC := hide (HREC.out mid e b c.1 c.2 (by omega) (by omega) E wc HI2.out HS2.out HA2.out.1 HA2.out.2.1 HA2.out.2.2)
                    clear c
                    go_wp2_with (go_at_call 55; refine HC.out.mono ?_; rintro e0 w1 ⟨rfl, G, hirG, hmG⟩; have HE1 := hide hirG; have HE2 := hide (HH.out.mg (by omega) (by omega) HM2.out hmG); clear hirG hmG HC)
                    go_end0
                    exact ⟨rfl, G, HE1.out, HE2.out⟩
                  case false =>
                    have c : ¬ (mid < e ∧ e < b) := fun h => by have := HZ.out.2 h; simp at this
                    have HE2 := hide (HH.out.mg (by omega) (by omega) HM2.out (Mg.none HA2.out.1 HA2.out.2.1 c e3 e2))
                    clear c
                    go_wp2
                    go_end0
                    exact ⟨rfl, E, HI2.out, HE2.out⟩
theorem symMerge_any (w0 : World) (B blk n cap : Nat) (fn : Nat) (caps : Array Value) (kc : Nat → Nat → Int) (lt : Nat → Nat → Prop) (S : Nat → Prop)
    (hen : ∀ (args : Array Value) (w : World), (callFunc fn args).run Try.prog w = .ok (.enter fn args) w) (hq : Cmps fn caps kc S w0 blk) (ho : Odr kc lt) (hn : n ≤ 1000) :
    ∀ k a m b, b - a ≤ k → a < m → m < b → b ≤ n → Merges w0 B blk n cap fn caps lt S a m b := by
  intro k
  induction k with
  | zero => intro a m b h1 h2 h3; omega
  | succ k ih =>
    intro a m b h1 h2 h3 h4 C w hir hS s1 s2 hx
    by_cases c1 : m = a + 1
    · exact symMerge_up w0 B blk n cap fn caps kc lt S a m b C w hen hq ho hir hn c1 h3 h4 hS s2 hx
    · by_cases c2 : b = m + 1
      · exact symMerge_down w0 B blk n cap fn caps kc lt S a m b C w hen hq ho hir hn (by omega) c2 h4 hS s1 hx
      · exact symMerge_mid w0 B blk n cap fn caps kc lt S a m b C w hen hq ho (fun a' m' b' g1 g2 g3 g4 => ih a' m' b' (by omega) g1 g2 g3) hir hn (by omega) (by omega) h4 hS s1 s2 hx
end Go.Proofs.Ytppmekmaclolbab

/- Layer 7: slices.SortStableFunc of ints, walked: two stretches in order merged, where one of them is a single one. -/
import Derived.Test.YtppmekmaclolbabTreStab2
namespace Go.Proofs.Ytppmekmaclolbab
set_option linter.unusedVariables false
open Go.RowKit Go.Maps
open Stb

set_option maxRecDepth 100000 in
set_option maxHeartbeats 1000000 in
theorem symMerge_up (w0 : World) (B blk n cap : Nat) (fn : Nat) (caps : Array Value) (kc : Nat → Nat → Int) (lt : Nat → Nat → Prop) (S : Nat → Prop) (a m b : Nat) (C : Nat → Nat) (w : World)
    (hen : ∀ (args : Array Value) (w : World), (callFunc fn args).run Try.prog w = .ok (.enter fn args) w) (hq : Cmps fn caps kc S w0 blk) (ho : Odr kc lt)
    (h : IR w0 B blk n cap w C) (hn : n ≤ 1000) (hm : m = a + 1) (hmb : m < b) (hb : b ≤ n) (hS : ∀ k, k < n → S (C k)) (h2 : Srd lt C m b) (hx : Idx C a m b) :
    Calls Try.prog 55 #[.slice (some ⟨blk, 0, none⟩) n cap, .int .i64 a, .int .i64 m, .int .i64 b, .func (.func fn) #[] caps] w fun e w' => e = .returned (.tuple #[]) ∧ ∃ D, IR w0 B blk n cap w' D ∧ Mg lt C D a b := by
  have H := hide h
  have HQ := hide hq
  have HO := hide ho
  have HS := hide hS
  have H2 := hide h2
  have HX := hide hx
  have HM := hide hm
  have v0 : IntKind.i64.wrap ((m : Int) - a) = 1 := by rw [IntWalk.i64_in _ (by omega)]; omega
  clear h hq ho hS h2 hx hm
  go_enter Try.func55, Try.ntmps55
  go_wp2
  go_loopw [10, 11, 12] (fun r10 r11 _ wr => ∃ i j : Nat, r10 = .int .i64 i ∧ r11 = .int .i64 j ∧ IR w0 B blk n cap wr C ∧ m ≤ i ∧ i ≤ j ∧ j ≤ b ∧ (i = m ∨ lt (C (i - 1)) (C a)) ∧ (j = b ∨ lt (C a) (C j))) (fun r10 r11 _ _ => (intOf r11).toNat - (intOf r10).toNat)
  case atStart => exact ⟨m, b, rfl, rfl, H.out, Nat.le_refl _, by omega, Nat.le_refl _, .inl rfl, .inl rfl⟩
  case round =>
    obtain ⟨i, j, rfl, rfl, hir, hmi, hij, hjb, hl, hr⟩ := hrel
    have HI := hide hir
    have HL := hide hl
    have HR := hide hr
    clear hl hr hir
    by_cases hlt : i < j
    · have hd : decide ((i : Int) < j) = true := by simpa using hlt
      obtain ⟨t, ht⟩ : ∃ t, t = (i + j) / 2 := ⟨_, rfl⟩
      have vh : ((i : Int) + j) / 2 = (t : Int) := by omega
      have t1 : i ≤ t := by omega
      have t2 : t < j := by omega
      have c1 := HI.out.cell (k := t) (by omega)
      have c2 := HI.out.cell (k := a) (by have := HM.out; omega)
      have i1 : (t : Int) < n := by omega
      have i2 : (a : Int) < n := by have := HM.out; omega
      have hx := HX.out a t (Nat.le_refl _) (by have := HM.out; omega) (by omega) (by omega)
      have HNEG := hide (HO.out.neg _ _ hx)
      have HPOS := hide (HO.out.pos _ _ hx)
      have HQ1 := hide (HQ.out.quiet HI.out (C t) (C a) (HS.out t (by omega)) (HS.out a (by have := HM.out; omega)))
      generalize hx1 : C t = x1 at *
      generalize hx2 : C a = x2 at *
      generalize kc x1 x2 = z at *
      have HX1 := hide hx1
      clear hx1 hx2 hx ht
      by_cases hz : z < 0
      · have hdz : decide (z < 0) = true := by simpa using hz
        have HN := hide (HNEG.out hz)
        clear HNEG HPOS hz
        go_wp2_with fail
        go_quiet ((exact HQ1.out _))
        have HI2 : Hid (∀ o, o = wr.drewN nq → IR w0 B blk n cap o C) := fun o e => by rw [e]; exact HI.out.drew nq
        go_wp2
        exact ⟨⟨t + 1, j, by go_num, rfl, HI2.out _ rfl, by omega, by omega, hjb, .inr (by rw [show t + 1 - 1 = t by omega, HX1.out]; exact HN.out), HR.out⟩, by simp [intOf]; omega⟩
      · have hdz : decide (z < 0) = false := by simpa using hz
        have HP := hide (HPOS.out hz)
        clear HNEG HPOS hz
        go_wp2_with fail
        go_quiet ((exact HQ1.out _))
        have HI2 : Hid (∀ o, o = wr.drewN nq → IR w0 B blk n cap o C) := fun o e => by rw [e]; exact HI.out.drew nq
        go_wp2
        exact ⟨⟨i, t, rfl, rfl, HI2.out _ rfl, hmi, by omega, by omega, HL.out, .inr (by rw [HX1.out]; exact HP.out)⟩, by simp [intOf]; omega⟩
    · have hd : decide ((i : Int) < j) = false := by simpa using hlt
      have hij' : i = j := by omega
      have HF : Hid (Mg lt C (rot C a m i) a b) := by
        have e := HM.out
        subst e
        exact mg_up HO.out.tr H2.out hmi (by omega) HL.out (by rw [hij']; exact HR.out)
      have HI0 := HI
      obtain ⟨s, hs⟩ : ∃ s, i = s + 1 := ⟨i - 1, by have := HM.out; omega⟩
      have HSI := hide hs
      have hsa : a ≤ s := by have := HM.out; omega
      have hsn : s < n := by omega
      have vs : IntKind.i64.wrap ((i : Int) - 1) = (s : Int) := by rw [IntWalk.i64_in _ (by omega)]; omega
      clear hij' hs HL HR hmi hij hjb
      obtain ⟨W, rfl⟩ : ∃ W, W = wr := ⟨wr, rfl⟩
      go_wp2
      go_loopw [13] (fun r wr => ∃ k : Nat, r = .int .i64 k ∧ a ≤ k ∧ k ≤ s ∧ IR w0 B blk n cap wr (rot C a m (k + 1))) (fun r _ => s - (intOf r).toNat)
      case atStart => exact ⟨a, rfl, Nat.le_refl _, hsa, by rw [rot_none C a m (a + 1) (by have := HM.out; omega) (by have := HM.out; omega) (.inr HM.out.symm)]; exact HI0.out⟩
      case round =>
        obtain ⟨k, rfl, hak, hks, hir⟩ := hrel
        by_cases hk : k < s
        · have hdk : decide ((k : Int) < s) = true := by simpa using hk
          obtain ⟨p, hp⟩ : ∃ p, p = k + 1 := ⟨_, rfl⟩
          have vp : IntKind.i64.wrap ((k : Int) + 1) = (p : Int) := by rw [IntWalk.i64_in _ (by omega)]; omega
          have HP := hide hp
          obtain ⟨c1, c2, z1, z2, c3, c4, z3, z4⟩ := hir.swaps (i := k) (j := p) (by omega) (by omega) (by omega)
          have hsw := hir.swap k p (by omega)
          have e : swp (rot C a m (k + 1)) k p = rot C a m (p + 1) := by rw [HM.out, hp]; exact rot_up C a k hak
          rw [e] at hsw
          have HS2 := hide hsw
          have i1 : (k : Int) < n := by omega
          have i2 : (p : Int) < n := by omega
          generalize rot C a m (k + 1) k = x1 at *
          generalize rot C a m (k + 1) p = x2 at *
          clear hir hp e hsw
          go_wp2_with fail
          go_region
          have HR : Hid (∀ o, o = ((wr.setCell ⟨blk, k, none⟩ (.int .i64 (x2 : Int))).setCell ⟨blk, p, none⟩ (.int .i64 (x1 : Int))).drew → IR w0 B blk n cap o (rot C a m (p + 1))) := fun o e => by rw [e]; exact HS2.out.drew1
          clear c1 c2 z1 z2 c3 c4 z3 z4 HS2
          go_wp2
          have := HP.out
          exact ⟨⟨p, rfl, by omega, by omega, HR.out _ rfl⟩, by simp [intOf]; omega⟩
        · have hdk : decide ((k : Int) < s) = false := by simpa using hk
          have HJ := hide hir
          have e : k = s := by omega
          have HE := hide e
          clear hir e
          go_wp2
          refine bodyPost_ret (results_none rfl _ _ _) rfl ?_
          exact ⟨rfl, _, HJ.out, by rw [HE.out, ← HSI.out]; exact HF.out⟩
set_option maxRecDepth 100000 in
set_option maxHeartbeats 1000000 in
theorem symMerge_down (w0 : World) (B blk n cap : Nat) (fn : Nat) (caps : Array Value) (kc : Nat → Nat → Int) (lt : Nat → Nat → Prop) (S : Nat → Prop) (a m b : Nat) (C : Nat → Nat) (w : World)
    (hen : ∀ (args : Array Value) (w : World), (callFunc fn args).run Try.prog w = .ok (.enter fn args) w) (hq : Cmps fn caps kc S w0 blk) (ho : Odr kc lt)
    (h : IR w0 B blk n cap w C) (hn : n ≤ 1000) (ham : a + 1 < m) (hm : b = m + 1) (hb : b ≤ n) (hS : ∀ k, k < n → S (C k)) (h1 : Srd lt C a m) (hx : Idx C a m b) :
    Calls Try.prog 55 #[.slice (some ⟨blk, 0, none⟩) n cap, .int .i64 a, .int .i64 m, .int .i64 b, .func (.func fn) #[] caps] w fun e w' => e = .returned (.tuple #[]) ∧ ∃ D, IR w0 B blk n cap w' D ∧ Mg lt C D a b := by
  have H := hide h
  have HQ := hide hq
  have HO := hide ho
  have HS := hide hS
  have H1 := hide h1
  have HX := hide hx
  have HM := hide hm
  have hmn : m < n := by omega
  obtain ⟨d, hd⟩ : ∃ d, d = m - a := ⟨_, rfl⟩
  have v0 : IntKind.i64.wrap ((m : Int) - a) = (d : Int) := by rw [IntWalk.i64_in _ (by omega)]; omega
  have v1 : ((d : Int) == 1) = false := by simp; omega
  have v1' : ¬ d = 1 := by omega
  have v2 : IntKind.i64.wrap ((b : Int) - m) = 1 := by rw [IntWalk.i64_in _ (by omega)]; omega
  clear h hq ho hS h1 hx hm hd
  go_enter Try.func55, Try.ntmps55
  go_wp2
  go_loopw [14, 15, 16] (fun r10 r11 _ wr => ∃ i j : Nat, r10 = .int .i64 i ∧ r11 = .int .i64 j ∧ IR w0 B blk n cap wr C ∧ a ≤ i ∧ i ≤ j ∧ j ≤ m ∧ (i = a ∨ lt (C (i - 1)) (C m)) ∧ (j = m ∨ lt (C m) (C j))) (fun r10 r11 _ _ => (intOf r11).toNat - (intOf r10).toNat)
  case atStart => exact ⟨a, m, rfl, rfl, H.out, Nat.le_refl _, by omega, Nat.le_refl _, .inl rfl, .inl rfl⟩
  case round =>
    obtain ⟨i, j, rfl, rfl, hir, hmi, hij, hjb, hl, hr⟩ := hrel
    have HI := hide hir
    have HL := hide hl
    have HR := hide hr
    clear hl hr hir
    by_cases hlt : i < j
    · have hd : decide ((i : Int) < j) = true := by simpa using hlt
      obtain ⟨t, ht⟩ : ∃ t, t = (i + j) / 2 := ⟨_, rfl⟩
      have vh : ((i : Int) + j) / 2 = (t : Int) := by omega
      have t1 : i ≤ t := by omega
      have t2 : t < j := by omega
      have c1 := HI.out.cell (k := m) hmn
      have c2 := HI.out.cell (k := t) (by omega)
      have i1 : (t : Int) < n := by omega
      have i2 : (m : Int) < n := by omega
      have hx := HX.out t m (by omega) (by omega) (by omega) (by have := HM.out; omega)
      have HNEG := hide (HO.out.neg _ _ hx)
      have HPOS := hide (HO.out.pos _ _ hx)
      have HQ1 := hide (HQ.out.quiet HI.out (C m) (C t) (HS.out m hmn) (HS.out t (by omega)))
      generalize hx1 : C t = x1 at *
      generalize hx2 : C m = x2 at *
      generalize kc x2 x1 = z at *
      have HX1 := hide hx1
      clear hx1 hx2 hx ht
      by_cases hz : z < 0
      · have hdz : decide (z < 0) = true := by simpa using hz
        have HN := hide (HNEG.out hz)
        clear HNEG HPOS hz
        go_wp2_with fail
        go_quiet ((exact HQ1.out _))
        have HI2 : Hid (∀ o, o = wr.drewN nq → IR w0 B blk n cap o C) := fun o e => by rw [e]; exact HI.out.drew nq
        go_wp2
        exact ⟨⟨i, t, rfl, rfl, HI2.out _ rfl, hmi, by omega, by omega, HL.out, .inr (by rw [HX1.out]; exact HN.out)⟩, by simp [intOf]; omega⟩
      · have hdz : decide (z < 0) = false := by simpa using hz
        have HP := hide (HPOS.out hz)
        clear HNEG HPOS hz
        go_wp2_with fail
        go_quiet ((exact HQ1.out _))
        have HI2 : Hid (∀ o, o = wr.drewN nq → IR w0 B blk n cap o C) := fun o e => by rw [e]; exact HI.out.drew nq
        go_wp2
        exact ⟨⟨t + 1, j, by go_num, rfl, HI2.out _ rfl, by omega, by omega, hjb, .inr (by rw [show t + 1 - 1 = t by omega, HX1.out]; exact HP.out), HR.out⟩, by simp [intOf]; omega⟩
    · have hd : decide ((i : Int) < j) = false := by simpa using hlt
      have hij' : i = j := by omega
      have him : i ≤ m := by omega
      have HF : Hid (Mg lt C (rot C i m b) a b) := by
        have e := HM.out
        subst e
        exact mg_down HO.out.tr H1.out hmi (by omega) HL.out (by rw [hij']; exact HR.out)
      clear hij' HL HR hij hjb
      obtain ⟨W, rfl⟩ : ∃ W, W = wr := ⟨wr, rfl⟩
      go_wp2
      go_loopw [17] (fun r wr => ∃ k : Nat, r = .int .i64 k ∧ i ≤ k ∧ k ≤ m ∧ IR w0 B blk n cap wr (rot C k m b)) (fun r _ => (intOf r).toNat)
      case atStart => exact ⟨m, rfl, him, Nat.le_refl _, by rw [rot_none C m m b (Nat.le_refl _) (by have := HM.out; omega) (.inl rfl)]; exact HI.out⟩
      case round =>
        obtain ⟨k, rfl, hak, hks, hir⟩ := hrel
        by_cases hk : i < k
        · have hdk : decide ((k : Int) > i) = true := by simpa using hk
          have hdk2 : decide ((i : Int) < k) = true := by simpa using hk
          obtain ⟨p, hp⟩ : ∃ p, k = p + 1 := ⟨k - 1, by omega⟩
          have vp : IntKind.i64.wrap ((k : Int) - 1) = (p : Int) := by rw [IntWalk.i64_in _ (by omega)]; omega
          have HP := hide hp
          obtain ⟨c1, c2, z1, z2, c3, c4, z3, z4⟩ := hir.swaps (i := k) (j := p) (by omega) (by omega) (by omega)
          have hsw := hir.swap k p (by omega)
          have e : swp (rot C k m b) k p = rot C p m b := by rw [HM.out, hp]; exact rot_down C p m (by omega)
          rw [e] at hsw
          have HS2 := hide hsw
          have i1 : (k : Int) < n := by omega
          have i2 : (p : Int) < n := by omega
          generalize rot C k m b k = x1 at *
          generalize rot C k m b p = x2 at *
          clear hir hp e hsw
          go_wp2_with fail
          go_region
          have HR : Hid (∀ o, o = ((wr.setCell ⟨blk, k, none⟩ (.int .i64 (x2 : Int))).setCell ⟨blk, p, none⟩ (.int .i64 (x1 : Int))).drew → IR w0 B blk n cap o (rot C p m b)) := fun o e => by rw [e]; exact HS2.out.drew1
          clear c1 c2 z1 z2 c3 c4 z3 z4 HS2
          go_wp2
          have := HP.out
          exact ⟨⟨p, rfl, by omega, by omega, HR.out _ rfl⟩, by simp [intOf]; omega⟩
        · have hdk : decide ((k : Int) > i) = false := by simpa using hk
          have hdk2 : decide ((i : Int) < k) = false := by simpa using hk
          have HJ := hide hir
          have e : k = i := by omega
          have HE := hide e
          clear hir e
          go_wp2
          refine bodyPost_ret (results_none rfl _ _ _) rfl ?_
          exact ⟨rfl, _, HJ.out, by rw [HE.out]; exact HF.out⟩
end Go.Proofs.Ytppmekmaclolbab

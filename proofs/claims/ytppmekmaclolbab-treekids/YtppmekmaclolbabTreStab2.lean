/- Layer 7: slices.SortStableFunc of ints, walked: the insertion sort of a stretch. -/
import Derived.Test.YtppmekmaclolbabTreStab
namespace Go.Proofs.Ytppmekmaclolbab
set_option linter.unusedVariables false
open Go.RowKit Go.Maps
open Stb

/-- What the function that is handed in answers of two numbers, wherever all but the row is as it was. -/
def Cmps (fn : Nat) (caps : Array Value) (kc : Nat → Nat → Int) (S : Nat → Prop) (w0 : World) (blk : Nat) : Prop :=
  ∀ w : World, Below blk w0 w → ∀ x y, S x → S y →
    Calls Try.prog fn (#[.int .i64 (x : Int), .int .i64 (y : Int)] ++ caps) w fun e w' => e = .returned (.int .i64 (kc x y)) ∧ ∃ q, w' = w.drewN q
structure Odr (kc : Nat → Nat → Int) (lt : Nat → Nat → Prop) : Prop where
  neg : ∀ x y, y < x → kc x y < 0 → lt x y
  pos : ∀ x y, y < x → ¬ kc x y < 0 → lt y x
  tr : ∀ x y z, lt x y → lt y z → lt x z
theorem Cmps.quiet {fn : Nat} {caps : Array Value} {kc : Nat → Nat → Int} {S : Nat → Prop} {w0 : World} {blk B n cap : Nat} (h : Cmps fn caps kc S w0 blk) {w : World} {C : Nat → Nat} (hir : IR w0 B blk n cap w C) (x y : Nat) (hx : S x) (hy : S y) (k : Nat) :
    Calls Try.prog fn (#[.int .i64 (x : Int), .int .i64 (y : Int)] ++ caps) (w.drewN k) fun e w' => e = .returned (.int .i64 (kc x y)) ∧ ∃ q, w' = w.drewN q := by
  refine (h (w.drewN k) (hir.drew k).bel x y hx hy).mono ?_
  rintro e w' ⟨rfl, q, rfl⟩
  exact ⟨rfl, k + q, World.drewN_drewN w k q⟩
theorem rot_all {S : Nat → Prop} {C : Nat → Nat} {n s m e : Nat} (h : ∀ k, k < n → S (C k)) (h1 : s ≤ m) (h2 : m ≤ e) (h3 : e ≤ n) : ∀ k, k < n → S (rot C s m e k) := fun k hk => by
  obtain ⟨j, _, j2, e⟩ := (In.rot (C := C) (a := 0) (Nat.zero_le _) h1 h2 h3).1 ⟨k, Nat.zero_le _, hk, rfl⟩
  rw [← e]; exact h j j2
theorem Mg.all {lt : Nat → Nat → Prop} {S : Nat → Prop} {C D : Nat → Nat} {n a b : Nat} (h : Mg lt C D a b) (hb : b ≤ n) (hs : ∀ k, k < n → S (C k)) : ∀ k, k < n → S (D k) := fun k hk => by
  by_cases c : k < a ∨ b ≤ k
  · rw [h.out k c]; exact hs k hk
  · obtain ⟨j, _, j2, e⟩ := (h.inn _).1 ⟨k, by omega, by omega, rfl⟩
    rw [← e]; exact hs j (by omega)
set_option maxRecDepth 100000 in
set_option maxHeartbeats 1000000 in
theorem insertion_any (w0 : World) (B blk n cap : Nat) (fn : Nat) (caps : Array Value) (kc : Nat → Nat → Int) (lt : Nat → Nat → Prop) (S : Nat → Prop) (a b : Nat) (C : Nat → Nat) (w : World)
    (hen : ∀ (args : Array Value) (w : World), (callFunc fn args).run Try.prog w = .ok (.enter fn args) w) (hq : Cmps fn caps kc S w0 blk) (ho : Odr kc lt)
    (h : IR w0 B blk n cap w C) (hn : n ≤ 1000) (hab : a ≤ b) (hb : b ≤ n) (hS : ∀ k, k < n → S (C k)) (hc : ∀ i j, a ≤ i → i < j → j < b → C i < C j) :
    Calls Try.prog 54 #[.slice (some ⟨blk, 0, none⟩) n cap, .int .i64 a, .int .i64 b, .func (.func fn) #[] caps] w fun e w' => e = .returned (.tuple #[]) ∧ ∃ D, IR w0 B blk n cap w' D ∧ Mg lt C D a b := by
  have H := hide h
  have HQ := hide hq
  have HO := hide ho
  have HS := hide hS
  have HC := hide hc
  have v1 : IntKind.i64.wrap ((a : Int) + 1) = ((a + 1 : Nat) : Int) := by rw [IntWalk.i64_in _ (by omega)]; omega
  clear h hq ho hS hc
  go_enter Try.func54, Try.ntmps54
  go_wp2
  go_loopw [8, 9] (fun r _ wr => ∃ (i : Nat) (D : Nat → Nat), r = .int .i64 i ∧ a < i ∧ (i ≤ b ∨ (i = a + 1 ∧ D = C)) ∧ IR w0 B blk n cap wr D ∧ Mg lt C D a i) (fun r _ _ => b - (intOf r).toNat)
  case atStart => exact ⟨a + 1, C, rfl, by omega, .inr ⟨rfl, rfl⟩, H.out, fun _ _ => rfl, fun _ => Iff.rfl, fun i j h1 h2 h3 => by omega⟩
  case round =>
    obtain ⟨i, D, rfl, hai, hib, hir, hmg⟩ := hrel
    have HM := hide hmg
    by_cases hi : i < b
    · have hd : decide ((i : Int) < b) = true := by simpa using hi
      have HI := hide hir
      have HI0 : Hid (IR w0 B blk n cap wr (rot D i i (i + 1))) := by
        show IR _ _ _ _ _ _ _
        rw [rot_none D i i (i + 1) (Nat.le_refl _) (by omega) (.inl rfl)]; exact hir
      have HDS := hide (Mg.all hmg (by omega) HS.out)
      have HDX : Hid (∀ k, a ≤ k → k < i → D k < D i) := fun k k1 k2 => by
        obtain ⟨p, p1, p2, p3⟩ := (hmg.inn _).1 ⟨k, k1, k2, rfl⟩
        rw [← p3, hmg.out i (.inr (Nat.le_refl _))]
        exact HC.out p i p1 p2 hi
      clear hir hmg hib v1
      obtain ⟨W, rfl⟩ : ∃ W, W = wr := ⟨wr, rfl⟩
      go_wp2
      go_loopw [9] (fun r wr => ∃ j : Nat, r = .int .i64 j ∧ a ≤ j ∧ j ≤ i ∧ IR w0 B blk n cap wr (rot D j i (i + 1)) ∧ (j = i ∨ lt (D i) (D j))) (fun r _ => (intOf r).toNat)
      case atStart => exact ⟨i, rfl, by omega, Nat.le_refl _, HI0.out, .inl rfl⟩
      case round =>
        obtain ⟨j, rfl, haj, hji, hir, hlt⟩ := hrel
        have HLT := hide hlt
        have HJ := hide hir
        by_cases hj : a < j
        · have hdj : decide ((j : Int) > a) = true := by simpa using hj
          have hdj2 : decide ((a : Int) < j) = true := by simpa using hj
          obtain ⟨t, hjt⟩ : ∃ t, j = t + 1 := ⟨j - 1, by omega⟩
          have HJT := hide hjt
          have v1 : IntKind.i64.wrap ((j : Int) - 1) = (t : Int) := by rw [IntWalk.i64_in _ (by omega)]; omega
          have e1 : rot D j i (i + 1) j = D i := by rw [rot_one D (Nat.le_refl _) (by omega)]; congr 1; omega
          have e2 : rot D j i (i + 1) t = D t := rot_out D hji (by omega) (.inl (by omega))
          have HSW := hide (fun q => hir.drew q)
          have c1 := hir.cell (k := j) (by omega)
          have c2 := hir.cell (k := t) (by omega)
          have HRD : Hid (swp (rot D j i (i + 1)) j t = rot D t i (i + 1)) := by rw [hjt]; exact rot_down D t i (by omega)
          rw [e1] at c1
          rw [e2] at c2
          have HQ1 := hide (HQ.out.quiet hir (D i) (D t) (HDS.out i (by omega)) (HDS.out t (by omega)))
          have hx := HDX.out t (by omega) (by omega)
          have HNEG := hide (HO.out.neg _ _ hx)
          have HPOS := hide (HO.out.pos _ _ hx)
          have i1 : (j : Int) < n := by omega
          have i2 : (t : Int) < n := by omega
          generalize hx1 : D i = x1 at *
          generalize hx2 : D t = x2 at *
          generalize kc x1 x2 = z at *
          have HX2 := hide hx2
          have HX1 := hide hx1
          have HE1 := hide e1
          have HE2 := hide e2
          clear hir hlt hx e1 e2 hx2 hx1 hjt
          by_cases hz : z < 0
          · have hdz : decide (z < 0) = true := by simpa using hz
            have HN := hide (HNEG.out hz)
            clear HNEG HPOS hz
            go_wp2_with fail
            go_quiet ((exact HQ1.out _))
            obtain ⟨w2, hw2⟩ : ∃ w2, w2 = wr.drewN nq := ⟨_, rfl⟩
            rw [← hw2]
            have hir2 : IR w0 B blk n cap w2 (rot D j i (i + 1)) := by rw [hw2]; exact HSW.out nq
            have hjt : j ≠ t := by have := HJT.out; omega
            obtain ⟨c1, c2, z1, z2, c3, c4, z3, z4⟩ := hir2.swaps (i := j) (j := t) (by omega) (by omega) hjt
            have HS2 := hide (hir2.swap j t hjt)
            rw [HE1.out] at c1 c4 z4 HS2
            rw [HE2.out] at c2 c3 z3 HS2
            clear hir2 hw2 hjt
            go_wp2_with fail
            go_region
            have HR : Hid (∀ o, o = ((w2.setCell ⟨blk, j, none⟩ (.int .i64 (x2 : Int))).setCell ⟨blk, t, none⟩ (.int .i64 (x1 : Int))).drew → IR w0 B blk n cap o (rot D t i (i + 1))) := fun o e => by rw [e, ← HRD.out]; exact HS2.out.drew1
            clear c1 c2 z1 z2 c3 c4 z3 z4 HS2
            go_wp2
            have := HJT.out
            exact ⟨⟨t, rfl, by omega, by omega, HR.out _ rfl, .inr (by rw [HX2.out]; exact HN.out)⟩, by simp [intOf]; omega⟩
          · have hdz : decide (z < 0) = false := by simpa using hz
            have HP := hide (HPOS.out hz)
            clear HNEG HPOS hz
            go_wp2_with fail
            go_quiet ((exact HQ1.out _))
            have HR : Hid (∀ o, o = wr.drewN nq → IR w0 B blk n cap o (rot D j i (i + 1))) := fun o e => by rw [e]; exact HSW.out nq
            have HFIN := hide (HM.out.more (by omega) (mg_down HO.out.tr HM.out.srd haj hji (.inr (by rw [show j - 1 = t by have := HJT.out; omega, HX2.out, HX1.out]; exact HP.out)) (by rw [HX1.out]; exact HLT.out)))
            go_wp2
            exact ⟨⟨i + 1, _, by go_num, by omega, .inl (by omega), HR.out _ rfl, HFIN.out⟩, by simp [intOf]; omega⟩
        · have hdj : decide ((j : Int) > a) = false := by simpa using hj
          have hdj2 : decide ((a : Int) < j) = false := by simpa using hj
          have HFIN := hide (HM.out.more (by omega) (mg_down HO.out.tr HM.out.srd haj hji (.inl (by omega)) HLT.out))
          have HSW := hide (fun q => hir.drew q)
          clear hir hlt
          go_wp2_with fail
          go_quiet (fail)
          have HR : Hid (∀ o, o = wr.drewN nq → IR w0 B blk n cap o (rot D j i (i + 1))) := fun o e => by rw [e]; exact HSW.out nq
          go_wp2
          exact ⟨⟨i + 1, _, by go_num, by omega, .inl (by omega), HR.out _ rfl, HFIN.out⟩, by simp [intOf]; omega⟩
    · have hd : decide ((i : Int) < b) = false := by simpa using hi
      go_wp2
      go_end0
      refine ⟨rfl, D, hir, ?_⟩
      rcases hib with c | ⟨c, rfl⟩
      · obtain rfl : i = b := by omega
        exact hmg
      · exact ⟨fun _ _ => rfl, fun _ => Iff.rfl, fun i j h1 h2 h3 => by omega⟩
end Go.Proofs.Ytppmekmaclolbab

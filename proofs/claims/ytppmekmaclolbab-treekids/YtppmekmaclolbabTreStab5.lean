/- Layer 7: slices.SortStableFunc of at most 60 ints, walked. -/
import Derived.Test.YtppmekmaclolbabTreStab4
namespace Go.Proofs.Ytppmekmaclolbab
set_option linter.unusedVariables false
open Go.RowKit Go.Maps
open Stb

/-- A stretch of less than two: nothing is done, nothing is asked. -/
theorem insertion_none (v fv : Value) (a b : Nat) (w : World) (ha : a ≤ 1000) (h : b ≤ a + 1) :
    Calls Try.prog 54 #[v, .int .i64 a, .int .i64 b, fv] w fun e w' => e = .returned (.tuple #[]) ∧ w' = w := by
  have v1 : IntKind.i64.wrap ((a : Int) + 1) = ((a + 1 : Nat) : Int) := by rw [IntWalk.i64_in _ (by omega)]; omega
  have hd : decide ((((a + 1 : Nat)) : Int) < b) = false := by simp; omega
  have hd2 : ¬ (a + 1 < b) := by omega
  obtain ⟨c, hc⟩ : ∃ c, c = a + 1 := ⟨_, rfl⟩
  rw [← hc] at v1 hd hd2
  clear hc h
  go_enter Try.func54, Try.ntmps54
  go_wp2
  refine wp_loop_rounds 1 ?_
  rw [rounds_succ]
  go_wp2
  go_end0
  exact ⟨rfl, rfl⟩
/-- The stretches of 20. -/
structure P20 (lt : Nat → Nat → Prop) (n : Nat) (C D : Nat → Nat) : Prop where
  a : n ≤ 20 → St lt C D 0 n
  b : 20 < n → St lt C D 0 20
  c : 20 < n → n ≤ 40 → St lt C D 20 n
  d : 40 < n → St lt C D 20 40 ∧ St lt C D 40 n
structure P40 (lt : Nat → Nat → Prop) (n : Nat) (C D : Nat → Nat) : Prop where
  a : n ≤ 40 → St lt C D 0 n
  b : 40 < n → St lt C D 0 40 ∧ St lt C D 40 n
theorem St.ins {lt : Nat → Nat → Prop} {C D E : Nat → Nat} {a b : Nat} (hs : ∀ k, a ≤ k → k < b → D k = C k) (h : Mg lt D E a b) : St lt C E a b := ⟨h.srd, fun x => (h.inn x).trans (In.same hs)⟩
theorem p20_of {lt : Nat → Nat → Prop} {n a : Nat} {C D E : Nat → Nat} (hn : n ≤ 60) (h1 : a ≤ n) (h2 : n < a + 20) (h3 : a % 20 = 0) (hb : ∀ j, j + 20 ≤ a → j % 20 = 0 → St lt C D j (j + 20)) (hs : ∀ k, a ≤ k → D k = C k) (h : Mg lt D E a n) : P20 lt n C E := by
  have hl := St.ins (fun k k1 _ => hs k k1) h
  have ho : ∀ j, j + 20 ≤ a → j % 20 = 0 → St lt C E j (j + 20) := fun j j1 j2 => (hb j j1 j2).same fun k k1 k2 => h.out k (.inl (by omega))
  have hz : ∀ x, St lt C E x x := fun x => ⟨fun i j h1 h2 h3 => by omega, fun y => ⟨fun ⟨k, k1, k2, _⟩ => by omega, fun ⟨k, k1, k2, _⟩ => by omega⟩⟩
  have : a = 0 ∨ a = 20 ∨ a = 40 ∨ a = 60 := by omega
  rcases this with rfl | rfl | rfl | rfl
  · exact ⟨fun _ => hl, fun _ => by omega, fun _ => by omega, fun _ => by omega⟩
  · refine ⟨fun c => ?_, fun _ => ho 0 (by omega) (by omega), fun _ _ => hl, fun _ => by omega⟩
    obtain rfl : n = 20 := by omega
    exact ho 0 (by omega) (by omega)
  · refine ⟨fun c => by omega, fun _ => ho 0 (by omega) (by omega), fun _ c => ?_, fun _ => ⟨ho 20 (by omega) (by omega), hl⟩⟩
    obtain rfl : n = 40 := by omega
    exact ho 20 (by omega) (by omega)
  · refine ⟨fun c => by omega, fun _ => ho 0 (by omega) (by omega), fun _ c => by omega, fun _ => ⟨ho 20 (by omega) (by omega), ?_⟩⟩
    obtain rfl : n = 60 := by omega
    exact ho 40 (by omega) (by omega)
set_option maxRecDepth 100000 in
set_option maxHeartbeats 1000000 in
theorem stable_any (w0 : World) (B blk n cap : Nat) (fn : Nat) (caps : Array Value) (kc : Nat → Nat → Int) (lt : Nat → Nat → Prop) (S : Nat → Prop) (C : Nat → Nat) (w : World)
    (hen : ∀ (args : Array Value) (w : World), (callFunc fn args).run Try.prog w = .ok (.enter fn args) w) (hq : Cmps fn caps kc S w0 blk) (ho : Odr kc lt)
    (h : IR w0 B blk n cap w C) (hn : n ≤ 60) (hS : ∀ k, k < n → S (C k)) (hc : ∀ i j, i < j → j < n → C i < C j) :
    Calls Try.prog 33 #[.slice (some ⟨blk, 0, none⟩) n cap, .int .i64 n, .func (.func fn) #[] caps] w fun e w' => e = .returned (.tuple #[]) ∧ ∃ D, IR w0 B blk n cap w' D ∧ St lt C D 0 n := by
  have H := hide h
  have HQ := hide hq
  have HO := hide ho
  have HS := hide hS
  have HC := hide hc
  clear h hq ho hS hc
  go_enter Try.func33, Try.ntmps33
  go_wp2
  go_loopw [7, 8] (fun r7 r8 wr => ∃ (a b : Nat) (D : Nat → Nat), r7 = .int .i64 a ∧ r8 = .int .i64 b ∧ b = a + 20 ∧ a ≤ n ∧ a % 20 = 0 ∧ IR w0 B blk n cap wr D ∧ (∀ k, k < n → S (D k)) ∧ (∀ j, j + 20 ≤ a → j % 20 = 0 → St lt C D j (j + 20)) ∧ (∀ k, a ≤ k → D k = C k)) (fun r7 _ _ => n - (intOf r7).toNat)
  case atStart => exact ⟨0, 20, C, rfl, rfl, rfl, Nat.zero_le _, rfl, H.out, HS.out, fun j hj => by omega, fun _ _ => rfl⟩
  case round =>
    obtain ⟨a, b, D, rfl, rfl, hb, han, ham, hir, hDS, hst, hsm⟩ := hrel
    have HB := hide hb
    have HI := hide hir
    have HDS := hide hDS
    have HST := hide hst
    have HSM := hide hsm
    have HAM := hide ham
    have HCX : Hid (∀ i j, a ≤ i → i < j → j < n → D i < D j) := fun i j h1 h2 h3 => by
      rw [hsm i h1, hsm j (by omega)]; exact HC.out i j h2 h3
    clear hb hir hDS hst hsm ham
    by_cases hbn : b ≤ n
    · have hd : decide ((b : Int) ≤ n) = true := by simpa using hbn
      have HCA := hide (insertion_any w0 B blk n cap fn caps kc lt S a b D wr hen HQ.out HO.out HI.out (by omega) (by have := HB.out; omega) hbn HDS.out (fun i j h1 h2 h3 => HCX.out i j h1 h2 (by omega)))
      obtain ⟨b', hb'⟩ : ∃ b', b' = b + 20 := ⟨_, rfl⟩
      have vb : IntKind.i64.wrap ((b : Int) + 20) = (b' : Int) := by rw [IntWalk.i64_in _ (by omega)]; omega
      have HB' := hide hb'
      clear hb'
      go_wp2_with (go_at_call 54; refine HCA.out.mono ?_; rintro e0 w1 ⟨rfl, E, hirE, hmE⟩; have HE1 := hide hirE; have HE2 := hide hmE; clear hirE hmE HCA)
      have hb1 := HB.out
      have hb2 := HB'.out
      have hb3 := HAM.out
      refine ⟨⟨b, b', E, rfl, rfl, hb2, hbn, by omega, HE1.out, Mg.all HE2.out hbn HDS.out, fun j j1 j2 => ?_, fun k hk => ?_⟩, by simp [intOf]; omega⟩
      · by_cases c : j + 20 ≤ a
        · exact (HST.out j c j2).same fun k k1 k2 => HE2.out.out k (.inl (by omega))
        · obtain rfl : j = a := by omega
          rw [← hb1]
          exact St.ins (fun k k1 _ => HSM.out k k1) HE2.out
      · rw [HE2.out.out k (.inr hk)]; exact HSM.out k (by omega)
    · have hd : decide ((b : Int) ≤ n) = false := by simpa using hbn
      have HCA := hide (insertion_any w0 B blk n cap fn caps kc lt S a n D wr hen HQ.out HO.out HI.out (by omega) han (Nat.le_refl _) HDS.out HCX.out)
      have HAF : Hid (∀ E, Mg lt D E a n → P20 lt n C E ∧ ∀ k, k < n → S (E k)) := fun E hE => ⟨p20_of hn han (by have := HB.out; omega) HAM.out HST.out HSM.out hE, Mg.all hE (Nat.le_refl _) HDS.out⟩
      obtain ⟨W, rfl⟩ : ∃ W, W = wr := ⟨wr, rfl⟩
      go_wp2_with (go_at_call 54; refine HCA.out.mono ?_; rintro e0 w1 ⟨rfl, E, hirE, hmE⟩; have HE1 := hide hirE; have HE2 := hide (HAF.out E hmE); clear hirE hmE HCA HAF)
      clear HST HSM HCX HDS HI HB HAM
      go_loopw [6, 7, 8, 9] (fun r6 _ _ _ wr => ∃ (s : Nat) (G : Nat → Nat), r6 = .int .i64 s ∧ IR w0 B blk n cap wr G ∧ (∀ k, k < n → S (G k)) ∧ ((s = 20 ∧ P20 lt n C G) ∨ (s = 40 ∧ P40 lt n C G) ∨ (s = 80 ∧ St lt C G 0 n))) (fun r6 _ _ _ _ => 80 - (intOf r6).toNat)
      case atStart => exact ⟨20, E, rfl, HE1.out, HE2.out.2, .inl ⟨rfl, HE2.out.1⟩⟩
      case round =>
        obtain ⟨s, G, rfl, hir, hGS, hcase⟩ := hrel
        have HI := hide hir
        have HGS := hide hGS
        clear hir hGS
        rcases hcase with ⟨rfl, hp⟩ | ⟨rfl, hp⟩ | ⟨rfl, hp⟩
        · have HP := hide hp
          clear hp
          by_cases c1 : 20 < n
          · have d1 : decide ((20 : Int) < n) = true := by simp; omega
            have hx1 : (20 : Int) < n := by omega
            by_cases c2 : 40 ≤ n
            · have d2 : decide ((40 : Int) ≤ n) = true := by simp; omega
              have hx2 : (40 : Int) ≤ n := by omega
              have s1 := HP.out.b c1
              have s2 : St lt C G 20 40 := by
                by_cases c3 : n ≤ 40
                · obtain rfl : n = 40 := by omega
                  exact HP.out.c c1 c3
                · exact (HP.out.d (by omega)).1
              have HCA : Hid (Calls Try.prog 55 #[.slice (some ⟨blk, 0, none⟩) n cap, .int .i64 0, .int .i64 20, .int .i64 40, .func (.func fn) #[] caps] wr fun e w' => e = .returned (.tuple #[]) ∧ ∃ D, IR w0 B blk n cap w' D ∧ Mg lt G D 0 40) :=
                symMerge_any w0 B blk n cap fn caps kc lt S hen HQ.out HO.out (by omega) 60 0 20 40 (by omega) (by omega) (by omega) c2 G wr HI.out HGS.out s1.srd s2.srd (St.idx HC.out c2 s1 s2)
              have HAF : Hid (∀ E, Mg lt G E 0 40 → P40 lt n C E ∧ ∀ k, k < n → S (E k)) := fun E hE => ⟨⟨fun c => by
                  obtain rfl : n = 40 := by omega
                  exact St.mg (by omega) (by omega) s1 s2 hE, fun c => ⟨St.mg (by omega) (by omega) s1 s2 hE, (HP.out.d c).2.same fun k k1 k2 => hE.out k (.inr k1)⟩⟩, Mg.all hE c2 HGS.out⟩
              have e80 : ¬ (80 : Int) ≤ n := by omega
              have d80 : decide ((80 : Int) ≤ n) = false := by simp; omega
              have e60 : ¬ (60 : Int) < n := by omega
              have d60 : decide ((60 : Int) < n) = false := by simp; omega
              clear s1 s2 c1 c2
              go_wp2
              refine wp_loop_rounds 2 ?_
              rw [rounds_succ]
              go_wp2_with (go_at_call 55; refine HCA.out.mono ?_; rintro e0 w2 ⟨rfl, E2, hirE, hmE⟩; have HE3 := hide hirE; have HE4 := hide (HAF.out E2 hmE); clear hirE hmE HCA HAF)
              rw [rounds_succ]
              go_wp2
              exact ⟨⟨40, E2, rfl, HE3.out, HE4.out.2, .inr (.inl ⟨rfl, HE4.out.1⟩)⟩, by simp [intOf]⟩
            · have d2 : decide ((40 : Int) ≤ n) = false := by simp; omega
              have hx2 : ¬ (40 : Int) ≤ n := by omega
              have s1 := HP.out.b c1
              have s2 := HP.out.c c1 (by omega)
              have HCA : Hid (Calls Try.prog 55 #[.slice (some ⟨blk, 0, none⟩) n cap, .int .i64 0, .int .i64 20, .int .i64 n, .func (.func fn) #[] caps] wr fun e w' => e = .returned (.tuple #[]) ∧ ∃ D, IR w0 B blk n cap w' D ∧ Mg lt G D 0 n) :=
                symMerge_any w0 B blk n cap fn caps kc lt S hen HQ.out HO.out (by omega) 60 0 20 n (by omega) (by omega) (by omega) (Nat.le_refl _) G wr HI.out HGS.out s1.srd s2.srd (St.idx HC.out (Nat.le_refl _) s1 s2)
              have HAF : Hid (∀ E, Mg lt G E 0 n → P40 lt n C E ∧ ∀ k, k < n → S (E k)) := fun E hE => ⟨⟨fun c => St.mg (by omega) (by omega) s1 s2 hE, fun c => by omega⟩, Mg.all hE (Nat.le_refl _) HGS.out⟩
              clear s1 s2 c1 c2
              go_wp2
              refine wp_loop_rounds 1 ?_
              rw [rounds_succ]
              go_wp2_with (go_at_call 55; refine HCA.out.mono ?_; rintro e0 w2 ⟨rfl, E2, hirE, hmE⟩; have HE3 := hide hirE; have HE4 := hide (HAF.out E2 hmE); clear hirE hmE HCA HAF)
              exact ⟨⟨40, E2, rfl, HE3.out, HE4.out.2, .inr (.inl ⟨rfl, HE4.out.1⟩)⟩, by simp [intOf]⟩
          · have d1 : decide ((20 : Int) < n) = false := by simp; omega
            have hx1 : ¬ (20 : Int) < n := by omega
            have HF := hide (HP.out.a (by omega))
            clear c1
            go_wp2
            go_end0
            exact ⟨rfl, G, HI.out, HF.out⟩
        · have HP := hide hp
          clear hp
          by_cases c1 : 40 < n
          · have d1 : decide ((40 : Int) < n) = true := by simp; omega
            have hx1 : (40 : Int) < n := by omega
            have e80 : ¬ (80 : Int) ≤ n := by omega
            have d80 : decide ((80 : Int) ≤ n) = false := by simp; omega
            have s1 := (HP.out.b c1).1
            have s2 := (HP.out.b c1).2
            have HCA : Hid (Calls Try.prog 55 #[.slice (some ⟨blk, 0, none⟩) n cap, .int .i64 0, .int .i64 40, .int .i64 n, .func (.func fn) #[] caps] wr fun e w' => e = .returned (.tuple #[]) ∧ ∃ D, IR w0 B blk n cap w' D ∧ Mg lt G D 0 n) :=
              symMerge_any w0 B blk n cap fn caps kc lt S hen HQ.out HO.out (by omega) 60 0 40 n (by omega) (by omega) (by omega) (Nat.le_refl _) G wr HI.out HGS.out s1.srd s2.srd (St.idx HC.out (Nat.le_refl _) s1 s2)
            have HAF : Hid (∀ E, Mg lt G E 0 n → St lt C E 0 n ∧ ∀ k, k < n → S (E k)) := fun E hE => ⟨St.mg (by omega) (by omega) s1 s2 hE, Mg.all hE (Nat.le_refl _) HGS.out⟩
            clear s1 s2 c1
            go_wp2
            refine wp_loop_rounds 1 ?_
            rw [rounds_succ]
            go_wp2_with (go_at_call 55; refine HCA.out.mono ?_; rintro e0 w2 ⟨rfl, E2, hirE, hmE⟩; have HE3 := hide hirE; have HE4 := hide (HAF.out E2 hmE); clear hirE hmE HCA HAF)
            exact ⟨⟨80, E2, rfl, HE3.out, HE4.out.2, .inr (.inr ⟨rfl, HE4.out.1⟩)⟩, by simp [intOf]⟩
          · have d1 : decide ((40 : Int) < n) = false := by simp; omega
            have hx1 : ¬ (40 : Int) < n := by omega
            have HF := hide (HP.out.a (by omega))
            clear c1
            go_wp2
            go_end0
            exact ⟨rfl, G, HI.out, HF.out⟩
        · have d1 : decide ((80 : Int) < n) = false := by simp; omega
          have hx1 : ¬ (80 : Int) < n := by omega
          have HF := hide hp
          clear hp
          go_wp2
          go_end0
          exact ⟨rfl, G, HI.out, HF.out⟩
theorem stable_none (v fv : Value) (w : World) :
    Calls Try.prog 33 #[v, .int .i64 0, fv] w fun e w' => e = .returned (.tuple #[]) ∧ w' = w := by
  have HCA : Hid (Calls Try.prog 54 #[v, .int .i64 0, .int .i64 0, fv] w fun e w' => e = .returned (.tuple #[]) ∧ w' = w) := insertion_none v fv 0 0 w (by omega) (by omega)
  go_enter Try.func33, Try.ntmps33
  go_wp2
  refine wp_loop_rounds 1 ?_
  rw [rounds_succ]
  go_wp2_with (go_at_call 54; refine HCA.out.mono ?_; rintro e0 w2 ⟨rfl, rfl⟩)
  refine wp_loop_rounds 1 ?_
  rw [rounds_succ]
  go_wp2
  go_end0
  exact ⟨rfl, rfl⟩
theorem SortStable_any (w0 : World) (B blk n cap : Nat) (fn : Nat) (caps : Array Value) (kc : Nat → Nat → Int) (lt : Nat → Nat → Prop) (S : Nat → Prop) (C : Nat → Nat) (w : World)
    (hen : ∀ (args : Array Value) (w : World), (callFunc fn args).run Try.prog w = .ok (.enter fn args) w) (hq : Cmps fn caps kc S w0 blk) (ho : Odr kc lt)
    (h : IR w0 B blk n cap w C) (hn : n ≤ 60) (hS : ∀ k, k < n → S (C k)) (hc : ∀ i j, i < j → j < n → C i < C j) :
    Calls Try.prog 15 #[.slice (some ⟨blk, 0, none⟩) n cap, .func (.func fn) #[] caps] w fun e w' => e = .returned (.tuple #[]) ∧ ∃ D, IR w0 B blk n cap w' D ∧ St lt C D 0 n := by
  have HCA := hide (stable_any w0 B blk n cap fn caps kc lt S C w hen hq ho h hn hS hc)
  clear h hq ho hS hc
  go_enter Try.func15, Try.ntmps15
  go_wp2_with (go_at_call 33; refine HCA.out.mono ?_; rintro e0 w2 ⟨rfl, hE⟩; have HE3 := hide hE; clear hE HCA)
  go_end0
  exact ⟨rfl, HE3.out⟩
theorem SortStable_none (a : Option Addr) (c : Nat) (fv : Value) (w : World) :
    Calls Try.prog 15 #[.slice a 0 c, fv] w fun e w' => e = .returned (.tuple #[]) ∧ w' = w := by
  have HCA := hide (stable_none (.slice a 0 c) fv w)
  go_enter Try.func15, Try.ntmps15
  go_wp2_with (go_at_call 33; refine HCA.out.mono ?_; rintro e0 w2 ⟨rfl, rfl⟩)
  go_end0
  exact ⟨rfl, rfl⟩
end Go.Proofs.Ytppmekmaclolbab

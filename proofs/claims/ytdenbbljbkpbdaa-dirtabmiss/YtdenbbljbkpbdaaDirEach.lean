/- Layer 10: each: the entries of bytes, one behind the other, whatever function is handed in. -/
import Derived.Test.YtdenbbljbkpbdaaDirPut
import Derived.Test.YtdenbbljbkpbdaaCurDead
namespace Go.Proofs.Ytdenbbljbkpbdaa
set_option linter.unusedVariables false
set_option maxRecDepth 100000
open Go.RowKit Go.Maps
open Lz (g)
open Nam Cur Cap Dir

namespace Dir
/-- A block in which no bytes lie. -/
def NoB (w : World) (k : Nat) : Prop := ∀ i x, w.cell? ⟨k, i, none⟩ ≠ some (.int .u8 x)
theorem RdP.off {O : Nat → Prop} {w w' : World} {p L : Nat} {s : St} (h : RdP w p L s) (hf : Fr O w w') (hp : ¬ O p) (hn : ∀ k, O k → NoB w k ∨ L ≤ k) : RdP w' p L s := by
  obtain ⟨ao, n, c, hd, hb, h3, h4, h5, h6, hL, h8⟩ := h
  refine ⟨ao, n, c, hd.fr hf hp, hb.fr hL hf (fun a ha hlt hn0 hx => ?_), h3, h4, h5, h6, Nat.le_trans hL hf.size, h8⟩
  rcases hb.2.2 with h0 | ⟨b, off, h1, h2, hs⟩
  · omega
  · rw [h1] at ha
    cases ha
    rcases hn _ hx with hk | hk
    · exact hk _ _ (hs 0 (by have := hb.1; omega))
    · simp only at hk; omega
/-- How many bytes a reader has left. -/
def rdLen (p : Nat) (w : World) : Nat := match w.cell? ⟨p, 0, none⟩ with
  | some (.slice _ n _) => n
  | _ => 0
theorem RdP.len {w : World} {p L : Nat} {s : St} (h : RdP w p L s) : rdLen p w = s.1.length := by
  obtain ⟨ao, n, c, hd, hb, _⟩ := h
  unfold rdLen
  rw [hd.c0]
  exact hb.1.symm
theorem RdP.big {w : World} {p L : Nat} {s : St} (h : RdP w p L s) : L ≤ w.heap.size := by
  obtain ⟨_, _, _, _, _, _, _, _, _, h7, _⟩ := h; exact h7
/-- The blocks p and q alone. -/
def PQ (p q : Nat) : Nat → Prop := fun k => k = p ∨ k = q
/-- A reader at p and an entry at q, since W. -/
def TJ (W : World) (p q L : Nat) (s : St) (r : Ent) (w : World) : Prop := RdP w p L s ∧ w.heap[q]? = some (.cells (ev r) 35 (0, 0)) ∧ Fr (PQ p q) W w
theorem TJ.cell {W w : World} {p q L : Nat} {s : St} {r : Ent} (h : TJ W p q L s r w) (k : Nat) : w.cell? ⟨q, k, none⟩ = (ev r)[k]? := cell_of_row _ _ _ _ _ _ h.2.1
theorem TJ.free {W w : World} {p q L : Nat} {s : St} {r : Ent} (h : TJ W p q L s r w) (k : Nat) : w.frozen? ⟨q, k, none⟩ = false := by simp [World.frozen?, h.2.1]
theorem TJ.store {W w : World} {p q L : Nat} {s : St} {r r' : Ent} (h : TJ W p q L s r w) (hq : L ≤ q) (hpq : p ≠ q) (k : Nat) (x : Value) (e : (ev r).setIfInBounds k x = ev r') : TJ W p q L s r' (w.setCell ⟨q, k, none⟩ x) := by
  obtain ⟨h1, h2, h3⟩ := h
  refine ⟨h1.above ((Fr.refl (One q) w).set (p := ⟨q, k, none⟩) x (fun _ => rfl)) (fun i hi => by have : i = q := hi; omega) (fun hi => hpq hi), ?_, h3.set (p := ⟨q, k, none⟩) x (fun _ => .inr rfl)⟩
  rw [heap_setCell_self h2, e]
theorem TJ.call {W w w' : World} {p q L : Nat} {s s' : St} {r : Ent} (h : TJ W p q L s r w) (hpq : p ≠ q) (hR : RdP w' p L s') (hF : Fr (One p) w w') : TJ W p q L s' r w' :=
  ⟨hR, (hF.block _ (heap_lt h.2.1) (fun e => hpq (Eq.symm e))).trans h.2.1, h.2.2.trans hF (fun i _ hi => .inl hi)⟩
end Dir
theorem take_num (W : World) (p q L : Nat) (s : St) (r : Ent) (n : Int) (w : World) (h : TJ W p q L s r w) (hpq : p ≠ q) (hn : -9223372036854775808 ≤ n ∧ n ≤ 9223372036854775807) :
    Calls Try.prog 41 #[.pointer (some ⟨p, 0, none⟩), .int .i64 n] w fun e w' => e = .returned (.int .i64 (numA n s)) ∧ TJ W p q L (numS n s) r w' :=
  (Num_any p L n s w h.1 hn).mono (by rintro e w' ⟨h1, h2, h3⟩; exact ⟨h1, h.call hpq h2 h3⟩)
theorem take_text (W : World) (p q L : Nat) (s : St) (r : Ent) (w : World) (h : TJ W p q L s r w) (hpq : p ≠ q) :
    Calls Try.prog 40 #[.pointer (some ⟨p, 0, none⟩)] w fun e w' => e = .returned (.string (strOfNums (txtA s))) ∧ TJ W p q L (txtS s) r w' :=
  (Text_any p L s w h.1).mono (by rintro e w' ⟨h1, h2, h3⟩; exact ⟨h1, h.call hpq h2 h3⟩)
set_option maxHeartbeats 2000000 in
theorem each_any {σ : Type} (st : σ → Ent → Bool × σ) (I : Nat → World → (Nat → Prop) → σ → Prop) (fn : Nat) (caps : Array Value)
    (hen : ∀ (args : Array Value) (w : World), (callFunc fn args).run Try.prog w = .ok (.enter fn args) w)
    (hst : ∀ j w O s E, j ≤ 200000 → I j w O s → fit E → Calls Try.prog fn (#[.agg (ev E)] ++ caps) w fun e w' => ∃ O', e = .returned (.bool (st s E).1) ∧ I (j + 1) w' O' (st s E).2 ∧ Fr O w w' ∧ ∀ k, O' k → O k ∨ w.heap.size ≤ k)
    (hfr : ∀ j w w' O S s, I j w O s → Fr S w w' → (∀ k, S k → ¬ O k) → I j w' O s)
    (O : Nat → Prop) (hno : ∀ j w O' s, I j w O' s → (∀ k, O' k → k < w.heap.size) ∧ ∀ k, O k → NoB w k)
    (n c : Nat) (ao : Option Addr) (zs : List Int) (w : World) (hb : Bs w ao n zs) (hc : n ≤ c) (hnil : ao = none → c = 0) (hn : n ≤ 1000000) (s : σ) (hI : I 0 w O s) :
    Calls Try.prog 26 #[.slice ao n c, .func (.func fn) #[] caps] w fun e w' => ∃ j O', e = .returned (.bool (run st (par zs).1 (par zs).2 s).1) ∧ I j w' O' (run st (par zs).1 (par zs).2 s).2 ∧ Fr O w w' ∧ ∀ k, O' k → O k ∨ w.heap.size ≤ k := by
  have HST := hide hst
  have HFR := hide hfr
  have HNO := hide hno
  have HI := hide hI
  have HBs := hide hb
  have hlen := hb.1
  have hO0 := (hno 0 w O s hI).1
  clear hst hfr hno hI hb
  go_enter Try.func26, Try.ntmps26
  go_wp2_with fail
  refine (Read_any n c ao zs w HBs.out hc hnil hn).mono ?_
  rintro r w1 ⟨p, rfl, hp, hR1, hb1⟩
  obtain ⟨Lp, hLp⟩ : ∃ Lp, Lp = w1.heap.size := ⟨_, rfl⟩
  rw [← hLp] at hR1
  have HR1 := hide hR1
  have HI1 := hide (HFR.out 0 w w1 O (fun _ => False) s HI.out (Fr.of_below hb1) (fun k hk => hk.elim))
  have HF1 : Hid (Fr O w w1) := Fr.of_below hb1
  have hOp : ¬ O p := fun h => by have := hO0 p h; omega
  have hby : Bytes zs := HBs.out.bytes
  have hLw : w.heap.size ≤ Lp := by rw [hLp]; exact hb1.size
  clear hR1 hb1 HI hLp
  go_wp2_with fail
  go_loopw [6] (fun _ wr => ∃ (zs' : List Int) (j : Nat) (O' : Nat → Prop) (s' : σ), RdP wr p Lp (zs', 0) ∧ I j wr O' s' ∧ ¬ O' p ∧ Fr O w wr ∧ (∀ k, O' k → O k ∨ Lp ≤ k) ∧ run st (par zs).1 (par zs).2 s = run st (par zs').1 (par zs').2 s' ∧ Bytes zs' ∧ 6 * j + zs'.length ≤ 1000000) (fun _ wr => rdLen p wr)
  case atStart => exact ⟨zs, 0, O, s, HR1.out, HI1.out, hOp, HF1.out, fun k hk => .inl hk, rfl, hby, by omega⟩
  case round =>
    clear HR1 HI1 HF1 hOp hby
    obtain ⟨zs', j, O', s', hR, hI, hOp, hF, hG, hrun, hby, hj⟩ := hrel
    have HR := hide hR
    have HI := hide hI
    have HF := hide hF
    have HG := hide hG
    have HOp := hide hOp
    have HRun := hide hrun
    have HBy := hide hby
    have HO' := hide ((HNO.out j wr O' s' hI).1)
    have hlz := Dir.RdP.len hR
    have hpr := hR.lt
    have hbig := Dir.RdP.big hR
    have HLen := hide hlz
    clear hR hI hF hG hOp hrun hby hlz
    by_cases hz : zs' = []
    · subst hz
      go_wp2_with fail
      refine (rLeft_any p Lp ([], 0) wr HR.out).mono ?_
      rintro r w' ⟨rfl, rfl⟩
      go_wp2
      go_ret
      refine ⟨j, O', ?_, ?_, HF.out, fun k hk => (HG.out k hk).imp id (Nat.le_trans hLw)⟩
      · rw [HRun.out, par_nil]; rfl
      · rw [HRun.out, par_nil]; exact HI.out
    · have hzl : 0 < zs'.length := List.length_pos_iff.2 hz
      have hzi : (0 : Int) < (zs'.length : Int) := by omega
      go_wp2_with fail
      refine (rLeft_any p Lp (zs', 0) wr HR.out).mono ?_
      rintro r w' ⟨rfl, rfl⟩
      obtain ⟨wx, hwx⟩ : ∃ wx, wx = w'.alloc (.cells (ev z0) 35) := ⟨_, rfl⟩
      have bx : Below w'.heap.size w' wx := by rw [hwx]; exact below_one _ _
      have hpq : p ≠ w'.heap.size := by omega
      have HJ0 : Hid (TJ wx p w'.heap.size Lp (zs', 0) z0 wx) := ⟨HR.out.below bx, by rw [hwx]; exact heap_new rfl, Fr.refl _ _⟩
      have HWX := hide hwx
      have HBx := hide bx
      clear hwx bx
      unfold ev z0 at HWX
      simp only at HWX
      go_wp2_with fail
      rw [← HWX.out]
      obtain ⟨E, hE⟩ : ∃ E, E = rE (zs', 0) := ⟨_, rfl⟩
      obtain ⟨s1, hs1⟩ : ∃ s1, s1 = txtS (zs', 0) := ⟨_, rfl⟩
      obtain ⟨s2, hs2⟩ : ∃ s2, s2 = numS 1 s1 := ⟨_, rfl⟩
      obtain ⟨s3, hs3⟩ : ∃ s3, s3 = numS 4 s2 := ⟨_, rfl⟩
      have HT := hide (take_text wx p w'.heap.size Lp (zs', 0) z0 wx HJ0.out hpq)
      have e1 : strOfNums (txtA (zs', 0)) = E.name := by rw [hE]; rfl
      have e2 : numA 1 s1 = E.kind := by rw [hE, hs1]; rfl
      have e3 : numA 4 s2 = E.ref := by rw [hE, hs2, hs1]; rfl
      have e4 : s3 = rS (zs', 0) := by rw [hs3, hs2, hs1]; rfl
      rw [e1, ← hs1] at HT
      have HE2 := hide e2
      have HE3 := hide e3
      have HE4 := hide e4
      have HEE := hide hE
      have HS2 := hide hs2
      have HS3 := hide hs3
      clear e1 e2 e3 e4 hE hs1 hs2 hs3 HJ0
      refine HT.out.mono ?_
      rintro r v0 ⟨rfl, hJ⟩
      have c0 : v0.cell? ⟨w'.heap.size, 0, none⟩ = some (.string ⟨#[]⟩) := hJ.cell 0
      have f0 := hJ.free 0
      have hK := hJ.store (r' := ⟨E.name, 0, 0⟩) hbig hpq 0 (.string E.name) rfl
      obtain ⟨u0, hu0⟩ : ∃ u, u = v0.setCell ⟨w'.heap.size, 0, none⟩ (.string E.name) := ⟨_, rfl⟩
      rw [← hu0] at hK
      have HJ1 := hide hK
      have HU0 := hide hu0
      clear hJ hK hu0 HT HWX
      go_wp2_with fail
      rw [← HU0.out]
      clear c0 f0 HU0
      refine (take_num wx p w'.heap.size Lp s1 ⟨E.name, 0, 0⟩ 1 u0 HJ1.out hpq (by omega)).mono ?_
      rintro r v1 ⟨rfl, hJ⟩
      rw [HE2.out]
      rw [← HS2.out] at hJ
      have c0 : v1.cell? ⟨w'.heap.size, 1, none⟩ = some (.int .i64 0) := hJ.cell 1
      have f0 := hJ.free 1
      have hK := hJ.store (r' := ⟨E.name, E.kind, 0⟩) hbig hpq 1 (.int .i64 E.kind) rfl
      obtain ⟨u1, hu1⟩ : ∃ u, u = v1.setCell ⟨w'.heap.size, 1, none⟩ (.int .i64 E.kind) := ⟨_, rfl⟩
      rw [← hu1] at hK
      have HJ2 := hide hK
      have HU1 := hide hu1
      clear hJ hK hu1 HJ1
      go_wp2_with fail
      rw [← HU1.out]
      clear c0 f0 HU1
      refine (take_num wx p w'.heap.size Lp s2 ⟨E.name, E.kind, 0⟩ 4 u1 HJ2.out hpq (by omega)).mono ?_
      rintro r v2 ⟨rfl, hJ⟩
      rw [HE3.out]
      rw [← HS3.out] at hJ
      have c0 : v2.cell? ⟨w'.heap.size, 2, none⟩ = some (.int .i64 0) := hJ.cell 2
      have f0 := hJ.free 2
      have hK := hJ.store (r' := E) hbig hpq 2 (.int .i64 E.ref) rfl
      obtain ⟨u2, hu2⟩ : ∃ u, u = v2.setCell ⟨w'.heap.size, 2, none⟩ (.int .i64 E.ref) := ⟨_, rfl⟩
      rw [← hu2] at hK
      have HJ3 := hide hK
      have HU2 := hide hu2
      obtain ⟨ao3, n3, c3, hd3, _⟩ := id hK.1
      have HD3 := hide hd3
      clear hJ hK hu2 HJ2 hd3
      go_wp2_with fail
      rw [← HU2.out]
      clear c0 f0 HU2
      refine (Err_any 70 p n3 c3 ao3 s3.2 u2 HD3.out).mono ?_
      rintro r w'' ⟨rfl, rfl⟩
      have HI2 : Hid (I j w'' O' s') := by
        refine HFR.out j w' w'' O' (PQ p w'.heap.size) s' HI.out ((Fr.of_below HBx.out).trans HJ3.out.2.2 (fun i _ hi => hi)) (fun k hk hO => ?_)
        rcases hk with rfl | rfl
        · exact HOp.out hO
        · have := HO'.out _ hO; omega
      have HF2 : Hid (Fr O w w'') := by
        refine HF.out.trans ((Fr.of_below (S := PQ p w'.heap.size) HBx.out).trans HJ3.out.2.2 (fun i _ hi => hi)) (fun i hi hk => ?_)
        have hsz := HF.out.size
        rcases hk with rfl | rfl <;> omega
      by_cases h0 : s3.2 = 0
      · have hfit : fit E := by rw [HEE.out]; exact rE_fit (s := (zs', 0)) HBy.out
        have HQ := hide (HST.out j w'' O' s' E (by omega) HI2.out hfit)
        have HR3 := hide HJ3.out.1
        have c0 : w''.cell? ⟨w'.heap.size, 0, none⟩ = some (.string E.name) := HJ3.out.cell 0
        have c1 : w''.cell? ⟨w'.heap.size, 1, none⟩ = some (.int .i64 E.kind) := HJ3.out.cell 1
        have c2 : w''.cell? ⟨w'.heap.size, 2, none⟩ = some (.int .i64 E.ref) := HJ3.out.cell 2
        have HOp2 : Hid (∀ k, O' k → NoB w'' k ∨ Lp ≤ k) := fun k hk => (HG.out k hk).imp ((HNO.out j w'' O' s' HI2.out).2 k) id
        have hLp2 : Lp ≤ w''.heap.size := Dir.RdP.big HR3.out
        obtain ⟨b, s9, hbs⟩ : ∃ b s9, st s' E = (b, s9) := ⟨_, _, rfl⟩
        rw [hbs] at HQ
        have HBS := hide hbs
        have hpl : p < w''.heap.size := HR3.out.lt
        clear hfit hbs HJ3 HD3
        unfold ev at HQ
        go_wp2_with fail
        refine HQ.out.mono ?_
        rintro r w3 ⟨O3, rfl, hI3, hF3, hG3⟩
        have HR4 : Hid (RdP w3 p Lp s3) := Dir.RdP.off HR3.out hF3 HOp.out HOp2.out
        have HI3 := hide hI3
        have hsz2 := HF2.out.size
        have HF3 : Hid (Fr O w w3) := by
          refine HF2.out.trans hF3 (fun i hi hk => ?_)
          rcases HG.out i hk with h | h
          · exact h
          · omega
        have HG3 : Hid (∀ k, O3 k → O k ∨ Lp ≤ k) := fun k hk => by
          rcases hG3 k hk with h | h
          · exact HG.out k h
          · exact .inr (by omega)
        have HOp3 : Hid (¬ O3 p) := fun hk => by
          rcases hG3 p hk with h | h
          · exact HOp.out h
          · omega
        have HPar := hide (par_step HBy.out hz (by rw [← HE4.out]; exact h0))
        have HLs := hide (rS_less HBy.out (by rw [← HE4.out]; exact h0))
        clear hI3 hF3 hG3 HQ c0 c1 c2
        simp only at HI3 ⊢
        cases b with
        | false =>
          go_wp2
          go_ret
          have e : run st (par zs).1 (par zs).2 s = (false, s9) := by
            rw [HRun.out, HPar.out, ← HEE.out]
            unfold run
            rw [HBS.out, if_neg (by simp)]
          exact ⟨j + 1, O3, by rw [e]; rfl, by rw [e]; exact HI3.out, HF3.out, fun k hk => (HG3.out k hk).imp id (Nat.le_trans hLw)⟩
        | true =>
          go_wp2
          go_roundw
          case rel =>
            have e3 : s3 = ((rS (zs', 0)).1, 0) := by rw [← HE4.out, ← h0]
            refine ⟨(rS (zs', 0)).1, j + 1, O3, s9, by rw [← e3]; exact HR4.out, HI3.out, HOp3.out, HF3.out, HG3.out, ?_, rS_bytes (s := (zs', 0)) HBy.out, by have := HLs.out; omega⟩
            rw [HRun.out, HPar.out, ← HEE.out]
            conv => lhs; unfold run; rw [HBS.out, if_pos rfl]
          case measure =>
            rw [Dir.RdP.len HR4.out, HLen.out, HE4.out]
            have := HLs.out
            omega
      · have HPar := hide (par_bad hz (by rw [← HE4.out]; exact h0))
        go_wp2
        go_ret
        have e : run st (par zs).1 (par zs).2 s = (false, s') := by rw [HRun.out, HPar.out]; rfl
        exact ⟨j, O', by rw [e]; rfl, by rw [e]; exact HI2.out, HF2.out, fun k hk => (HG.out k hk).imp id (Nat.le_trans hLw)⟩
end Go.Proofs.Ytdenbbljbkpbdaa

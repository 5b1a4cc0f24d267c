/- Layer 7: the reference's Alike. -/
import Derived.Test.YtppmekmaclolbaaTreAlike
namespace Go.Proofs.Ytppmekmaclolbaa
set_option linter.unusedVariables false
open Go.RowKit Go.Maps
open Nam Tre
open Lz (g)

theorem attrNeq (w : World) (x y z x' y' z' : Int) : (binOp .neq 38 (.agg #[.int .i64 x, .int .i64 y, .int .i64 z]) (.agg #[.int .i64 x', .int .i64 y', .int .i64 z'])).run Try.prog w = .ok (.bool (!decide (x = x' ∧ y = y' ∧ z = z'))) w := by
  have u3 := Try.underlying3
  have a3 := Try.isAgg3
  have z3 := Try.sizeOf3
  have hS : Try.prog.underlying 38 = some (.struct (Try.prog.fieldsOf 38)) := by kernel_rfl
  have hp : Try.prog.stoodInHeld 38 = false := by kernel_rfl
  rw [run_neq_struct, show (10000 : Nat) = 9999 + 1 from rfl, run_equalIn_agg w 9999 38 _ _ hS hp]
  simp only [Program.fieldsOf, Try.underlying38]
  go_simp
  by_cases h1 : x = x' <;> by_cases h2 : y = y' <;> by_cases h3 : z = z' <;> simp [h1, h2, h3]
theorem bne_of {a b : Int} {q : Bool} (h : (a == b) = q) : (a != b) = !q := by rw [bne, h]
theorem str_conv {w w0 : World} {a : Option Addr} {n : Nat} {x : List Int} (hx : Bs w0 a n x) (h0 : Below w0.heap.size w0 w) (c : Nat) : ∀ k, (convert 39 9 (.slice a n c)).run Try.prog (w.drewN k) = .ok (.string (strOfNums x)) (w.drewN k) := fun k =>
  str_any ((hx.below h0).below (below_drewN w k)) c
theorem str_conv0 {w w0 : World} {a : Option Addr} {n : Nat} {x : List Int} (hx : Bs w0 a n x) (h0 : Below w0.heap.size w0 w) (c : Nat) : (convert 39 9 (.slice a n c)).run Try.prog w = .ok (.string (strOfNums x)) w :=
  str_any (hx.below h0) c
set_option maxRecDepth 100000 in
set_option maxHeartbeats 1000000 in
theorem refAlike_any (v u : Nv) (x y : Nod) (w : World) (hv : Rep w v x) (hu : Rep w u y) :
    Calls Try.prog 23 #[.agg v.cells, .agg u.cells] w fun e w' => e = .returned (.bool (alike x y)) ∧ Below w.heap.size w w' := by
  obtain ⟨a, ha⟩ : ∃ q, (v.kind == u.kind) = q := ⟨_, rfl⟩
  obtain ⟨b, hb⟩ : ∃ q, decide (v.mode = u.mode ∧ v.uid = u.uid ∧ v.gid = u.gid) = q := ⟨_, rfl⟩
  obtain ⟨c, hc⟩ : ∃ q, (v.tg.toList == u.tg.toList) = q := ⟨_, rfl⟩
  obtain ⟨d, hd⟩ : ∃ q, (v.op == u.op) = q := ⟨_, rfl⟩
  obtain ⟨e, he⟩ : ∃ q, decide (x.data = y.data) = q := ⟨_, rfl⟩
  obtain ⟨f, hf⟩ : ∃ q, decide (x.xs = y.xs) = q := ⟨_, rfl⟩
  have HA := hide (alike_rep hv hu a b c d e f ha hb hc hd he hf)
  have hA : ∀ W : World, (binOp .neq 38 (.agg #[.int .i64 v.mode, .int .i64 v.uid, .int .i64 v.gid]) (.agg #[.int .i64 u.mode, .int .i64 u.uid, .int .i64 u.gid])).run Try.prog W = .ok (.bool (!b)) W := fun W => by rw [attrNeq, hb]
  have ha' := bne_of ha
  have HE := hide ((str_eq hv.data.bytes hu.data.bytes).trans he)
  have s1 := fun o p => str_conv0 hv.data (below_alloc2 w o p) v.dc
  have s2 := fun o p => str_conv0 hu.data (below_alloc2 w o p) u.dc
  have HE' := HE.out
  generalize strOfNums x.data = S1 at s1 HE'
  generalize strOfNums y.data = S2 at s2 HE'
  clear HE
  have HV := hide hv
  have HU := hide hu
  have HF := hide hf
  have x1 := hv.xc
  have x2 := hv.xcm
  clear hv hu he hf hb
  unfold Nv.cells
  cases a with
  | false =>
    go_enter Try.func23, Try.ntmps23
    go_wp2
    go_ret
    exact ⟨ret_bool (by rw [HA.out]; rfl), below_alloc2 w _ _⟩
  | true =>
  cases b with
  | false =>
    go_enter Try.func23, Try.ntmps23
    go_wp2
    go_ret
    exact ⟨ret_bool (by rw [HA.out]; rfl), below_alloc2 w _ _⟩
  | true =>
  cases e with
  | false =>
    go_enter Try.func23, Try.ntmps23
    go_wp2
    go_ret
    exact ⟨ret_bool (by rw [HA.out]; cases c <;> cases d <;> rfl), below_alloc2 w _ _⟩
  | true =>
  cases c with
  | false =>
    go_enter Try.func23, Try.ntmps23
    go_wp2
    go_ret
    exact ⟨ret_bool (by rw [HA.out]; rfl), below_alloc2 w _ _⟩
  | true =>
  cases d with
  | false =>
    have hd' : (v.op != u.op) = true := by rw [bne, hd]; rfl
    go_enter Try.func23, Try.ntmps23
    go_wp2
    go_ret
    exact ⟨ret_bool (by rw [HA.out]; rfl), below_alloc2 w _ _⟩
  | true =>
  have hd' : (v.op != u.op) = false := by rw [bne, hd]; rfl
  have HLN := hide HV.out.xs.1
  have HKN := hide HU.out.xs.1
  by_cases hnm : v.xn = u.xn
  · have hn' : ((v.xn : Int) != u.xn) = false := by simp; omega
    have HNM := hide hnm
    obtain ⟨W, hW⟩ : ∃ W, W = (w.alloc (.cells v.cells 42)).alloc (.cells u.cells 42) := ⟨_, rfl⟩
    have HW := hide hW
    have hbel : Hid (Below w.heap.size w W) := by show Below _ _ _; rw [hW]; exact below_alloc2 w _ _
    have g1 : W.cell? ⟨w.heap.size, 8, none⟩ = some (.slice v.xa v.xn v.xc) := by rw [hW]; simp [Nv.cells]
    have g2 : W.cell? ⟨w.heap.size + 1, 8, none⟩ = some (.slice u.xa u.xn u.xc) := by rw [hW]; simp [Nv.cells]
    clear hW hnm
    go_enter Try.func23, Try.ntmps23
    go_wp2
    go_loopw [5] (fun r wr => ∃ i q : Nat, wr = W.drewN q ∧ r = .int .i64 i ∧ i ≤ v.xn ∧ (x.xs = y.xs ↔ x.xs.drop i = y.xs.drop i)) (fun r _ => v.xn - (intOf r).toNat)
    case atStart => exact ⟨0, 0, HW.out.symm, rfl, Nat.zero_le _, Iff.rfl⟩
    case round =>
      obtain ⟨i, q, rfl, rfl, hi0, hinv⟩ := hrel
      have HI := hide hinv
      by_cases hp : i < v.xn
      · have hd0 : decide ((i : Int) < v.xn) = true := by simpa using hp
        have hp2 : i < u.xn := by rw [← HNM.out]; exact hp
        have hp3 : (i : Int) < u.xn := by omega
        obtain ⟨ba, oa, ea, hba, hca⟩ := (HV.out.xs.below hbel.out).at (by omega)
        obtain ⟨bb, ob, eb, hbb, hcb⟩ := (HU.out.xs.below hbel.out).at (by omega)
        obtain ⟨c1, va, vn, vc, c2, b1, _⟩ := hca i hp
        obtain ⟨c3, ua, un, uc, c4, b2, _⟩ := hcb i hp2
        rw [ea] at g1
        rw [eb] at g2
        have r1 : ∀ k, (convert 39 9 (.slice va vn vc)).run Try.prog (W.drewN k) = .ok (.string (strOfNums (gx x.xs i).2)) (W.drewN k) := fun k => str_any (b1.below (below_drewN W k)) vc
        have r2 : ∀ k, (convert 39 9 (.slice ua un uc)).run Try.prog (W.drewN k) = .ok (.string (strOfNums (gx y.xs i).2)) (W.drewN k) := fun k => str_any (b2.below (below_drewN W k)) uc
        have ES := hide (xs_step (l := x.xs) (k := y.xs) (i := i) (by rw [HLN.out]; exact hp) (by rw [HKN.out]; exact hp2))
        have HSE := hide (str_eq b1.bytes b2.bytes)
        have HSE' := HSE.out
        generalize strOfNums (gx x.xs i).2 = T1 at r1 HSE'
        generalize strOfNums (gx y.xs i).2 = T2 at r2 HSE'
        have HSQ := hide HSE'
        clear hca hcb b1 b2 hinv HSE HSE' s1 s2
        obtain ⟨q1, hq1⟩ : ∃ q, ((gx x.xs i).1.toList == (gx y.xs i).1.toList) = q := ⟨_, rfl⟩
        cases q1 with
        | false =>
          have hq2 : (!(gx x.xs i).1.toList == (gx y.xs i).1.toList) = true := by rw [hq1]; rfl
          have HQ : Hid (f = false) := by
            show _ = _
            rw [← HF.out, decide_eq_false_iff_not, HI.out, ES.out]
            intro h
            rw [h.1] at hq1
            simp at hq1
          go_wp2
          go_quiet (fail)
          go_wp2
          go_ret
          refine ⟨ret_bool (by rw [HA.out, HQ.out]; rfl), ?_⟩
          simp only [World.drewN_drewN]
          exact hbel.out.trans (below_drewN _ _)
        | true =>
          have hq2 : (!(gx x.xs i).1.toList == (gx y.xs i).1.toList) = false := by rw [hq1]; rfl
          have HN1 : Hid ((gx x.xs i).1 = (gx y.xs i).1) := toList_inj (by simpa using hq1)
          go_wp2
          go_quiet (fail)
          go_wp2
          · have e : (!T1.toList == T2.toList) = true := by assumption
            have HQ : Hid (f = false) := by
              show _ = _
              rw [← HF.out, decide_eq_false_iff_not, HI.out, ES.out]
              intro h
              rw [HSQ.out, h.1] at e
              simp at e
            go_ret
            refine ⟨ret_bool (by rw [HA.out, HQ.out]; rfl), ?_⟩
            simp only [World.drewN_drewN]
            exact hbel.out.trans (below_drewN _ _)
          · have e : (!T1.toList == T2.toList) = false := by assumption
            refine ⟨⟨i + 1, _, rfl, by go_num, by omega, ?_⟩, by simp [intOf]; omega⟩
            rw [HI.out, ES.out]
            rw [HSQ.out] at e
            have e2 : (gx x.xs i).2 = (gx y.xs i).2 := by simpa using e
            have : gx x.xs i = gx y.xs i := Prod.ext HN1.out e2
            simp [this]
      · have hd0 : decide ((i : Int) < v.xn) = false := by simpa using hp
        have HQ : Hid (f = true) := by
          show _ = _
          rw [← HF.out, decide_eq_true_eq, HI.out, List.drop_eq_nil_of_le (by rw [HLN.out]; omega), List.drop_eq_nil_of_le (by rw [HKN.out]; have := HNM.out; omega)]
        go_wp2
        go_ret
        refine ⟨ret_bool (by rw [HA.out, HQ.out]; rfl), hbel.out.trans (below_drewN _ _)⟩
  · have hn' : ((v.xn : Int) != u.xn) = true := by simp; omega
    have HN : Hid (f = false) := by
      show _ = _
      rw [← HF.out, decide_eq_false_iff_not]
      intro h
      have := congrArg List.length h
      rw [HLN.out, HKN.out] at this
      exact hnm this
    go_enter Try.func23, Try.ntmps23
    go_wp2
    go_ret
    exact ⟨ret_bool (by rw [HA.out, HN.out]; rfl), below_alloc2 w _ _⟩
end Go.Proofs.Ytppmekmaclolbaa

/- Layer 10: the reference's Put. -/
import Derived.Test.YtdenbbljbkpbdaaDirRefLook
import Derived.Test.YtdenbbljbkpbdaaCurRefW
namespace Go.Proofs.Ytdenbbljbkpbdaa
set_option linter.unusedVariables false
set_option maxRecDepth 100000
open Go.RowKit Go.Maps
open Nam Cur Cap Dir

namespace Dir
/-- The reference's writer at p, since w0. -/
structure RP (w0 : World) (p : Nat) (zs : List Int) (w : World) : Prop where
  wr : ∃ v, WrR w p w0.heap.size v (zs, 0)
  bel : Below w0.heap.size w0 w
  hp : w0.heap.size ≤ p
theorem RP.below {w0 w w' : World} {p : Nat} {zs : List Int} (h : RP w0 p zs w) (hb : Below w.heap.size w w') : RP w0 p zs w' := by
  obtain ⟨v, hv⟩ := h.wr
  exact ⟨⟨v, hv.below hb⟩, h.bel.trans (hb.mono h.bel.size), h.hp⟩
/-- The same with an entry at x. -/
structure RX (w0 : World) (p x : Nat) (E : Ent) (zs : List Int) (w : World) : Prop where
  pw : RP w0 p zs w
  ob : w.heap[x]? = some (.cells (ev E) 35 (0, 0))
theorem RX.below {w0 w w' : World} {p x : Nat} {E : Ent} {zs : List Int} (h : RX w0 p x E zs w) (hb : Below w.heap.size w w') : RX w0 p x E zs w' :=
  ⟨h.pw.below hb, (hb.block _ (heap_lt h.ob)).trans h.ob⟩
theorem RX.cell {w0 w : World} {p x : Nat} {E : Ent} {zs : List Int} (h : RX w0 p x E zs w) (k : Nat) : w.cell? ⟨x, k, none⟩ = (ev E)[k]? := cell_of_row _ _ _ _ _ _ h.ob
theorem RP.new {w0 w w' : World} {p : Nat} {zs : List Int} (h : RP w0 p zs w) (E : Ent) (hw : w' = w.alloc (.cells (ev E) 35)) : RX w0 p w.heap.size E zs w' := by
  subst hw
  exact ⟨h.below (below_one _ _), heap_new rfl⟩
theorem WrR.base {w : World} {p B : Nat} {v : Value} {s : St} (h : WrR w p B v s) : ∀ k, v.ownBlock = some k → B ≤ k := by
  obtain ⟨ao, n, c, ys, rfl, hd, ho, _⟩ := h
  intro k hk
  exact (ho.lt k hk).1
theorem RX.wrote {w0 w w' : World} {p x : Nat} {E : Ent} {zs zs' : List Int} {v : Value} (h : RX w0 p x E zs w) (hv : WrR w p w0.heap.size v (zs, 0)) (hD : WrRDone w w' p w0.heap.size v (zs', 0)) : RX w0 p x E zs' w' := by
  obtain ⟨v', h1, hf, h3⟩ := hD
  have hb := WrR.base hv
  obtain ⟨ao, n, c, ys, rfl, hd, ho, _⟩ := hv
  have n2 : x ≠ p := ne_obj h.ob hd (by decide)
  refine ⟨⟨⟨v', h1⟩, h.pw.bel.trans (hf.two_below h.pw.bel.size h.pw.hp hb), h.pw.hp⟩, (hf.block _ (heap_lt h.ob) (fun hx => ?_)).trans h.ob⟩
  rcases hx with hx | hx
  · exact n2 hx
  · obtain ⟨cur, hcur⟩ := owns_obj ho hx
    exact ne_obj h.ob hcur (by decide) rfl
end Dir
theorem rx_num (w0 : World) (p x : Nat) (E : Ent) (zs : List Int) (y m : Int) (n : Nat) (w : World) (h : RX w0 p x E zs w) (hl : zs.length ≤ 900000) (hm : m = (n : Int)) (h1 : 1 ≤ n) (h4 : n ≤ 4) (h0 : 0 ≤ y) (hx : y < 256 ^ n) :
    Calls Try.prog 24 #[.pointer (some ⟨p, 0, none⟩), .int .i64 y, .int .i64 m] w fun r w' => r = .returned (.tuple #[]) ∧ RX w0 p x E (zs ++ by' n y) w' := by
  obtain ⟨v, hv⟩ := h.pw.wr
  have h5 : (256 : Int) ^ n ≤ 256 ^ 4 := pow256 h4
  refine (refWNum_any p w0.heap.size v y m (zs, 0) w hv h.pw.bel.size (by simp; omega) (by omega) (by omega)).mono ?_
  rintro r w' ⟨rfl, hD⟩
  rw [Dir.wNum_ok zs m n y hm h1 h4 h0 hx] at hD
  exact ⟨rfl, h.wrote hv hD⟩
theorem rx_text (w0 : World) (p x : Nat) (E : Ent) (zs : List Int) (t : ByteArray) (w : World) (h : RX w0 p x E zs w) (hl : zs.length ≤ 900000) (ht : t.size ≤ 255) :
    Calls Try.prog 23 #[.pointer (some ⟨p, 0, none⟩), .string t] w fun r w' => r = .returned (.tuple #[]) ∧ RX w0 p x E (zs ++ ((t.size : Int) :: sb t)) w' := by
  obtain ⟨v, hv⟩ := h.pw.wr
  refine (refWText_any p w0.heap.size v t (zs, 0) w hv h.pw.bel.size (by simp; omega) (by omega)).mono ?_
  rintro r w' ⟨rfl, hD⟩
  rw [Dir.wTxt_ok zs t ht] at hD
  exact ⟨rfl, h.wrote hv hD⟩
/-- What the reference's Put answers. -/
def RPuts (L : List Ent) (w : World) (r : Ending) (w' : World) : Prop :=
  (may L = true ∧ ∃ ao c, r = .returned (.tuple #[.slice ao (putB L).length c, .int .i64 0]) ∧ Bs w' ao (putB L).length (putB L) ∧ (putB L).length ≤ c ∧ c ≤ 9223372036854775807 ∧ (ao = none → c = 0) ∧ Below w.heap.size w w') ∨
  (may L = false ∧ r = .returned (.tuple #[.slice none 0 0, .int .i64 1]) ∧ Below w.heap.size w w')
set_option maxHeartbeats 4000000 in
theorem refDPut_any (a : Option Addr) (n c : Nat) (L : List Ent) (w : World) (hl : Es w a n L) (hn : n ≤ 3000) :
    Calls Try.prog 11 #[.slice a n c] w fun r w' => RPuts L w r w' := by
  obtain ⟨w1, hw1⟩ : ∃ w1, w1 = w.alloc (.cells #[.slice none 0 0, .int .i64 0] 53) := ⟨_, rfl⟩
  have HL := hide hl
  have HLN := hide hl.1
  have HP0 : Hid (RP w w.heap.size [] w1) := by
    refine ⟨⟨.slice none 0 0, none, 0, 0, [], rfl, ?_, ⟨rfl, .inl ⟨rfl, rfl⟩⟩, Bytes.nil, fun _ => rfl, .inl rfl⟩, by rw [hw1]; exact below_one _ _, Nat.le_refl _⟩
    rw [hw1]
    exact heap_new rfl
  have HW1 := hide hw1
  clear hl hw1
  go_enter Try.func11, Try.ntmps11
  go_wp2_with fail
  rw [← HW1.out]
  go_loopw [5, 6] (fun r _ wr => ∃ i : Nat, r = .int .i64 i ∧ i ≤ n ∧ RP w w.heap.size (putB (L.take i)) wr ∧ may L = rise (pv L i) (L.drop i) ∧ (∀ E ∈ L.take i, fit E)) (fun r _ _ => n - (intOf r).toNat)
  case atStart => exact ⟨0, rfl, Nat.zero_le _, HP0.out, rfl, by simp⟩
  case round =>
    clear HP0 HW1
    obtain ⟨i, rfl, hi0, hP, hinv, hfit⟩ := hrel
    have HI := hide hinv
    have HP := hide hP
    have HFt := hide hfit
    have hzl : (putB (L.take i)).length ≤ 783000 := by
      have := putB_length hfit
      have h2 : (L.take i).length ≤ i := by simp; omega
      omega
    obtain ⟨zs, hzs⟩ : ∃ zs, zs = putB (L.take i) := ⟨_, rfl⟩
    rw [← hzs] at HP hzl
    have HZ := hide hzs
    clear hinv hfit hP hzs
    by_cases hi : i < n
    · have hd : decide ((i : Int) < n) = true := by simpa using hi
      obtain ⟨ba, oa, rfl, hba, hca⟩ := (HL.out.below HP.out.bel).at (by omega)
      have hx := hca i hi
      obtain ⟨E, hE⟩ : ∃ E, E = gl L i := ⟨_, rfl⟩
      rw [← hE] at hx
      have HEE := hide hE
      obtain ⟨c0, c1, c2⟩ := range_cells hx
      obtain ⟨wx, hwx⟩ : ∃ wx, wx = wr.alloc (.cells (ev E) 35) := ⟨_, rfl⟩
      have HX := hide (HP.out.new E hwx)
      have HBd : Hid (∀ k, Below w.heap.size w (wx.drewN k)) := fun k => below_drewN HX.out.pw.bel k
      have HWX := hide hwx
      have HR : Hid (may L = (nx (pv L i) E && rise E.name (L.drop (i + 1)))) := by
        have := rise_drop L i (by rw [HLN.out]; exact hi)
        rw [pv_succ, ← hE] at this
        rw [← this]
        exact HI.out
      have x0 : wx.cell? ⟨wr.heap.size, 0, none⟩ = some (.string E.name) := HX.out.cell 0
      have x1 : wx.cell? ⟨wr.heap.size, 1, none⟩ = some (.int .i64 E.kind) := HX.out.cell 1
      have x2 : wx.cell? ⟨wr.heap.size, 2, none⟩ = some (.int .i64 E.ref) := HX.out.cell 2
      obtain ⟨vl, hvl⟩ : ∃ vl, valid E.name.toList = vl := ⟨_, rfl⟩
      have HVl := hide hvl
      have HRV : Hid (∀ w, Calls Try.prog 22 #[.string E.name] w fun e w' => e = .returned (.int .i64 vl) ∧ w' = w) := fun w => by rw [← hvl]; exact refValid_any E.name w
      clear hx hwx hE
      unfold ev at HWX
      go_wp2_with fail
      rw [← HWX.out]
      by_cases h1 : vl = 0
      · have hokk : ok E = decide ((1 ≤ E.kind ∧ E.kind ≤ 3) ∧ 0 ≤ E.ref ∧ E.ref ≤ 4294967295) := by
          unfold ok
          rw [hvl, h1]
          simp
        have HNk : Hid (¬ (1 ≤ E.kind ∧ E.kind ≤ 3 ∧ 0 ≤ E.ref ∧ E.ref ≤ 4294967295) → may L = false) := fun h => by
          rw [HR.out]
          unfold nx
          rw [hokk, decide_eq_false (by omega)]; simp
        have HOk : Hid ((1 ≤ E.kind ∧ E.kind ≤ 3 ∧ 0 ≤ E.ref ∧ E.ref ≤ 4294967295) → ok E = true) := fun h => by
          rw [hokk, decide_eq_true (by omega)]
        have HV0 := hide (h1 ▸ hvl : valid E.name.toList = 0)
        subst h1
        clear hvl hokk
        rcases Nat.eq_zero_or_pos i with h0 | h0
        · have HYes : Hid ((1 ≤ E.kind ∧ E.kind ≤ 3 ∧ 0 ≤ E.ref ∧ E.ref ≤ 4294967295) → nx (pv L i) E = true) := fun h => by
            rw [h0]
            show nx em E = true
            rw [nx_em]
            exact HOk.out h
          have i0 : decide (0 < i) = false := by simp [h0]
          clear hca h0
          by_cases g1 : E.kind < 1
          · have g1' : decide (E.kind < 1) = true := by simpa using g1
            have HBad := hide (HNk.out (by omega))
            go_quiet ((go_at_call 22; refine Calls.quiet_of_same (HRV.out _)))
            go_wp2
            go_ret2
            exact .inr ⟨HBad.out, rfl, HBd.out _⟩
          have g1' : decide (E.kind < 1) = false := by simpa using g1
          by_cases g2 : 3 < E.kind
          · have g2' : decide (3 < E.kind) = true := by simpa using g2
            have HBad := hide (HNk.out (by omega))
            go_quiet ((go_at_call 22; refine Calls.quiet_of_same (HRV.out _)))
            go_wp2
            go_ret2
            exact .inr ⟨HBad.out, rfl, HBd.out _⟩
          have g2' : decide (3 < E.kind) = false := by simpa using g2
          by_cases g3 : E.ref < 0
          · have g3' : decide (E.ref < 0) = true := by simpa using g3
            have HBad := hide (HNk.out (by omega))
            go_quiet ((go_at_call 22; refine Calls.quiet_of_same (HRV.out _)))
            go_wp2
            go_ret2
            exact .inr ⟨HBad.out, rfl, HBd.out _⟩
          have g3' : decide (E.ref < 0) = false := by simpa using g3
          by_cases g4 : 4294967295 < E.ref
          · have g4' : decide (4294967295 < E.ref) = true := by simpa using g4
            have HBad := hide (HNk.out (by omega))
            go_quiet ((go_at_call 22; refine Calls.quiet_of_same (HRV.out _)))
            go_wp2
            go_ret2
            exact .inr ⟨HBad.out, rfl, HBd.out _⟩
          have g4' : decide (4294967295 < E.ref) = false := by simpa using g4
          have HNx := hide (HYes.out (by omega))
          go_quiet ((go_at_call 22; refine Calls.quiet_of_same (HRV.out _)))
          have hok : ok E = true := HOk.out (by omega)
          have hft := ok_fit hok
          have HFE := hide hft
          obtain ⟨f1, ⟨f2, f3⟩, f4, f5⟩ := hft
          have HXq : Hid (RX w w.heap.size wr.heap.size E zs (wx.drewN nq)) := HX.out.below (below_drewN (Below.refl _ _) nq)
          generalize wx.drewN nq = wq at *
          have d0 : wq.cell? ⟨wr.heap.size, 0, none⟩ = some (.string E.name) := HXq.out.cell 0
          clear hok HX HWX HBd x0 x1 x2 c0 c1 c2 HRV
          go_wp2_with fail
          refine (rx_text w w.heap.size wr.heap.size E zs E.name wq HXq.out (by omega) f1).mono ?_
          rintro r w4 ⟨rfl, hX4⟩
          have HX4 := hide hX4
          have d1 : w4.cell? ⟨wr.heap.size, 1, none⟩ = some (.int .i64 E.kind) := hX4.cell 1
          obtain ⟨z4, hz4⟩ : ∃ z4, z4 = zs ++ ((E.name.size : Int) :: sb E.name) := ⟨_, rfl⟩
          have hl4 : z4.length ≤ 784000 := by rw [hz4]; simp [sb_length]; omega
          rw [← hz4] at HX4
          have HZ4 := hide hz4
          clear hX4 hz4 d0 HXq
          go_wp2_with fail
          refine (rx_num w w.heap.size wr.heap.size E z4 E.kind 1 1 w4 HX4.out (by omega) rfl (by omega) (by omega) f2 (by omega)).mono ?_
          rintro r w5 ⟨rfl, hX5⟩
          have HX5 := hide hX5
          have d2 : w5.cell? ⟨wr.heap.size, 2, none⟩ = some (.int .i64 E.ref) := hX5.cell 2
          obtain ⟨z5, hz5⟩ : ∃ z5, z5 = z4 ++ by' 1 E.kind := ⟨_, rfl⟩
          have hl5 : z5.length ≤ 785000 := by rw [hz5]; simp [by_length]; omega
          rw [← hz5] at HX5
          have HZ5 := hide hz5
          clear hX5 hz5 d1 HX4
          go_wp2_with fail
          refine (rx_num w w.heap.size wr.heap.size E z5 E.ref 4 4 w5 HX5.out (by omega) rfl (by omega) (by omega) f4 (by omega)).mono ?_
          rintro r w6 ⟨rfl, hX6⟩
          have HX6 := hide hX6
          clear hX6 d2 HX5
          go_wp2
          refine ⟨⟨i + 1, by go_num, by omega, ?_, ?_, ?_⟩, by simp [intOf]; omega⟩
          · have := HX6.out.pw
            rw [HZ5.out, HZ4.out, HZ.out] at this
            rw [take_gl L i (by rw [HLN.out]; exact hi), putB_append, putB_one, ← HEE.out]
            unfold entB
            simpa using this
          · rw [HR.out, HNx.out, pv_succ, ← HEE.out]; rfl
          · intro X hX
            rw [take_gl L i (by rw [HLN.out]; exact hi), ← HEE.out] at hX
            rcases List.mem_append.1 hX with h | h
            · exact HFt.out X h
            · simp at h; rw [h]; exact HFE.out
        · obtain ⟨k, hk⟩ : ∃ k, i = k + 1 := ⟨i - 1, by omega⟩
          have hck := hca k (by omega)
          have epv : pv L i = (gl L k).name := by rw [hk, pv_succ]
          rw [epv] at HR HI
          generalize gl L k = P at *
          obtain ⟨p0, _, _⟩ := range_cells hck
          have q0 : wx.cell? ⟨ba, oa + k * 3, none⟩ = some (.string P.name) := by
            rw [HWX.out]
            exact ((below_one wr _).cell (p := ⟨ba, oa + k * 3, none⟩) hba).trans p0
          have i0 : decide ((0 : Int) < (i : Int)) = true := by simp; omega
          have i1 : IntKind.i64.wrap ((i : Int) - 1) = (i : Int) - 1 := by rw [IntKind.wrap_i64]; omega
          have i2 : (0 : Int) ≤ (i : Int) - 1 := by omega
          have i3 : (i : Int) - 1 < (n : Int) := by omega
          have i4 : ((i : Int) - 1).toNat = k := by omega
          obtain ⟨lb, hlb⟩ : ∃ lb, Op.bytesLess P.name.toList E.name.toList = lb := ⟨_, rfl⟩
          cases lb with
          | false =>
            have HBad : Hid (may L = false) := by
              show may L = false
              rw [HR.out]
              unfold nx
              rw [hlb]; rfl
            clear hck hca p0 epv
            go_quiet ((go_at_call 22; refine Calls.quiet_of_same (HRV.out _)))
            go_wp2
            go_ret2
            exact .inr ⟨HBad.out, rfl, HBd.out _⟩
          | true =>
            have HYes : Hid ((1 ≤ E.kind ∧ E.kind ≤ 3 ∧ 0 ≤ E.ref ∧ E.ref ≤ 4294967295) → nx (pv L i) E = true) := fun h => by
              rw [epv]
              unfold nx
              rw [hlb, HOk.out h]; rfl
            rw [← epv] at HR HI
            clear hck hca p0 epv
            by_cases g1 : E.kind < 1
            · have g1' : decide (E.kind < 1) = true := by simpa using g1
              have HBad := hide (HNk.out (by omega))
              go_quiet ((go_at_call 22; refine Calls.quiet_of_same (HRV.out _)))
              go_wp2
              go_ret2
              exact .inr ⟨HBad.out, rfl, HBd.out _⟩
            have g1' : decide (E.kind < 1) = false := by simpa using g1
            by_cases g2 : 3 < E.kind
            · have g2' : decide (3 < E.kind) = true := by simpa using g2
              have HBad := hide (HNk.out (by omega))
              go_quiet ((go_at_call 22; refine Calls.quiet_of_same (HRV.out _)))
              go_wp2
              go_ret2
              exact .inr ⟨HBad.out, rfl, HBd.out _⟩
            have g2' : decide (3 < E.kind) = false := by simpa using g2
            by_cases g3 : E.ref < 0
            · have g3' : decide (E.ref < 0) = true := by simpa using g3
              have HBad := hide (HNk.out (by omega))
              go_quiet ((go_at_call 22; refine Calls.quiet_of_same (HRV.out _)))
              go_wp2
              go_ret2
              exact .inr ⟨HBad.out, rfl, HBd.out _⟩
            have g3' : decide (E.ref < 0) = false := by simpa using g3
            by_cases g4 : 4294967295 < E.ref
            · have g4' : decide (4294967295 < E.ref) = true := by simpa using g4
              have HBad := hide (HNk.out (by omega))
              go_quiet ((go_at_call 22; refine Calls.quiet_of_same (HRV.out _)))
              go_wp2
              go_ret2
              exact .inr ⟨HBad.out, rfl, HBd.out _⟩
            have g4' : decide (4294967295 < E.ref) = false := by simpa using g4
            have HNx := hide (HYes.out (by omega))
            go_quiet ((go_at_call 22; refine Calls.quiet_of_same (HRV.out _)))
            have hok : ok E = true := HOk.out (by omega)
            have hft := ok_fit hok
            have HFE := hide hft
            obtain ⟨f1, ⟨f2, f3⟩, f4, f5⟩ := hft
            have HXq : Hid (RX w w.heap.size wr.heap.size E zs (wx.drewN nq)) := HX.out.below (below_drewN (Below.refl _ _) nq)
            generalize wx.drewN nq = wq at *
            have d0 : wq.cell? ⟨wr.heap.size, 0, none⟩ = some (.string E.name) := HXq.out.cell 0
            clear hok HX HWX HBd x0 x1 x2 c0 c1 c2 HRV
            go_wp2_with fail
            refine (rx_text w w.heap.size wr.heap.size E zs E.name wq HXq.out (by omega) f1).mono ?_
            rintro r w4 ⟨rfl, hX4⟩
            have HX4 := hide hX4
            have d1 : w4.cell? ⟨wr.heap.size, 1, none⟩ = some (.int .i64 E.kind) := hX4.cell 1
            obtain ⟨z4, hz4⟩ : ∃ z4, z4 = zs ++ ((E.name.size : Int) :: sb E.name) := ⟨_, rfl⟩
            have hl4 : z4.length ≤ 784000 := by rw [hz4]; simp [sb_length]; omega
            rw [← hz4] at HX4
            have HZ4 := hide hz4
            clear hX4 hz4 d0 HXq
            go_wp2_with fail
            refine (rx_num w w.heap.size wr.heap.size E z4 E.kind 1 1 w4 HX4.out (by omega) rfl (by omega) (by omega) f2 (by omega)).mono ?_
            rintro r w5 ⟨rfl, hX5⟩
            have HX5 := hide hX5
            have d2 : w5.cell? ⟨wr.heap.size, 2, none⟩ = some (.int .i64 E.ref) := hX5.cell 2
            obtain ⟨z5, hz5⟩ : ∃ z5, z5 = z4 ++ by' 1 E.kind := ⟨_, rfl⟩
            have hl5 : z5.length ≤ 785000 := by rw [hz5]; simp [by_length]; omega
            rw [← hz5] at HX5
            have HZ5 := hide hz5
            clear hX5 hz5 d1 HX4
            go_wp2_with fail
            refine (rx_num w w.heap.size wr.heap.size E z5 E.ref 4 4 w5 HX5.out (by omega) rfl (by omega) (by omega) f4 (by omega)).mono ?_
            rintro r w6 ⟨rfl, hX6⟩
            have HX6 := hide hX6
            clear hX6 d2 HX5
            go_wp2
            refine ⟨⟨i + 1, by go_num, by omega, ?_, ?_, ?_⟩, by simp [intOf]; omega⟩
            · have := HX6.out.pw
              rw [HZ5.out, HZ4.out, HZ.out] at this
              rw [take_gl L i (by rw [HLN.out]; exact hi), putB_append, putB_one, ← HEE.out]
              unfold entB
              simpa using this
            · rw [HR.out, HNx.out, pv_succ, ← HEE.out]; rfl
            · intro X hX
              rw [take_gl L i (by rw [HLN.out]; exact hi), ← HEE.out] at hX
              rcases List.mem_append.1 hX with h | h
              · exact HFt.out X h
              · simp at h; rw [h]; exact HFE.out
      · have HBad : Hid (may L = false) := by
          show may L = false
          have : ok E = false := by
            unfold ok
            rw [decide_eq_false_iff_not, hvl]
            exact fun h => h1 h.1
          rw [HR.out]
          unfold nx
          rw [this]; simp
        have h1' : (vl != 0) = true := by simpa using h1
        clear hvl hca
        go_quiet ((go_at_call 22; refine Calls.quiet_of_same (HRV.out _)))
        go_wp2
        go_ret2
        exact .inr ⟨HBad.out, rfl, HBd.out _⟩
    · have hd : decide ((i : Int) < n) = false := by simpa using hi
      have hin : i = n := by omega
      have HM : Hid (may L = true) := by
        show may L = true
        rw [HI.out, List.drop_eq_nil_of_le (by rw [HLN.out]; omega)]; rfl
      have HZL : Hid (zs = putB L) := by show zs = _; rw [HZ.out, List.take_of_length_le (by rw [HLN.out]; omega)]
      obtain ⟨v, hv⟩ := HP.out.wr
      have HV := hide hv
      have HBr := hide HP.out.bel
      clear hv
      go_wp2_with fail
      refine (refDone_any w.heap.size w.heap.size v (zs, 0) wr HV.out (by simp; omega)).mono ?_
      rintro r w3 ⟨ao, c3, rfl, hB3, hc3, hm3, hn3, hb3⟩
      have HX : Hid (Bs w3 ao zs.length zs ∧ zs.length ≤ c3 ∧ c3 ≤ 9223372036854775807 ∧ (ao = none → c3 = 0) ∧ Below w.heap.size w w3) := ⟨hB3, hc3, hm3, hn3, HBr.out.trans (hb3.mono HBr.out.size)⟩
      clear hB3 hc3 hm3 hn3 hb3
      go_wp2
      go_ret2
      refine .inl ⟨HM.out, ao, c3, ?_, ?_⟩
      · rw [← HZL.out]; rfl
      · rw [← HZL.out]; exact HX.out
end Go.Proofs.Ytdenbbljbkpbdaa

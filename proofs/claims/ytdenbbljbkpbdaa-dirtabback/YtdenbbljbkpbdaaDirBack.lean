/- Layer 10: DirtabBack: what was put is taken as it was, each entry is found by its name; what is cut is a shorter list, or none. -/
import Derived.Test.YtdenbbljbkpbdaaDirShown
import Derived.Test.YtdenbbljbkpbdaaDirSame
namespace Go.Proofs.Ytdenbbljbkpbdaa
set_option linter.unusedVariables false
set_option maxRecDepth 100000
open Go.RowKit Go.Maps
open Nam Cur Cap Dir

set_option maxHeartbeats 2000000 in
theorem back_walk (a0 : Option Addr) (len0 cap0 : Nat) (L0 : List Ent) (a1 : Int) (w : World) (f0 : Es w a0 len0 L0) (fc0 : len0 ≤ cap0) (fm0 : cap0 ≤ 9223372036854775807) (fi0 : ∀ E ∈ L0, E.In) (fn0 : a0 = none → cap0 = 0) (w1 : (Lit.int .i64 a1).wf = true) :
    Calls Try.prog 6 #[.slice a0 len0 cap0, .int .i64 a1] w fun e w' => e = .returned (.bool true) ∧ Below w.heap.size w w' := by
  have ha1 := wf_i64_bd w1
  have HF := hide f0
  clear f0 fi0 fn0 w1
  go_enter Try.func6, Try.ntmps6
  go_wp2_with fail
  refine (shown_any w).mono ?_
  rintro r w1 ⟨rfl, b1⟩
  have HB1 := hide b1
  have HF1 := hide (HF.out.below b1)
  clear b1 HF
  go_wp2_with fail
  refine (few_any a0 len0 cap0 L0 w1 HF1.out fc0 fm0).mono ?_
  rintro r w1' ⟨n, rfl, hE, hnc, hn60, rfl⟩
  generalize L0.take 60 = L at *
  have hEn := hE.1
  have HE := hide hE
  clear hE HF1
  have HP := hide (dPut_any a0 n cap0 L w1' HE.out hnc fm0 (by omega))
  unfold DPuts at HP
  go_wp2_with fail
  cases hq : may L with
  | false =>
    rw [hq] at HP
    refine HP.out.mono ?_
    rintro r w2 (⟨h, _⟩ | ⟨_, rfl, b2⟩)
    · cases h
    have HB2 := hide (HB1.out.trans (b2.mono HB1.out.size))
    clear b2 HP hq
    go_wp2
    go_ret
    exact ⟨rfl, HB2.out⟩
  | true =>
    rw [hq] at HP
    refine HP.out.mono ?_
    rintro r w2 (⟨_, aP, cP, rfl, hN⟩ | ⟨h, _⟩)
    rotate_left
    · cases h
    have HB2 := hide (HB1.out.trans (hN.bel.mono HB1.out.size))
    have HE2 := hide (HE.out.below hN.bel)
    have HN := hide hN
    have hpl := putB_length (may_fit hq)
    have hpp := par_putB (may_fit hq)
    have htk := tk_put hq
    have HTk := hide (dTake_any (putB L).length cP aP (putB L) w2 hN.bs hN.cap hN.nil (by omega))
    unfold DTakes at HTk
    rw [hpp, htk] at HTk
    have HLk := hide (fun t w3 (h : Bs w3 aP (putB L).length (putB L)) => dLook_any (putB L).length cP aP L t w3 hq h hN.cap hN.nil (by omega))
    have HCut := hide (fun k w3 (hk : k < (putB L).length) (h : Bs w3 aP k ((putB L).take k)) => dTake_any k cP aP ((putB L).take k) w3 h (by have := hN.cap; omega) hN.nil (by omega))
    have HC2 := hide (fun k (hk : k < (putB L).length) => tk_cut hq k hk)
    have HFd := hide (fun E hE => lk_found hq E hE)
    have hcapP := hN.cap
    have hmaxP := hN.max
    simp only [hEn] at HTk
    have hplm : (putB L).length ≤ 20000 := by omega
    obtain ⟨m, hm⟩ : ∃ m, m = (putB L).length := ⟨_, rfl⟩
    obtain ⟨Z, hZ⟩ : ∃ Z, Z = putB L := ⟨_, rfl⟩
    have HM := hide hm
    rw [← hm] at HTk
    rw [← hm, ← hZ] at HN HLk HCut HC2
    rw [← hm] at hcapP hplm ⊢
    clear hN HP hq hpl hpp htk HE hm hZ
    go_wp2_with fail
    refine HTk.out.mono ?_
    rintro r w3 (⟨_, a3, c3, rfl, hE3, hc3, hm3, b3⟩ | ⟨h, _⟩)
    rotate_left
    · cases h
    have HE3 := hide hE3
    have HE3' := hide (HE2.out.below b3)
    have HB3 := hide (HB2.out.trans (b3.mono HB2.out.size))
    have HS3 := hide (HN.out.bs.below b3)
    clear hE3 b3 HTk HE2 HN HB1 HB2
    go_wp2_with fail
    refine (same_any a0 a3 n cap0 n c3 L L w3 HE3'.out HE3.out (by omega) (by omega)).mono ?_
    rintro r w4 ⟨rfl, q, rfl⟩
    have HW4 := hide (below_drewN HB3.out q)
    have HE4 := hide (HE3'.out.below (below_drewN (Below.refl _ _) q))
    have HS4 := hide (HS3.out.below (below_drewN (Below.refl _ _) q))
    rw [sameL_refl]
    generalize w3.drewN q = w4 at *
    clear HE3 HE3' HS3 HB3
    go_wp2_with fail
    go_loopw [11, 12, 13] (fun r _ _ wr => ∃ i : Nat, r = .int .i64 i ∧ i ≤ n ∧ Below w4.heap.size w4 wr) (fun r _ _ _ => n - (intOf r).toNat)
    case atStart => exact ⟨0, rfl, Nat.zero_le _, Below.refl _ _⟩
    case round =>
      obtain ⟨i, rfl, hi0, hbr⟩ := hrel
      have HBr := hide hbr
      have HEr := hide (HE4.out.below hbr)
      have HSr := hide (HS4.out.below hbr)
      clear hbr
      by_cases hp : i < n
      · have hd : decide ((i : Int) < n) = true := by simpa using hp
        obtain ⟨ba, oa, rfl, hba, hca⟩ := HEr.out.at (by omega)
        have hx := hca i hp
        have HFi := hide (HFd.out (gl L i) (gl_mem L i (by rw [hEn]; exact hp)))
        generalize gl L i = E at *
        have HLi := hide (HLk.out E.name wr HSr.out)
        rw [HFi.out] at HLi
        obtain ⟨c0, c1, c2⟩ := range_cells hx
        have HX := hide hx
        clear hca hx
        unfold ev at HLi
        simp only at HLi
        go_wp2_with fail
        refine HLi.out.mono ?_
        rintro r w5 ⟨rfl, b5⟩
        have x5 := range_below HX.out b5 hba
        have hl5 := b5.size
        have HB5 := hide (HBr.out.trans (b5.mono HBr.out.size))
        obtain ⟨wA, hwA⟩ : ∃ wA, wA = w5.alloc (.cells (ev E) 35) := ⟨_, rfl⟩
        have bA : Below w5.heap.size w5 wA := by rw [hwA]; exact below_one _ _
        have HBA := hide (HB5.out.trans (bA.mono HB5.out.size))
        have hA : wA.heap[w5.heap.size]? = some (.cells (ev E) 35 (0, 0)) := by rw [hwA]; exact heap_new rfl
        have e0 : wA.cell? ⟨w5.heap.size, 0, none⟩ = some (.string E.name) := cell_of_row _ _ _ _ _ _ hA
        have e1 : wA.cell? ⟨w5.heap.size, 1, none⟩ = some (.int .i64 E.kind) := cell_of_row _ _ _ _ _ _ hA
        have e2 : wA.cell? ⟨w5.heap.size, 2, none⟩ = some (.int .i64 E.ref) := cell_of_row _ _ _ _ _ _ hA
        obtain ⟨d0, d1, d2⟩ := range_cells (range_below x5 bA (by omega))
        have HWA := hide hwA
        unfold ev at HWA
        clear b5 x5 c0 c1 c2 HLi HX bA hA hwA
        go_wp2_with fail
        rw [← HWA.out]
        go_quiet (fail)
        go_wp2
        exact ⟨⟨i + 1, by go_num, by omega, below_drewN HBA.out _⟩, by simp [intOf]; omega⟩
      · have hd : decide ((i : Int) < n) = false := by simpa using hp
        have HBe := hide (HW4.out.trans (HBr.out.mono HW4.out.size))
        by_cases h0 : a1 < 0
        · have h0' : decide (a1 < 0) = true := by simpa using h0
          go_wp2
          go_ret
          exact ⟨rfl, HBe.out⟩
        · have h0' : decide (a1 < 0) = false := by simpa using h0
          by_cases h1 : (m : Int) ≤ a1
          · have h1' : decide ((m : Int) ≤ a1) = true := by simpa using h1
            go_wp2
            go_ret
            exact ⟨rfl, HBe.out⟩
          · have h1' : decide ((m : Int) ≤ a1) = false := by simpa using h1
            obtain ⟨k, rfl⟩ : ∃ k : Nat, a1 = (k : Int) := ⟨a1.toNat, by omega⟩
            have hk : k < m := by omega
            have h2 := HC2.out k hk
            have HQ := hide (HCut.out k wr hk (HSr.out.take k (by omega)))
            unfold DTakes at HQ
            have k1 : (k : Int) < (m : Int) := by omega
            generalize hpr : par (Z.take k) = pr at *
            obtain ⟨pl, pb⟩ := pr
            generalize tk (Z.take k) = t at *
            cases t with
            | true =>
              have h3 := h2 rfl
              simp only at h3
              have h4 : (pl.length : Int) < (n : Int) := by omega
              clear h2 h0 h1 hpr
              go_wp2_with fail
              refine HQ.out.mono ?_
              rintro r w5 (⟨_, a5, c5, rfl, _, _, _, b5⟩ | ⟨h, _⟩)
              rotate_left
              · cases h
              have HB5 := hide (HBe.out.trans (b5.mono HBe.out.size))
              clear b5
              simp only
              go_wp2
              go_ret
              exact ⟨rfl, HB5.out⟩
            | false =>
              clear h2 h0 h1 hpr
              go_wp2_with fail
              refine HQ.out.mono ?_
              rintro r w5 (⟨h, _⟩ | ⟨_, rfl, b5⟩)
              · cases h
              have HB5 := hide (HBe.out.trans (b5.mono HBe.out.size))
              clear b5
              go_wp2
              go_ret
              exact ⟨rfl, HB5.out⟩
end Go.Proofs.Ytdenbbljbkpbdaa

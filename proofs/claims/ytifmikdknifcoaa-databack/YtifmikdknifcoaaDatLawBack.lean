/- Layer 12: DataBack: files that were laid down are read as they were, but for their tails, from any place on; and their frames end within what was laid down. -/
import Derived.Test.YtifmikdknifcoaaDatRows
import Derived.Deep.CutBlock
import Derived.Deep.CutRange
import Derived.Deep.RegionLaw
namespace Go.Proofs.Ytifmikdknifcoaa
set_option linter.unusedVariables false
set_option maxRecDepth 100000
open Go.RowKit Go.Maps
open Lz (g)
open Crc (ent more)
open Frm Mtr Dat

theorem upC_drewN {W w : World} (h : Below W.heap.size W w) (k : Nat) : Below W.heap.size W (w.drewN k) := below_drewN h k
theorem upC_drew {W w : World} (h : Below W.heap.size W w) : Below W.heap.size W w.drew := below_drewN h 1
theorem upC_alloc {W w : World} (h : Below W.heap.size W w) (o : Obj) : Below W.heap.size W (w.alloc o) := h.alloc h.size o
theorem upC_drewN' {B : Nat} {W w : World} (h : Below B W w) (k : Nat) : Below B W (w.drewN k) := below_drewN h k
theorem upC_drew' {B : Nat} {W w : World} (h : Below B W w) : Below B W w.drew := below_drewN h 1
namespace Dat
/-- The image: 64 noughts, and what was laid down. -/
def img (z : Nat → List Int) (m : Nat) : List Int := List.replicate 64 0 ++ (stt z m).1
theorem img_at (z : Nat → List Int) (m j : Nat) (hj : j < m) : ((z j).length < 128 ∧ pls z j = 0) ∨ ∃ A Z, img z m = A ++ (run ent (z j) ++ Z) ∧ pls z j = A.length := by
  rcases (stt_has z j m hj).at (stt_ok z m) with ⟨h1, h2⟩ | ⟨A, Z, h1, h2⟩
  · exact .inl ⟨by have := (run_nil ent (z j)).1 h1; omega, h2⟩
  · refine .inr ⟨List.replicate 64 0 ++ A, Z, ?_, ?_⟩
    · unfold img; rw [h1, List.append_assoc]
    · rw [h2, List.length_append, List.length_replicate]
theorem img_rd (z : Nat → List Int) (hz : ∀ j, (z j).length ≤ 1500) (m j : Nat) (hj : j < m) (off n : Nat) : rd ent (img z m) (pls z j : Nat) ((z j).length : Nat) (off : Nat) (n : Nat) = (((wh (z j)).drop off).take n, 0) := by
  rcases img_at z m j hj with ⟨h1, h2⟩ | ⟨A, Z, h1, h2⟩
  · exact rd_short _ _ _ off n h1
  · rw [h1, h2]
    exact rd_run small_ent (z j) A Z off n (by have := hz j; omega)
theorem img_wk (z : Nat → List Int) (hz : ∀ j, (z j).length ≤ 1500) (m j : Nat) (hj : j < m) : ∃ e : Nat, wk (img z m) (pls z j : Nat) ((z j).length : Nat) ((img z m).length : Nat) = ((e : Int), 0) ∧ e ≤ (img z m).length ∧ ((z j).length / 128 = 0 → e = pls z j) := by
  rcases img_at z m j hj with ⟨h1, h2⟩ | ⟨A, Z, h1, h2⟩
  · exact ⟨pls z j, wk_short _ _ _ _ h1, by rw [h2]; omega, fun _ => rfl⟩
  · refine ⟨A.length + (run ent (z j)).length, ?_, ?_, fun h => ?_⟩
    · rw [h1, h2]
      exact wk_run small_ent (z j) A Z _ (by have := hz j; omega) (by simp only [List.length_append]; omega)
    · rw [h1]; simp only [List.length_append]; omega
    · rw [(run_nil ent (z j)).2 h, h2]; simp
theorem img_len (z : Nat → List Int) (hz : ∀ j, (z j).length ≤ 1500) (m : Nat) : (img z m).length ≤ 64 + 1500 * m := by
  have := (stt_len z hz m).1
  unfold img; rw [List.length_append, List.length_replicate]; omega
end Dat
/-- A new row of 64 noughts. -/
theorem Dat.make64 : ∃ M : Array Value, M.toList = bv (List.replicate 64 0) ∧ ∀ W : World, (Instr.makeSlice 34 (.int .i64 64) (.int .i64 64)).run Try.prog W = .ok (.slice (some ⟨W.heap.size, 0, none⟩) 64 64) (W.alloc (.cells M 5)) := by
  obtain ⟨i0, hi, hz0, hz1, hz2⟩ := info_parts infoByte
  refine ⟨madeCells (Value.int .u8 0).cells (64 * 1), ?_, fun W => ?_⟩
  · rw [half_zero 64 0]; rfl
  · have h := run_make (P := Try.prog) W 34 5 i0 (.int .u8 0) Try.underlying34 hi hz0 .i64 .i64 (64 : Int) (64 : Int) (by omega) (by omega) (by rw [hz2]; omega) (by omega)
    rw [hz1] at h
    simpa using h
theorem Rw.made {w : World} {b B : Nat} {M : Array Value} (h : w.heap[b]? = some (.cells M 5 (0, 0))) (hM : M.toList = bv (List.replicate 64 0)) (hB : B ≤ b) : Rw w B (some ⟨b, 0, Option.none⟩) 64 64 (List.replicate 64 0) := by
  have hs : M.size = 64 := by rw [← Array.length_toList, hM, bv_length, List.length_replicate]
  refine Rw.of_owns (n := 64) ⟨by rw [bv_length, List.length_replicate], .inr ⟨b, 64, M, rfl, hB, h, Nat.le_refl _, by unfold maxLen; omega, by omega, ?_⟩⟩ (fun y hy => by simp at hy; omega)
  rw [List.take_of_length_le (by rw [Array.length_toList]; omega), hM]
/-- Where many orders come to one place: what follows is shown once. -/
theorem joinB {F G : Nat → Option Addr → Nat → Option Addr → Nat → World → Prop} {T : Prop} (h : (∀ b a c a' c' w, F b a c a' c' w → G b a c a' c' w) → T) (h2 : ∀ b a c a' c' w, F b a c a' c' w → G b a c a' c' w) : T := h h2
theorem abs_cases (a : Int) : ∃ k : Nat, k ≤ 1499 ∧ (a.tmod 1500 = (k : Int) ∨ (0 < k ∧ a.tmod 1500 = -(k : Int))) := by
  have t1 := Int.tmod_lt_of_pos a (show (0 : Int) < 1500 by omega)
  have t2 := Int.neg_tmod a 1500
  have t3 := Int.tmod_lt_of_pos (-a) (show (0 : Int) < 1500 by omega)
  refine ⟨(a.tmod 1500).natAbs, by omega, ?_⟩
  omega
set_option maxHeartbeats 8000000 in
theorem back_walk (a0 : Option Addr) (len0 cap0 : Nat) (R : DRT) (a1 a2 : Int) (w : World) (f0 : MatB w a0 len0 cap0 R) (f1 : (Lit.int .i64 a1).wf = true) (f2 : (Lit.int .i64 a2).wf = true) :
    Calls Try.prog 5 #[.slice a0 len0 cap0, .int .i64 a1, .int .i64 a2] w fun e w' => e = .returned (.bool true) ∧ Below w.heap.size w w' := by
  obtain ⟨hz, hi'⟩ := zero_of_info infoTable
  obtain ⟨i0, hib, hz0, hz1, hz2⟩ := info_parts infoByte
  have HRK : Hid (∀ r, r < min len0 12 → DRowK w R r) := fun r hr => f0.dRowK (by omega)
  have hb1 := wf_i64_bd f1
  have hb2 := wf_i64_bd f2
  obtain ⟨kk, hkk, hkc⟩ := abs_cases a1
  obtain ⟨nn, hnn, hnc⟩ := abs_cases a2
  have HKc := hide (And.intro hkc hnc)
  have HRows := hide (fun w' hw' => dRows_any a0 len0 cap0 R w w' f0 hw')
  clear f0 f1 f2 hkc hnc
  go_enter Try.func5, Try.ntmps5
  go_wp2_with fail
  refine (shown_any w).mono ?_
  rintro r ws ⟨rfl, bs0⟩
  have HB0 := hide bs0
  go_wp2_with fail
  refine (HRows.out ws bs0).mono ?_
  rintro r wl ⟨lo, lc, rfl, hrow, bl⟩
  have HBl := hide (bs0.trans (bl.mono bs0.size))
  have HRow := hide hrow
  clear bs0 bl hrow HRows HB0
  have hm12 : min len0 12 ≤ 12 := by omega
  generalize min len0 12 = m at *
  go_wp2_with fail
  refine (New_any wl).mono ?_
  rintro r w2 ⟨rfl, b2⟩
  obtain ⟨C, hC⟩ : ∃ C, C = tab ent := ⟨_, rfl⟩
  rw [← hC]
  have HC := hide hC
  clear hC
  go_wp2_with (first | (refine wpList_store_table rfl _ _ rfl ent C HC.out rfl rfl _ (by simp) ?_; intro w3 ht3 hT3 hlt3 hb3) | fail)
  have hl3 : Below wl.heap.size wl w3 := b2.trans (hb3.mono b2.size)
  have HB3 := hide (HBl.out.trans (hl3.mono HBl.out.size))
  have HR3 := hide (owns_below HRow.out hl3)
  have HT3 := hide hT3
  clear ht3 hT3 hb3 b2 hl3 hz hi' HC HRow HBl
  refine (dNew_any w2.heap.size 64 w3).mono ?_
  rintro r w4 ⟨rfl, hw4, hb4⟩
  have HD4 := hide (DS.new (Below.refl _ w3) HT3.out hlt3 hw4 hb4)
  clear hw4 hb4
  generalize w2.heap.size = tb at *
  generalize w3.heap.size + 1 = p at *
  have HZL := hide (fun j => dz_length R j)
  have HK : Hid (∀ W, Below w3.heap.size w3 W → ∀ j, j < m → DRowK W R j) := fun W hW j hj => (HRK.out j hj).below (HB3.out.trans (hW.mono HB3.out.size))
  have HLc : Hid (∀ W, Below w3.heap.size w3 W → ∀ j, j < m → ∃ gb, lo = some ⟨gb, 0, none⟩ ∧ W.cell? ⟨gb, j, none⟩ = some (dvOf R j)) := fun W hW j hj => by
    obtain ⟨gb, c', hv, _, hlt⟩ := HR3.out.form (by omega)
    obtain ⟨rfl, rfl⟩ : lo = some ⟨gb, 0, none⟩ ∧ lc = c' := by simpa using hv
    refine ⟨gb, rfl, ?_⟩
    rw [hW.cell (p := ⟨gb, j, none⟩) hlt, HR3.out.cellAt j (by omega)]
    simp [dcut, hj]
  have HE : Hid (DN w3 p tb (fun k => w3.heap.size ≤ k ∧ k < w3.heap.size + 2) ([], []) (some ⟨w4.heap.size, 0, none⟩) 0 0 [] (w4.alloc (.cells #[] 3))) :=
    ⟨HD4.out.below (below_one _ _), emptyR HD4.out.bel.size, fun k hk hx => by
      simp [Value.ownBlock] at hk
      have := HD4.out.wr.olt k hx
      omega, hlt3⟩
  clear HRK HR3 HD4
  go_wp2
  go_loopw [10, 11] (fun s8 s9 wr => ∃ (i sc : Nat) (O : Nat → Prop) (so : Option Addr), s8 = .slice so i sc ∧ s9 = .int .i64 i ∧ i ≤ m ∧ DN w3 p tb O (stt (dzOf R) i) so i sc (plsL (dzOf R) i) wr) (fun _ s9 _ => m - (intOf s9).toNat)
  case atStart => exact ⟨0, 0, _, _, rfl, rfl, Nat.zero_le _, HE.out⟩
  case round =>
    clear HE
    obtain ⟨i, sc, O, so, rfl, rfl, hi, hD⟩ := hrel
    have HD := hide hD
    have hlen := stt_len (dzOf R) HZL.out i
    by_cases hgo : i < m
    · have hg1 : (i : Int) < (m : Int) := by omega
      obtain ⟨gb, rfl, hcell⟩ := HLc.out wr hD.ds.bel i hgo
      have hk := HK.out wr hD.ds.bel i hgo
      unfold dvOf at hcell
      have HAd := hide (hD.ds.adds (min (R i).2.1 1500) (R i).2.2.1 (R i).1 (dzOf R i) hk.bs hk.cap hk.max hk.nil (by omega) (by omega) (by omega) (by omega))
      have HP := hide (show addA 64 (stt (dzOf R) i) (run ent (dzOf R i)) = pls (dzOf R) i from rfl)
      have HS := hide (show addS 64 (stt (dzOf R) i) (run ent (dzOf R i)) = stt (dzOf R) (i + 1) from rfl)
      rw [HP.out, HS.out] at HAd
      have HLk : Hid (∀ wX, Below w3.heap.size w3 wX → wX.cell? ⟨gb, i, none⟩ = some (dvOf R i)) := fun wX hX => by
        obtain ⟨gb', e1, e2⟩ := HLc.out wX hX i hgo
        obtain rfl : gb = gb' := by simpa using e1
        exact e2
      unfold dvOf at HLk
      have HKx : Hid (∀ wX, Below w3.heap.size w3 wX → Bs wX (R i).1 (min (R i).2.1 1500) (dzOf R i)) := fun wX hX => (HK.out wX hX i hgo).bs
      have hzn : (dzOf R i).length = min (R i).2.1 1500 := hk.bs.1
      have hcap := hk.cap
      have hmax := hk.max
      obtain ⟨KK, hKK⟩ : ∃ KK, 128 * (min (R i).2.1 1500 / 128) = KK := ⟨_, rfl⟩
      obtain ⟨q, hq⟩ : ∃ q, min (R i).2.1 1500 / 128 = q := ⟨_, rfl⟩
      have HTl : Hid (tl (dzOf R i) = (dzOf R i).drop KK) := by show _ = _; unfold tl; rw [hzn, hKK]
      have HTll : Hid ((tl (dzOf R i)).length = min (R i).2.1 1500 - KK) := by show _ = _; rw [HTl.out, List.length_drop, hzn]
      have hqi : ((min (R i).2.1 1500 : Nat) : Int) / 128 = (q : Int) := by omega
      have hKL : KK ≤ min (R i).2.1 1500 := by omega
      have hKi : (q : Int) * 128 = (KK : Int) := by omega
      generalize (R i).1 = A at *
      generalize min (R i).2.1 1500 = L at *
      generalize (R i).2.2.1 = Cp at *
      have HPl := hide (plsL_succ (dzOf R) i)
      generalize pls (dzOf R) i = at' at *
      clear hk hD HP HS hKK hq hzn
      obtain ⟨tn, htn⟩ : ∃ tn, L - KK = tn := ⟨_, rfl⟩
      rw [HTll.out, htn] at HAd
      have Htn := hide htn
      clear htn
      go_wp2_with fail
      refine HAd.out.mono ?_
      rintro e w5 ⟨ao5, c5, O5, rfl, hB5, _, hD5, hF5, hG5, _⟩
      have HD5 := hide (HD.out.step hD5 hF5 hG5)
      have hs5 := HD5.out.ds.bel.size
      have hc5 := HLk.out w5 HD5.out.ds.bel
      have HKc5 := HKx.out w5 HD5.out.ds.bel
      have hst1 : ∀ q, (convert 34 9 (.slice ao5 tn c5)).run Try.prog (w5.drewN q) = .ok (.string (strOfNums (tl (dzOf R i)))) (w5.drewN q) := fun q => str_any (show Bs (w5.drewN q) ao5 tn (tl (dzOf R i)) from hB5) c5
      have hst2 : ∀ q, (convert 34 9 (.slice (if Cp = KK then A else Option.map (fun x : Addr => x.add KK) A) (L - KK) (Cp - KK))).run Try.prog (w5.drewN q) = .ok (.string (strOfNums (tl (dzOf R i)))) (w5.drewN q) := fun q => by
        have := HKc5.toB.rest (cap := Cp) KK hKL hcap
        rw [← HTl.out] at this
        exact str_any (show Bs (w5.drewN q) _ (L - KK) (tl (dzOf R i)) from this) (Cp - KK)
      have hKK1 : (0 : Int) ≤ (KK : Int) := by omega
      have hKK2 : (KK : Int) ≤ (L : Int) := by omega
      have hKK3 : (KK : Int) ≤ (Cp : Int) := by omega
      have hLC : (L : Int) ≤ (Cp : Int) := by omega
      have hw1 : IntKind.i64.wrap (q : Int) = (q : Int) := by rw [IntKind.wrap_i64]; omega
      have hw2 : IntKind.i64.wrap ((q : Int) * 128) = (KK : Int) := by rw [IntKind.wrap_i64]; omega
      have hw3 : IntKind.i64.wrap (KK : Int) = (KK : Int) := by rw [IntKind.wrap_i64]; omega
      clear hD5 hF5 hG5 HAd HD HKc5 hB5 hcell
      have g2 : ((strOfNums (tl (dzOf R i))).toList == (strOfNums (tl (dzOf R i))).toList) = true := by simp
      by_cases e4 : Cp = KK
      · rw [if_pos e4] at hst2
        obtain rfl : KK = Cp := e4.symm
        obtain rfl : KK = L := by omega
        rw [Nat.sub_self] at hst2
        go_wp2_with fail
        go_quiet (fail)
        have HD5q := hide (HD5.out.below (below_drewN (Below.refl _ _) nq))
        have HO5 := hide (HD5q.out.row.alloc (.cells #[.int .i64 at'] 3))
        have hs5q : w3.heap.size ≤ (w5.drewN nq).heap.size := hs5
        clear hst1 hst2 hc5
        generalize w5.drewN nq = w5q at *
        go_wp2_with (first
          | (at_builtin
             refine wpList_append_num_at _ rfl (.tmp 69) (.tmp 71) rfl w3.heap.size so i sc _ rfl HO5.out w5q.heap.size at' rfl (by simp) (by omega) (by simp; omega) ?_
             intro b' c' w6 ho6 hg6 hl6
             have HD6 := hide (HD5q.out.put ho6 hg6 (fun k hk => by
               simp [Value.ownBlock] at hk
               rcases hl6 with h6 | h6
               · exact .inl (by rw [h6, hk])
               · exact .inr (by simp at h6; omega)))
             clear ho6 hg6 hl6))
        go_roundw
        case rel => exact ⟨i + 1, c', O5, _, rfl, by go_num, by omega, by rw [HPl.out]; exact HD6.out⟩
        case measure => simp [intOf]; omega
      · rw [if_neg e4] at hst2
        go_wp2_with fail
        go_quiet (fail)
        have HD5q := hide (HD5.out.below (below_drewN (Below.refl _ _) nq))
        have HO5 := hide (HD5q.out.row.alloc (.cells #[.int .i64 at'] 3))
        have hs5q : w3.heap.size ≤ (w5.drewN nq).heap.size := hs5
        clear hst1 hst2 hc5
        generalize w5.drewN nq = w5q at *
        go_wp2_with (first
          | (at_builtin
             refine wpList_append_num_at _ rfl (.tmp 69) (.tmp 71) rfl w3.heap.size so i sc _ rfl HO5.out w5q.heap.size at' rfl (by simp) (by omega) (by simp; omega) ?_
             intro b' c' w6 ho6 hg6 hl6
             have HD6 := hide (HD5q.out.put ho6 hg6 (fun k hk => by
               simp [Value.ownBlock] at hk
               rcases hl6 with h6 | h6
               · exact .inl (by rw [h6, hk])
               · exact .inr (by simp at h6; omega)))
             clear ho6 hg6 hl6))
        go_roundw
        case rel => exact ⟨i + 1, c', O5, _, rfl, by go_num, by omega, by rw [HPl.out]; exact HD6.out⟩
        case measure => simp [intOf]; omega
    · obtain rfl : m = i := by omega
      have hg1 : ¬ (m : Int) < (m : Int) := by omega
      have HDn : Hid (∀ wX, Below wr.heap.size wr wX → Calls Try.prog 16 #[.pointer (some ⟨p, 0, none⟩)] wX fun e w' => ∃ ao c, e = .returned (.slice ao (stt (dzOf R) m).1.length c) ∧ Bs w' ao (stt (dzOf R) m).1.length (stt (dzOf R) m).1 ∧ (ao = none → c = 0) ∧ (∀ b o, wX.heap[b]? = some o → w'.heap[b]? = some o) ∧ Below wr.heap.size wr w') := fun wX hX => by
        refine (dDone_any p tb 64 O (stt (dzOf R) m) wX (hD.ds.wr.below hX) (by omega)).mono ?_
        rintro e w' ⟨ao, c, rfl, hN⟩
        exact ⟨ao, c, rfl, hN.bs, hN.nil, fun b o hb => (hN.bel.block b (heap_lt hb)).trans hb, hX.trans (hN.bel.mono hX.size)⟩
      obtain ⟨T, hT⟩ : ∃ T, (stt (dzOf R) m).1.length = T := ⟨_, rfl⟩
      rw [hT] at HDn hlen
      have HT := hide hT
      clear hT hD hi hgo
      obtain ⟨M, hM, hmk⟩ := Dat.make64
      have HM := hide hM
      clear hM
      go_wp2_with fail
      apply joinB (F := fun _ _ _ ao4 k4 w4 => Rw w4 wr.heap.size ao4 (64 + T) k4 (img (dzOf R) m) ∧ Below wr.heap.size wr w4)
      · intro hall
        have HAll := hide hall
        clear hall
        go_region_law ((first
          | (go_simp; go_at_call 16; refine (HDn.out _ (by repeat (first | exact HB4.out | exact HBO.out | exact Below.refl _ _ | apply upC_drew | apply upC_drewN | apply upC_alloc))).mono ?_; rintro e wD ⟨aoD, cD, rfl, hND, hnD, hMq, hBO⟩; have HND := hide hND; have HnD := hide hnD; have HMq := hide hMq; have HBO := hide hBO; clear hND hnD hMq hBO; dsimp only)
          | (refine step_append_rw wD (by rfl) (.tmp 73) (.tmp 75) (by rfl) wr.heap.size (some ⟨wr.heap.size, 0, none⟩) 64 64 (List.replicate 64 0) (by rfl) (Rw.made (HMq.out _ _ (by first | exact heap_new rfl | exact heap_alloc_new _ _)) HM.out (Nat.le_refl _)) aoD T cD (stt (dzOf R) m).1 (by rfl) HND.out HnD.out (by omega) HBO.out.size ?_; intro ao4 k4 w4 hA hg hl; have HR4 := hide hA; have HB4 : Hid (Below wr.heap.size wr w4) := HBO.out.grown hg HBO.out.size (fun k e => by simp [Value.ownBlock] at e; omega); clear hA hg hl)
          | (refine step_append_rw (wD.alloc (.cells M 5)) (by rfl) (.tmp 73) (.tmp 75) (by rfl) wr.heap.size (some ⟨wD.heap.size, 0, none⟩) 64 64 (List.replicate 64 0) (by rfl) (Rw.made (heap_new rfl) HM.out HBO.out.size) aoD T cD (stt (dzOf R) m).1 (by rfl) (HND.out.alloc _) HnD.out (by omega) (Nat.le_trans HBO.out.size (by simp)) ?_; intro ao4 k4 w4 hA hg hl; have HR4 := hide hA; have HB4 : Hid (Below wr.heap.size wr w4) := (HBO.out.alloc HBO.out.size _).grown hg (Nat.le_trans HBO.out.size (by simp)) (fun k e => by simp [Value.ownBlock] at e; have := HBO.out.size; omega); clear hA hg hl)))
        · generalize wr.heap.size = mb
          exact HAll.out mb aoD cD ao4 k4 w4 ⟨HR4.out, HB4.out⟩
        · generalize wD.heap.size = mb
          exact HAll.out mb aoD cD ao4 k4 w4 ⟨HR4.out, HB4.out⟩
      rintro mb aoD cD ao6 k6 w6 ⟨hR6, hB6⟩
      have HR6 := hide hR6
      have HB6 := hide hB6
      have b36 : Below w3.heap.size w3 w6 := HD.out.ds.bel.trans (hB6.mono HD.out.ds.bel.size)
      have hNI : (img (dzOf R) m).length = 64 + T := hR6.1
      have hIl := img_len (dzOf R) HZL.out m
      obtain ⟨NI, hNIe⟩ : ∃ NI, 64 + T = NI := ⟨_, rfl⟩
      rw [hNIe] at HR6 hNI ⊢
      have hk6 : NI ≤ k6 := HR6.out.2.2.1
      have hk6m : k6 ≤ 9223372036854775807 := by have := HR6.out.2.2.2.1; unfold maxLen at this; omega
      have HNI := hide hNI
      have hNIb : NI ≤ 20000 := by omega
      have HX : Hid (∀ W, Below w6.heap.size w6 W → Below w3.heap.size w3 W ∧ Bs W ao6 NI (img (dzOf R) m) ∧ Tb W tb ent ∧ tb < W.heap.size) := fun W hW =>
        ⟨b36.trans (hW.mono b36.size), HR6.out.bs.below hW, HT3.out.below (b36.trans (hW.mono b36.size)) hlt3, Nat.lt_of_lt_of_le hlt3 (Nat.le_trans b36.size hW.size)⟩
      have HSt : Hid (∀ W, Below w6.heap.size w6 W → ∀ j, j < m → ∃ sb s0, so = some ⟨sb, s0, none⟩ ∧ W.cell? ⟨sb, s0 + j, none⟩ = some (.int .i64 (pls (dzOf R) j : Nat))) := fun W hW j hj => by
        obtain ⟨sb, s0, h1, h2, h3⟩ := ((Zs.of HD.out.row).below (hB6)).at (by omega)
        exact ⟨sb, s0, h1, by rw [hW.cell (p := ⟨sb, s0 + j, none⟩) h2, h3 j hj, plsL_at _ _ _ hj]⟩
      have HNil6 := hide HR6.out.nil
      have HBf := hide (HB3.out.trans (b36.mono HB3.out.size))
      clear hR6 hB6 HDn hmk HM hNI hIl hNIe b36 HR6 HB6 HD hg1 HT hlen hz0 hz1 hz2 hib
      go_wp2_with fail
      go_loopw [15] (fun s15 wr => ∃ (i : Nat), s15 = .int .i64 i ∧ i ≤ m ∧ Below w6.heap.size w6 wr) (fun s15 _ => m - (intOf s15).toNat)
      case atStart => exact ⟨0, rfl, Nat.zero_le _, Below.refl _ _⟩
      case round =>
        obtain ⟨i, rfl, hi, hb⟩ := hrel
        have Hb := hide hb
        by_cases hgo : i < m
        · have hg1 : (i : Int) < (m : Int) := by omega
          obtain ⟨gb, rfl, hx1⟩ := HLc.out wr (HX.out wr hb).1 i hgo
          obtain ⟨sb, s0, rfl, hx2⟩ := HSt.out wr hb i hgo
          clear hx1 hx2
          have HLk : Hid (∀ wX, Below w6.heap.size w6 wX → wX.cell? ⟨sb, s0 + i, none⟩ = some (.int .i64 (pls (dzOf R) i : Nat)) ∧ wX.cell? ⟨gb, i, none⟩ = some (dvOf R i)) := fun wX hX => by
            obtain ⟨gb', e1, e2⟩ := HLc.out wX (HX.out wX hX).1 i hgo
            obtain rfl : gb = gb' := by simpa using e1
            obtain ⟨sb', s0', e3, e4⟩ := HSt.out wX hX i hgo
            obtain ⟨rfl, rfl⟩ : sb = sb' ∧ s0 = s0' := by simpa using e3
            exact ⟨e4, e2⟩
          unfold dvOf at HLk
          have hk := HK.out wr (HX.out wr hb).1 i hgo
          have hzn : (dzOf R i).length = min (R i).2.1 1500 := hk.bs.1
          have hcap := hk.cap
          have hmax := hk.max
          have HRd := hide (fun off n => img_rd (dzOf R) HZL.out m i hgo off n)
          have HWk := hide (img_wk (dzOf R) HZL.out m i hgo)
          have hpl := pls_le (dzOf R) HZL.out i
          rw [hzn] at HRd HWk
          rw [HNI.out] at HWk
          obtain ⟨KK, hKK⟩ : ∃ KK, 128 * (min (R i).2.1 1500 / 128) = KK := ⟨_, rfl⟩
          obtain ⟨q, hq⟩ : ∃ q, min (R i).2.1 1500 / 128 = q := ⟨_, rfl⟩
          rw [hq] at HWk
          have HWh : Hid ((dzOf R i).take KK = wh (dzOf R i)) := by show _ = _; unfold wh; rw [hzn, hKK]
          have HWl : Hid ((wh (dzOf R i)).length = KK) := by show _ = _; rw [wh_length, hzn, hKK]
          have hqi : ((min (R i).2.1 1500 : Nat) : Int) / 128 = (q : Int) := by omega
          have hKL : KK ≤ min (R i).2.1 1500 := by omega
          have hKi : (q : Int) * 128 = (KK : Int) := by omega
          have hqK : q = 0 ↔ KK = 0 := by omega
          have HBl : Hid (∀ wX, Below w6.heap.size w6 wX → Bs wX (R i).1 KK (wh (dzOf R i))) := fun wX hX => by
            have := ((HK.out wX (HX.out wX hX).1 i hgo).bs).take KK hKL
            rw [HWh.out] at this
            exact this
          have hL15 : min (R i).2.1 1500 ≤ 1500 := by omega
          generalize (R i).1 = A at *
          generalize min (R i).2.1 1500 = L at *
          generalize (R i).2.2.1 = Cp at *
          generalize pls (dzOf R) i = at' at *
          obtain ⟨q1, q2⟩ := HLk.out wr hb
          have HqK := hide hqK
          have hKK1 : (0 : Int) ≤ (KK : Int) := by omega
          have hKK2 : (KK : Int) ≤ (L : Int) := by omega
          have hKK3 : (KK : Int) ≤ (Cp : Int) := by omega
          have hLC : (L : Int) ≤ (Cp : Int) := by omega
          have hw1 : IntKind.i64.wrap (q : Int) = (q : Int) := by rw [IntKind.wrap_i64]; omega
          have hw2 : IntKind.i64.wrap ((q : Int) * 128) = (KK : Int) := by rw [IntKind.wrap_i64]; omega
          have hw3 : IntKind.i64.wrap (KK : Int) = (KK : Int) := by rw [IntKind.wrap_i64]; omega
          clear hk hb hKK hq hzn hqK
          go_wp2_with fail
          go_quiet (fail)
          have HbA := hide (upC_drewN' Hb.out nq)
          generalize wr.drewN nq = wA at *
          clear q1 q2 Hb
          go_wp2_with fail
          have HRa := hide (fun (wX : World) (hX : Below w6.heap.size w6 wX) (off n : Nat) (ho : off ≤ 5000) (hn : n ≤ 5000) => dRead_any tb NI k6 at' L off n ent ao6 (img (dzOf R) m) wX (HX.out wX hX).2.2.1 (HX.out wX hX).2.2.2 small_ent (HX.out wX hX).2.1 hk6 HNil6.out (by omega) hk6m ⟨by omega, by omega⟩ ⟨by omega, by omega⟩ ⟨by omega, by omega⟩ ⟨by omega, by omega⟩)
          unfold DReads at HRa
          have HRa1 : Hid (∀ wX, Below w6.heap.size w6 wX → Calls Try.prog 17 #[.pointer (some ⟨tb, 0, none⟩), .slice ao6 NI k6, .int .i64 at', .int .i64 L, .int .i64 0, .int .i64 L] wX fun r w' => ∃ ao c, r = .returned (.tuple #[.slice ao KK c, .int .i64 0]) ∧ Fresh wX w' ao KK c (wh (dzOf R i))) := fun wX hX => by
            have h1 := HRa.out wX hX 0 L (by omega) (by omega)
            have h2 := HRd.out 0 L
            rw [h2] at h1
            simp only [List.drop_zero] at h1
            rw [List.take_of_length_le (by rw [HWl.out]; exact hKL), HWl.out] at h1
            exact h1
          go_region_held3 (fun wX => wX.cell? ⟨sb, s0 + i, none⟩ = some (.int .i64 at') ∧ wX.cell? ⟨gb, i, none⟩ = some (.slice A L Cp)) (exact HLk.out _ (by repeat (first | exact HBO.out | exact HbA.out | apply upC_drew' | apply upC_drewN')))
            ((first
              | (go_at_call 17; refine (HRa1.out _ (by repeat (first | exact HBO.out | exact HbA.out | apply upC_drew' | apply upC_drewN'))).mono ?_; rintro r wO ⟨aoR, cR, rfl, hR⟩; have HR := hide hR; have HBO : Hid (Below w6.heap.size w6 wO) := (by repeat (first | exact HBO.out | exact HbA.out | apply upC_drew' | apply upC_drewN') : Below w6.heap.size w6 _).trans (hR.bel.mono (by first | exact HbA.out.size | exact (upC_drew' HbA.out).size)); clear hR)))
          rename_i hHd
          clear hHd
          have hs1 : (convert 34 9 (.slice aoR KK cR)).run Try.prog wO = .ok (.string (strOfNums (wh (dzOf R i)))) wO := str_any HR.out.bs cR
          have hs2 : (convert 34 9 (.slice A KK Cp)).run Try.prog wO = .ok (.string (strOfNums (wh (dzOf R i)))) wO := str_any (HBl.out wO HBO.out) Cp
          have g2 : ((strOfNums (wh (dzOf R i))).toList == (strOfNums (wh (dzOf R i))).toList) = true := by simp
          go_upto_region 25 with fail
          clear hs1 hs2 g2 HR HRa1 HbA
          have hx1 : a1.tmod 1500 = (kk : Int) ∨ (0 < kk ∧ a1.tmod 1500 = -(kk : Int)) := HKc.out.1
          have hx2 : a2.tmod 1500 = (nn : Int) ∨ (0 < nn ∧ a2.tmod 1500 = -(nn : Int)) := HKc.out.2
          generalize a1.tmod 1500 = x1 at *
          generalize a2.tmod 1500 = x2 at *
          go_cut [19] from 127 to 130 (fun s19 wx => s19 = .int .i64 kk ∧ wx = wO)
          case first =>
            rcases hx1 with rfl | ⟨hk0, rfl⟩
            · have hw4 : IntKind.i64.wrap (-(kk : Int)) = -(kk : Int) := by rw [IntKind.wrap_i64]; omega
              have hm1 : ¬ (kk : Int) < -(kk : Int) := by omega
              go_wp2_with fail
              go_meet
              case rel => exact ⟨rfl, rfl⟩
            · have hw4 : IntKind.i64.wrap (kk : Int) = (kk : Int) := by rw [IntKind.wrap_i64]; omega
              have hm1 : -(kk : Int) < (kk : Int) := by omega
              go_wp2_with fail
              go_meet
              case rel => exact ⟨by simp, rfl⟩
          case rest =>
          obtain ⟨rfl, hwc⟩ := hcut
          obtain rfl := hwc.symm
          clear hx1 hwc
          go_upto_region 26 with fail
          go_cut [20] from 131 to 134 (fun s20 wx => s20 = .int .i64 nn ∧ wx = wO)
          case first =>
            rcases hx2 with rfl | ⟨hk0, rfl⟩
            · have hw4 : IntKind.i64.wrap (-(nn : Int)) = -(nn : Int) := by rw [IntKind.wrap_i64]; omega
              have hm1 : ¬ (nn : Int) < -(nn : Int) := by omega
              go_wp2_with fail
              go_meet
              case rel => exact ⟨rfl, rfl⟩
            · have hw4 : IntKind.i64.wrap (nn : Int) = (nn : Int) := by rw [IntKind.wrap_i64]; omega
              have hm1 : -(nn : Int) < (nn : Int) := by omega
              go_wp2_with fail
              go_meet
              case rel => exact ⟨by simp, rfl⟩
          case rest =>
          obtain ⟨rfl, hwc⟩ := hcut
          obtain rfl := hwc.symm
          clear hx2 hwc
          obtain ⟨Y, hY⟩ : ∃ Y, ((wh (dzOf R i)).drop kk).take nn = Y := ⟨_, rfl⟩
          obtain ⟨yl, hyl⟩ : ∃ yl, Y.length = yl := ⟨_, rfl⟩
          have HYl : Hid (yl = min nn (KK - kk)) := by show _ = _; rw [← hyl, ← hY, List.length_take, List.length_drop, HWl.out]
          have HY := hide hY
          have HRa2 : Hid (∀ wX, Below w6.heap.size w6 wX → Calls Try.prog 17 #[.pointer (some ⟨tb, 0, none⟩), .slice ao6 NI k6, .int .i64 at', .int .i64 L, .int .i64 kk, .int .i64 nn] wX fun r w' => ∃ ao c, r = .returned (.tuple #[.slice ao yl c, .int .i64 0]) ∧ Fresh wX w' ao yl c Y) := fun wX hX => by
            have h1 := HRa.out wX hX kk nn (by omega) (by omega)
            rw [HRd.out kk nn, hY] at h1
            simp only [hyl] at h1
            exact h1
          clear hY hyl HRa
          go_wp2_with fail
          go_region_held3 (fun wX => wX.cell? ⟨sb, s0 + i, none⟩ = some (.int .i64 at') ∧ wX.cell? ⟨gb, i, none⟩ = some (.slice A L Cp)) (exact HLk.out _ (by repeat (first | exact HBO.out | exact HbA.out | apply upC_drew' | apply upC_drewN')))
            ((first
              | (go_at_call 17; refine (HRa2.out _ (by repeat (first | exact HBO.out | exact HbA.out | apply upC_drew' | apply upC_drewN'))).mono ?_; rintro r wP ⟨aoP, cP, rfl, hP⟩; have HP := hide hP; have HbA : Hid (Below w6.heap.size w6 wP) := (by repeat (first | exact HBO.out | exact HbA.out | apply upC_drew' | apply upC_drewN') : Below w6.heap.size w6 _).trans (hP.bel.mono (by first | exact HBO.out.size | exact (upC_drew' HBO.out).size)); clear hP)))
          rename_i hHd
          have HPb : Hid (Bs wP aoP yl Y) := HP.out.bs
          clear hHd HP HBO HRa2
          go_upto_if 155 with fail
          have HBO := hide (HbA.out.alloc HbA.out.size (.cells #[] 5))
          have HPq := hide (HPb.out.alloc (.cells #[] 5))
          generalize wP.alloc (.cells #[] 5) = wQ at *
          clear HPb HbA
          go_cut [23] from 152 to 164 (fun s23 wx => ∃ ao c, s23 = .slice ao yl c ∧ Bs wQ ao yl Y ∧ wx = wQ)
          case first =>
            by_cases hA : kk < KK
            · have hA' : (kk : Int) < (KK : Int) := by omega
              have HC : Hid (Bs wQ (Option.map (fun x : Addr => x.add kk) A) yl Y) := by
                have h1 := (HBl.out wQ HBO.out).toB.rest (cap := Cp) kk (by omega) (by omega)
                rw [if_neg (by omega)] at h1
                have h2 := Bs.take h1 yl (by rw [HYl.out]; omega)
                have e : ((wh (dzOf R i)).drop kk).take yl = Y := by
                  rw [HYl.out, ← HY.out, List.take_eq_take_iff, List.length_drop, HWl.out]; omega
                rw [e] at h2
                exact h2
              have hw4 : IntKind.i64.wrap ((kk : Int) + (nn : Int)) = (kk : Int) + (nn : Int) := by rw [IntKind.wrap_i64]; omega
              have hne : ¬ Cp = kk := by omega
              by_cases hC : KK ≤ kk + nn
              · have hC' : (KK : Int) ≤ (kk : Int) + (nn : Int) := by omega
                obtain rfl : yl = KK - kk := by have := HYl.out; omega
                go_wp2_with fail
                go_meet
                case rel => exact ⟨_, _, rfl, HC.out, rfl⟩
              · have hC' : (kk : Int) + (nn : Int) < (KK : Int) := by omega
                have hC2 : (kk : Int) + (nn : Int) ≤ (Cp : Int) := by omega
                obtain rfl : yl = nn := by have := HYl.out; omega
                go_wp2_with fail
                go_meet
                case rel => exact ⟨_, _, by rw [Nat.add_sub_cancel_left], HC.out, rfl⟩
            · have hA' : ¬ (kk : Int) < (KK : Int) := by omega
              obtain rfl : yl = 0 := by have := HYl.out; omega
              have HC : Hid (Y = []) := by have := HPq.out.1; exact List.length_eq_zero_iff.1 this
              go_wp2_with fail
              go_meet
              case rel => exact ⟨_, _, rfl, by rw [HC.out]; exact BsB.nil _ _ _, rfl⟩
          case rest =>
          obtain ⟨aoW, cW, rfl, hWb, hwc⟩ := hcut
          obtain rfl := hwc.symm
          have HWb := hide hWb
          clear hwc hWb
          obtain ⟨e, he1, he2, he3⟩ := HWk.out
          have HE := hide he3
          have HWa : Hid (∀ wX, Below w6.heap.size w6 wX → Calls Try.prog 19 #[.slice ao6 NI k6, .int .i64 at', .int .i64 L, .int .i64 NI] wX fun r w' => r = .returned (.tuple #[.int .i64 e, .int .i64 0]) ∧ Below wX.heap.size wX w') := fun wX hX => by
            have h1 := dWalk_any NI k6 at' L NI ao6 (img (dzOf R) m) wX (HX.out wX hX).2.1 hk6 HNil6.out (by omega) hk6m ⟨by omega, by omega⟩ ⟨by omega, by omega⟩ ⟨by omega, by omega⟩
            unfold DWalks at h1
            rw [he1] at h1
            exact h1
          clear he1 he3
          go_wp2_with fail
          go_region_held3 (fun wX => wX.cell? ⟨sb, s0 + i, none⟩ = some (.int .i64 at') ∧ wX.cell? ⟨gb, i, none⟩ = some (.slice A L Cp)) (exact HLk.out _ (by repeat (first | exact HBO.out | exact HbA.out | apply upC_drew' | apply upC_drewN')))
            ((first
              | (go_at_call 19; refine (HWa.out _ (by repeat (first | exact HBO.out | exact HbA.out | apply upC_drew' | apply upC_drewN'))).mono ?_; rintro r wZ ⟨rfl, hZ⟩; have HZ : Hid (Below wQ.heap.size wQ wZ) := (by first | exact hZ | exact (below_drewN (Below.refl _ wQ) 1).trans hZ); have HbA : Hid (Below w6.heap.size w6 wZ) := HBO.out.trans (HZ.out.mono HBO.out.size); clear hZ)))
          rename_i hHd
          obtain ⟨hc1, hc2⟩ := hHd
          have hs1 : (convert 34 9 (.slice aoP yl cP)).run Try.prog wZ = .ok (.string (strOfNums Y)) wZ := str_any (HPq.out.below HZ.out) cP
          have hs2 : (convert 34 9 (.slice aoW yl cW)).run Try.prog wZ = .ok (.string (strOfNums Y)) wZ := str_any (HWb.out.below HZ.out) cW
          have g2 : ((strOfNums Y).toList == (strOfNums Y).toList) = true := by simp
          have g3 : ¬ (NI : Int) < (e : Int) := by omega
          clear hc2 HZ HBO HWa HPq HWb
          by_cases hK0 : KK = 0
          · obtain rfl : e = at' := HE.out (HqK.out.2 hK0)
            obtain rfl := hK0
            go_wp2_with fail
            go_roundw
            case rel => exact ⟨i + 1, by go_num, by omega, HbA.out⟩
            case measure => simp [intOf]; omega
          · have hK1 : ((KK : Int) == 0) = false := by simp; omega
            go_wp2_with fail
            go_roundw
            case rel => exact ⟨i + 1, by go_num, by omega, HbA.out⟩
            case measure => simp [intOf]; omega
        · obtain rfl : m = i := by omega
          have hg1 : ¬ (m : Int) < (m : Int) := by omega
          have HBz := hide (HBf.out.trans (hb.mono HBf.out.size))
          clear hgo hb
          go_wp2
          go_ret
          exact ⟨rfl, HBz.out⟩
end Go.Proofs.Ytifmikdknifcoaa

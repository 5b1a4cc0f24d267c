import Derived.Test.YtbmeapehgajbkaaGreatGBrnFill
import Derived.Test.YtbmeapehgajbkaaGreatGJUprFiles
import Derived.Deep.RegionHeld3
set_option linter.unusedVariables false
namespace Go.Proofs.YtbmeapehgajbkaaGreat
open Go.RowKit Go.Maps
open Nam Tre Mrg Brn Upr
theorem fewL18_names' (L : List (Nv × Nod)) : ∀ p ∈ fewL18 L, p.2.names.length ≤ 1000 := by
 intro p hp
 simp only [fewL18, List.mem_map] at hp
 obtain ⟨q, hq, rfl⟩ := hp
 simp [Tre.cut18]; omega
theorem gbox2 {W : World} {b : Nat} {x0 x1 : Value} {t : TypeId} (h : W.heap[b]? = some (.cells #[x0, x1] t (0, 0))) : W.cell? ⟨b, 0, none⟩ = some x0 ∧ W.cell? ⟨b, 1, none⟩ = some x1 := by
 simp [World.cell?, h]
set_option maxRecDepth 100000 in
set_option maxHeartbeats 4000000 in
theorem goes_walk (a : Option Addr) (n c : Nat) (L : List (Nv × Nod)) (s : ByteArray) (w : World) (hl : Ns w a n L) (hc : n ≤ c) (hcm : c ≤ 9223372036854775807) (hs : s.size ≤ maxLen) :
  Calls Tryz.prog 3 #[.slice a n c, .string s] w fun e w' => e = .returned (.bool true) ∧ Below w.heap.size w w' := by
 have HL := hide hl
 clear hl
 go_enter Tryz.func3, Tryz.ntmps3
 go_wp2_with (go_at_call 4; refine (bshown_any _).mono ?_)
 rintro e w1 ⟨rfl, hb1⟩
 have E1 := hide hb1
 clear hb1
 go_wp2_with (go_at_call 5; refine (few18_any a n c L _ (HL.out.below E1.out) hc hcm).mono ?_)
 rintro e w2 ⟨ao, k, c', rfl, hk, hown, hns, hb2⟩
 obtain ⟨h1, h2, h3⟩ := cap_owns hown
 have E2 := hide (E1.out.trans (hb2.mono E1.out.size))
 have HN := hide hns
 have HFI := hide (fill_any ao k c' (fewL18 L) w2 HN.out h1 h2 h3 (by omega) (fewL18_names' L))
 clear hown hns hb2 h3
 generalize checkB (nds (fewL18 L)) = z at *
 go_wp2_with (go_at_call 6; refine HFI.out.mono ?_)
 rintro e w3 (⟨hz, rfl, hb3⟩ | ⟨hz, p, cc, l, rfl, hup, hot, hln, hb3, hno⟩)
 ·have hzb : (z != 0) = true := by simpa using hz
  have E3 := hide (E2.out.trans (hb3.mono E2.out.size))
  clear hz hb3 HFI
  go_wp2
  go_ret
  exact ⟨rfl, E3.out⟩
 ·have hzb : ((0 : Int) != 0) = false := by simp
  have lo := lo_fills l k (by omega)
  have hsm : Sm (fills l k).u := lo.sm (by omega)
  obtain ⟨U, hU⟩ : ∃ U, U = (fills l k).u := ⟨_, rfl⟩
  rw [← hU] at hup hsm
  have hU1 : U.L.length ≤ 41 ∧ U.E.length ≤ 41 ∧ U.nx ≤ 43 := by
   rw [hU]; exact ⟨by have := lo.l; omega, by have := lo.e; omega, by have := lo.nx; omega⟩
  have HU1 := hide hU1
  have HLS : Hid (LS w w3 p cc (0, 0) U []) := ⟨hup, E2.out.trans (hb3.mono E2.out.size), fun j hj => hno j (by have := E2.out.size; omega), fun x hx => by simp at hx⟩
  have HWF := hide hup.wf
  have HSM := hide hsm
  clear hz hup hot hln hb3 hno lo hsm hU hU1 HFI HN
  obtain ⟨qa, hqa⟩ : ∃ x, x = ((U.L.length : Nat) : Int) := ⟨_, rfl⟩
  obtain ⟨qb, hqb⟩ : ∃ x, x = wrap64 ((csN U (fun _ => false) U.L : Nat) : Int) := ⟨_, rfl⟩
  have HQW : Hid ((Lit.int .i64 qa).wf = true ∧ (Lit.int .i64 qb).wf = true) := ⟨by rw [hqa]; exact wf_small (by omega) (by have := HU1.out.1; omega), by rw [hqb]; exact wrap64_wf _⟩
  have HUs : Hid (∀ (x : Int) c B W, LS w W p c (0, 0) ⟨U.L, U.E, x⟩ B → Calls Tryz.prog 7 #[.pointer (some ⟨p, 0, none⟩)] W fun e w' => e = .returned (.agg #[.int .i64 qa, .int .i64 qb]) ∧ Below W.heap.size W w') := fun x c B W hW => by
   have h := hW.up.used
   have e1 : csN ⟨U.L, U.E, x⟩ (fun _ => false) U.L = csN U (fun _ => false) U.L := csN_nx U.L U.E x U.nx U.L
   rw [hqa, hqb, ← e1]
   exact h
  have hle : ∃ le, le = (lookV U 1 s).2 := ⟨_, rfl⟩
  obtain ⟨le, hle⟩ := hle
  obtain ⟨la, hla⟩ : ∃ x, x = (lookV U 1 s).1.1 := ⟨_, rfl⟩
  obtain ⟨lb, hlb⟩ : ∃ x, x = (lookV U 1 s).1.2.1 := ⟨_, rfl⟩
  obtain ⟨lc, hlc⟩ : ∃ x, x = (lookV U 1 s).1.2.2 := ⟨_, rfl⟩
  have HLk : Hid (∀ B W, LS w W p cc (0, 0) U B → Calls Tryz.prog 8 #[.pointer (some ⟨p, 0, none⟩), .int .i64 1, .string s] W fun e w' => e = .returned (.tuple #[.agg #[.string la, .int .i64 lb, .int .i64 lc], .int .i64 le]) ∧ Below W.heap.size W w') := fun B W hW => by
   rw [hle, hla, hlb, hlc]
   exact hW.up.lookC 1 s Upr.w1 hs HSM.out
  have HMk : Hid (∀ (b : Nat) fz B W, LS w W p cc (0, 0) U B → W.heap[b]? = some (.cells #[.int .u8 110, .int .u8 101, .int .u8 119] 5 fz) → cc b = .no → Calls Tryz.prog 9 #[.pointer (some ⟨p, 0, none⟩), .int .i64 1, .string s, .agg (vF (some ⟨b, 0, none⟩) 3 3).cells] W fun e w' => e = .returned (.tuple #[.int .i64 (mk U 1 s fN).1.1, .int .i64 (mk U 1 s fN).1.2]) ∧ ∃ c2, LS w w' p c2 (0, 0) (mk U 1 s fN).2 B) := fun b fz B W hW hk hcb => by
   refine (uMake_any 1 s (vF (some ⟨b, 0, none⟩) 3 3) fN W hW.up HSM.out Upr.w1 hs (fun X hX => ?_)).mono ?_
   ·have hx : X.heap[b]? = some (.cells #[.int .u8 110, .int .u8 101, .int .u8 119] 5 fz) := (hX.block _ (heap_lt hk) (fun z => z hcb)).trans hk
    refine rep_file ⟨rfl, fun i => ?_, .inr ⟨b, 0, rfl, heap_lt hx, fun i hi => ?_⟩⟩ (Nat.le_refl _) (by omega) (fun e => by cases e)
    ·rcases i with _ | _ | _ | i <;> simp [Lz.g]
    ·simp only [List.length_cons, List.length_nil] at hi
     have : i = 0 ∨ i = 1 ∨ i = 2 := by omega
     rcases this with rfl | rfl | rfl <;> simp [World.cell?, hx, Lz.g]
   ·rintro e w' ⟨h1, c', h2, h3, h4⟩
    exact ⟨h1, c', hW.step h2 h3 h4⟩
  have HCS : Hid ((le = 0 ∧ (mk U 1 s fN).1.2 = 21 ∧ (mk U 1 s fN).2 = U) ∨ (le = 20 ∧ (mk U 1 s fN).1.2 ≠ 0 ∧ (mk U 1 s fN).1.1 = 0 ∧ (mk U 1 s fN).2 = U) ∨ (le = 20 ∧ ∃ u2, MadeF U s u2)) := by
   cases he : en U 1 s with
   | some e0 =>
    obtain ⟨f1, f2⟩ := found_mk HWF.out (n := fN) he
    exact .inl ⟨by rw [hle]; exact look_some HWF.out he, f1, f2⟩
   | none =>
    rcases mk_cases U s fN with ⟨m1, m2, m3⟩ | ⟨m1, _, _⟩
    ·exact .inr (.inl ⟨by rw [hle]; exact look_none HWF.out he, m1, m2, m3⟩)
    ·exact .inr (.inr ⟨by rw [hle]; exact look_none HWF.out he, made_ok HWF.out m1⟩)
  clear hqa hqb hle hla hlb hlc
  have kc := fun (w : World) (C : Array Value) (n c : Nat) => Lib.run_convert_bytes_const (P := Tryz.prog) w 38 5 C n c Tryz.underlying38 Tryz.underlying5
  go_upto_region 8 with (first
   | (go_at_call 7; refine (HUs.out U.nx _ _ _ HLS.out).mono ?_; rintro e w4 ⟨rfl, hb4⟩; have HL4 := hide ((HLS.out.below hb4).alloc #[.int .i64 qa, .int .i64 qb] 30); clear hb4)
   | (go_at_call 8; refine (HLk.out _ _ HL4.out).mono ?_; rintro e w5 ⟨rfl, hb5⟩; have HL5 := hide ((HL4.out.below hb5).alloc #[.string la, .int .i64 lb, .int .i64 lc] 33); clear hb5))
  obtain ⟨w6, hw6⟩ : ∃ x, x = w5.alloc (Obj.cells #[Value.string la, Value.int .i64 lb, Value.int .i64 lc] 33) := ⟨_, rfl⟩
  rw [← hw6] at HL5 ⊢
  obtain ⟨mr, hmr⟩ : ∃ x, x = (mk U 1 s fN).1.1 := ⟨_, rfl⟩
  obtain ⟨me, hme⟩ : ∃ x, x = (mk U 1 s fN).1.2 := ⟨_, rfl⟩
  obtain ⟨u2, hu2⟩ : ∃ x, x = (mk U 1 s fN).2 := ⟨_, rfl⟩
  have HU2 : Hid (∀ v2, MadeF U s v2 → mr = U.nx ∧ me = 0 ∧ u2 = v2) := fun v2 hv => by rw [hmr, hme, hu2, hv.mk']; exact ⟨rfl, rfl, rfl⟩
  rw [← hmr, ← hme, ← hu2] at HMk
  rw [← hmr, ← hme, ← hu2] at HCS
  clear hmr hme hu2 hw6 HLk HL4
  go_wp2_with fail
  obtain ⟨w7, hw7⟩ : ∃ x, x = w6.alloc (Obj.cells #[Value.int .u8 110, Value.int .u8 101, Value.int .u8 119] 5 (3, 4)) := ⟨_, rfl⟩
  have hL7 := HL5.out.below (below_one w6 (Obj.cells #[Value.int .u8 110, Value.int .u8 101, Value.int .u8 119] 5 (3, 4)))
  have hk7 : w7.heap[w6.heap.size]? = some (.cells #[.int .u8 110, .int .u8 101, .int .u8 119] 5 (3, 4)) := by rw [hw7]; exact heap_new rfl
  have hc7 := HL5.out.free (Nat.le_refl w6.heap.size)
  rw [← hw7] at hL7 ⊢
  refine (HMk.out w6.heap.size (3, 4) _ w7 hL7 hk7 hc7).mono ?_
  rintro e w8 ⟨rfl, c8, hL8⟩
  have HL8 := hide (hL8.drop (B' := [(w4.heap.size, #[Value.int .i64 qa, Value.int .i64 qb], 30)]) (fun x hx => by simp at hx; simp [hx]))
  have qeq := fun W => quota_eq (a := qa) (b := qb) W HQW.out.1 HQW.out.2
  have hU0 : Hid (∀ c B W, LS w W p c (0, 0) U B → LS w W p c (0, 0) ⟨U.L, U.E, U.nx⟩ B) := fun c B W h => h
  clear hL7 hk7 hc7 hw7 hL8 HMk HL5 HLS
  rcases HCS.out with ⟨rfl, rfl, rfl⟩ | ⟨rfl, hme, rfl, rfl⟩ | ⟨rfl, v2, hmk⟩
  ·obtain ⟨x0, x1⟩ := gbox2 (HL8.out.at (b := w4.heap.size) (t := 30) (cs := #[.int .i64 qa, .int .i64 qb]) (by simp))
   go_wp2_with fail
   go_region_held3 (fun wX => wX.cell? ⟨w4.heap.size, 0, none⟩ = some (.int .i64 qa) ∧ wX.cell? ⟨w4.heap.size, 1, none⟩ = some (.int .i64 qb)) (go_keep)
    ((go_at_call 7; have HLd := hide (HL8.out.below (below_drewN (Below.refl _ _) 1)); refine (HUs.out _ _ _ _ (hU0.out _ _ _ HLd.out)).mono ?_; rintro e w9 ⟨rfl, hb9⟩; have HL9 := hide (HLd.out.below hb9); obtain ⟨y0, y1⟩ := gbox2 (HL9.out.at (b := w4.heap.size) (t := 30) (cs := #[.int .i64 qa, .int .i64 qb]) (by simp)); clear hb9))
   all_goals
    go_wp2
    go_ret
    exact ⟨rfl, HL9.out.bel⟩
  ·obtain ⟨x0, x1⟩ := gbox2 (HL8.out.at (b := w4.heap.size) (t := 30) (cs := #[.int .i64 qa, .int .i64 qb]) (by simp))
   have hmb : (me != 0) = true := by simpa using hme
   clear hme
   go_wp2_with fail
   go_region_held3 (fun wX => wX.cell? ⟨w4.heap.size, 0, none⟩ = some (.int .i64 qa) ∧ wX.cell? ⟨w4.heap.size, 1, none⟩ = some (.int .i64 qb)) (go_keep)
    ((go_at_call 7; have HLd := hide (HL8.out.below (below_drewN (Below.refl _ _) 1)); refine (HUs.out _ _ _ _ (hU0.out _ _ _ HLd.out)).mono ?_; rintro e w9 ⟨rfl, hb9⟩; have HL9 := hide (HLd.out.below hb9); obtain ⟨y0, y1⟩ := gbox2 (HL9.out.at (b := w4.heap.size) (t := 30) (cs := #[.int .i64 qa, .int .i64 qb]) (by simp)); clear hb9))
   all_goals
    go_wp2
    go_ret
    exact ⟨rfl, HL9.out.bel⟩
  ·obtain ⟨e1, rfl, rfl⟩ := HU2.out v2 hmk
   have HRM : Hid (rm u2 1 s = (0, ⟨U.L, U.E, U.nx + 1⟩)) := hmk.rm
   have HSM2 : Hid (Sm u2) := by
    obtain ⟨s1, s2, s3⟩ := hmk.sm
    obtain ⟨t1, t2, t3⟩ := HU1.out
    exact ⟨by omega, by omega, by omega⟩
   have hmw : (Lit.int .i64 mr).wf = true := by
    rw [e1]; exact wf_small (by have := nx_pos HWF.out; omega) (by have := HU1.out.2.2; omega)
   have HRD := hide (HL8.out.up.read mr 0 9 hmw ⟨by omega, by omega⟩ ⟨by omega, by omega⟩)
   rw [e1, hmk.rd.1, hmk.rd.2, ← e1] at HRD
   have HXA : Hid (∀ B W, LS w W p c8 (0, 0) u2 B → Calls Tryz.prog 11 #[.pointer (some ⟨p, 0, none⟩), .int .i64 mr] W fun e w' => ∃ ao' c', e = .returned (.tuple #[.slice ao' 0 c', .int .i64 0]) ∧ NewX W w' ao' 0 c' []) := fun B W hW => by
    have h := hW.up.xattrs mr hmw
    rw [e1, hmk.xa.1, hmk.xa.2, ← e1] at h
    exact h
   clear hmk e1 HU2 HCS
   go_wp2_with fail
   refine HRD.out.mono ?_
   rintro e w9 ⟨ar, cr, rfl, hN⟩
   have HL9 := hide (HL8.out.below hN.bel)
   have HBS := hide hN.bs
   have HCN : Hid (∀ a, ar = some a → c8 a.block = .no) := fun a e => HL8.out.free (hN.own a e).1
   clear hN HRD HL8
   go_wp2_with fail
   refine (HXA.out _ _ HL9.out).mono ?_
   rintro e w10 ⟨ax, cx, rfl, hX⟩
   have HL10 := hide (HL9.out.below hX.bel)
   have HB10 := hide (HBS.out.below hX.bel)
   have HSA := hide (same17_any ax none 0 0 cx 0 [] w10 hX.xs.xsr (XsR.nil _ _) (by omega) (by omega))
   clear hX HXA HL9 HBS
   go_wp2_with fail
   refine HSA.out.mono ?_
   rintro e w11 ⟨rfl, j, hw11⟩
   have hb11 : Below w10.heap.size w10 w11 := by rw [hw11]; exact drewN_below _ _
   have HL11 := hide (HL10.out.below hb11)
   have HB11 := hide (HB10.out.below hb11)
   clear hw11 hb11 HSA HL10 HB10
   have hst : strOfNums [110, 101, 119] = ⟨#[110, 101, 119]⟩ := by rfl
   have hcv : (convert 38 9 (.slice ar 3 cr)).run Tryz.prog w11.drew = .ok (.string ⟨#[110, 101, 119]⟩) w11.drew := by
    rw [← hst]; exact str_any (HB11.out.below (below_drewN (Below.refl _ w11) 1)) cr
   have HBd := hide (HB11.out.below (below_drewN (Below.refl _ w11) 1))
   have HCV : Hid (∀ W, Bs W ar 3 [110, 101, 119] → (convert 38 9 (.slice ar 3 cr)).run Tryz.prog W = .ok (.string ⟨#[110, 101, 119]⟩) W) := fun W hW => by rw [← hst]; exact str_any hW cr
   have HLd := hide (HL11.out.below (below_drewN (Below.refl _ w11) 1))
   have HRv := hide (uRemove_any 1 s _ HLd.out.up HSM2.out Upr.w1 hs)
   rw [HRM.out] at HRv
   obtain ⟨x0, x1⟩ := gbox2 (HL11.out.at (b := w4.heap.size) (t := 30) (cs := #[.int .i64 qa, .int .i64 qb]) (by simp))
   clear hst HB11 HL11 HRM
   go_wp2_with fail
   go_region_held3 (fun wX => wX.cell? ⟨w4.heap.size, 0, none⟩ = some (.int .i64 qa) ∧ wX.cell? ⟨w4.heap.size, 1, none⟩ = some (.int .i64 qb) ∧ (convert 38 9 (.slice ar 3 cr)).run Tryz.prog wX = .ok (.string ⟨#[110, 101, 119]⟩) wX) (go_keep)
    ((first
     | (go_at_call 13; refine HRv.out.mono ?_; rintro e w12 ⟨rfl, r1, r2⟩; have HL12 := hide (HLd.out.step r1 r2 (Ext.refl _ _)); have HB12 := hide (HBd.out.fr r2 (fun a e _ z => z (HCN.out a e))); have hcv12 := HCV.out _ HB12.out; obtain ⟨y0, y1⟩ := gbox2 (HL12.out.at (b := w4.heap.size) (t := 30) (cs := #[.int .i64 qa, .int .i64 qb]) (by simp)); clear r1 r2)
     | (go_at_call 7; refine (HUs.out _ _ _ _ HL12.out).mono ?_; rintro e w13 ⟨rfl, hb13⟩; have HL13 := hide (HL12.out.below hb13); have hcv13 := HCV.out _ (HB12.out.below hb13); obtain ⟨z0, z1⟩ := gbox2 (HL13.out.at (b := w4.heap.size) (t := 30) (cs := #[.int .i64 qa, .int .i64 qb]) (by simp)); clear hb13)))
   all_goals
    go_wp2
    go_ret
    exact ⟨rfl, HL13.out.bel⟩
end Go.Proofs.YtbmeapehgajbkaaGreat

/- The walks of the reference's cut, Take and Skip. -/
import Derived.Test.YtgmkldfjbjnkcaaFrmJoin
import Derived.Test.YtgmkldfjbjnkcaaCurRef
import Derived.Deep.RegionHeld
namespace Go.Proofs.Ytgmkldfjbjnkcaa
set_option linter.unusedVariables false
open Go.RowKit Go.Maps
open Lz (g pack unpack)
open Crc (ent more)
open Cur
open Frm

/-- What the reference's cut answers: the payload, its sum, whether it is stored, the place behind. -/
def Cuts (z : List Int) (at' : Int) (w w' : World) (r : Ending) : Prop :=
  (spot z at' = none ∧ r = .returned (.tuple #[.slice none 0 0, .int .i64 0, .bool false, .int .i64 0, .int .i64 2]) ∧ Below w.heap.size w w') ∨
  (∃ n, spot z at' = some (n, 0) ∧ r = .returned (.tuple #[.slice none 0 0, .int .i64 0, .bool false, .int .i64 (at' + 3), .int .i64 0]) ∧ Below w.heap.size w w') ∨
  (∃ n sz ao c, spot z at' = some (n, sz) ∧ sz ≠ 0 ∧ r = .returned (.tuple #[.slice ao (sz - 4) c, .int .i64 (le ((body z at'.toNat sz).take 4)), .bool (decide (32768 ≤ n)), .int .i64 (at' + 3 + sz), .int .i64 0]) ∧ Bs w' ao (sz - 4) ((body z at'.toNat sz).drop 4) ∧ sz - 4 ≤ c ∧ (ao = none → c = 0) ∧ Below w.heap.size w w' ∧ ∀ a, ao = some a → w.heap.size ≤ a.block)
/-- A reader that is new: its bytes as they were handed in. -/
theorem RdR.new {w : World} {ao : Option Addr} {n c : Nat} {zs : List Int} (h : Bs w ao n zs) (hc : n ≤ c) (hm : c ≤ 9223372036854775807) (hn : n ≤ 1000000) (hnil : ao = none → c = 0) : RdR (w.alloc (.cells #[.slice ao n c, .int .i64 0] 92)) w.heap.size w.heap.size (zs, 0) :=
  ⟨ao, n, c, zs, Hd.new _ _ _ _ _ _, h.toB.below ((Below.refl _ _).alloc (Nat.le_refl _) _), hc, hm, hn, hnil, by simp, fun _ => rfl, .inl rfl⟩

theorem RdR.below {w w' : World} {p L : Nat} {s : St} (h : RdR w p L s) (hb : Below w.heap.size w w') : RdR w' p L s := by
  obtain ⟨ao, n, c, zs, h1, h2, h3, h4, h5, h6, h7, h8⟩ := h
  have hf : Fr (fun _ => False) w w' := Fr.of_below hb
  exact ⟨ao, n, c, zs, h1.fr hf id, h2.fr h7 hf (fun _ _ _ _ => id), h3, h4, h5, h6, Nat.le_trans h7 hf.size, h8⟩
theorem results_tmp5 {fn : Func} {t u v x y : Tmp} (h : fn.results = #[.tmp t, .tmp u, .tmp v, .tmp x, .tmp y]) (tmps : Array Value) (P : Program) (w : World) :
    (results fn tmps).run P w = .ok (.tuple #[tmps.getD t undef, tmps.getD u undef, tmps.getD v undef, tmps.getD x undef, tmps.getD y undef]) w := by
  simp [results, h]
theorem str_ne {a b : ByteArray} (h : a ≠ b) : (a.toList == b.toList) = false := by
  rw [beq_eq_false_iff_ne, ByteArray.toList_eq, ByteArray.toList_eq]
  intro e
  exact h (ByteArray.ext (Array.toList_inj.1 e))
theorem byt_short {l : List Int} {n : Nat} (h : l.length < n) : bytA n (l, 0) = [] ∧ bytS n (l, 0) = ([], 2) := by
  unfold bytA bytS
  rw [if_neg (by omega), if_neg (by omega), Int.toNat_natCast]
  unfold pa ps
  rw [if_pos h, if_pos h]
  exact ⟨rfl, rfl⟩
theorem byt_long {l : List Int} {n : Nat} (h : n ≤ l.length) : bytA n (l, 0) = l.take n ∧ bytS n (l, 0) = (l.drop n, 0) := by
  unfold bytA bytS
  rw [if_neg (by omega), if_neg (by omega), Int.toNat_natCast]
  unfold pa ps
  rw [if_neg (by show ¬ l.length < n; omega), if_neg (by show ¬ l.length < n; omega)]
  exact ⟨rfl, rfl⟩

theorem num_short {l : List Int} (h : l.length < 4) : numS 4 (l, 0) = ([], 2) := by
  unfold numS ps fl; rw [if_pos (by omega), if_pos (by exact h)]; rfl
theorem two_short {l : List Int} {m : Nat} (h : l.length < 4 + m) (hm : 1 ≤ m) : (bytS m (numS 4 (l, 0))).2 = 2 := by
  by_cases h4 : l.length < 4
  · rw [num_short h4, dead_bytS _ _ (by decide)]
  · rw [(num4 l (by omega)).2, (byt_short (l := l.drop 4) (n := m) (by simp; omega)).2]
theorem bsz_bad {N : Int} {M : Nat} (h0 : N ≠ 0) (hM : N % 32768 = (M : Int)) (h : M < 1 ∨ 128 < M) : bsz N = (0, false) := by
  unfold bsz; rw [if_neg h0, if_pos (by omega)]
theorem bsz_good {N : Int} {M : Nat} (h0 : N ≠ 0) (hM : N % 32768 = (M : Int)) (h : ¬ (M < 1 ∨ 128 < M)) : bsz N = (((4 + M : Nat) : Int), true) := by
  unfold bsz; rw [if_neg h0, if_neg (by omega), hM]; rfl

set_option maxRecDepth 100000 in
set_option maxHeartbeats 2000000 in
theorem cut_any (len cap : Nat) (at' : Int) (ao : Option Addr) (zs : List Int) (w : World) (hB : Bs w ao len zs) (hc : len ≤ cap) (hnil : ao = none → cap = 0) (hl : len ≤ 100000) (hcm : cap ≤ 9223372036854775807)
    (ha : -9223372036854775808 ≤ at' ∧ at' ≤ 9223372036854775807) :
    Calls Try.prog 28 #[.slice ao len cap, .int .i64 at'] w fun r w' => Cuts zs at' w w' r := by
  have hz := hB.1
  by_cases h1 : at' < 0 ∨ (len : Int) < at'
  · have HX : Hid (Cuts zs at' w w (.returned (.tuple #[.slice none 0 0, .int .i64 0, .bool false, .int .i64 0, .int .i64 2]))) := .inl ⟨by unfold spot; rw [if_pos (by rw [hz]; omega)], rfl, Below.refl _ _⟩
    clear hB hnil
    by_cases h2 : at' < 0
    · go_enter Try.func28, Try.ntmps28
      go_wp2
      refine bodyPost_ret (results_tmp5 rfl _ _ _) rfl ?_
      exact HX.out
    · go_enter Try.func28, Try.ntmps28
      go_wp2
      refine bodyPost_ret (results_tmp5 rfl _ _ _) rfl ?_
      exact HX.out
  obtain ⟨k, rfl⟩ : ∃ k : Nat, at' = (k : Int) := ⟨at'.toNat, by omega⟩
  have hk : k ≤ len := by omega
  have hkI : (k : Int) ≤ (len : Int) := by omega
  have t1 : decide ((k : Int) < 0) = false := by simp
  have t2 : decide ((len : Int) < (k : Int)) = false := by simp; omega
  by_cases h3 : len < k + 3
  · have HX : Hid (∀ w2, Below w.heap.size w w2 → Cuts zs k w w2 (.returned (.tuple #[.slice none 0 0, .int .i64 0, .bool false, .int .i64 0, .int .i64 2]))) := fun w2 h => .inl ⟨by unfold spot; rw [if_pos (by rw [hz]; omega)], rfl, h⟩
    have hdl : (zs.drop k).length = len - k := by simp [hz]
    have HS : Hid (bytA 3 (zs.drop k, 0) = [] ∧ bytS 3 (zs.drop k, 0) = ([], 2)) := byt_short (l := zs.drop k) (n := 3) (by omega)
    have HR := hide (RdR.new (w := w) (c := cap - k) (hB.toB.rest k hk hc) (by omega) (by omega) (by omega) (fun e => by
      by_cases e4 : cap = k
      · omega
      · rw [if_neg e4] at e
        cases ao with
        | none => have := hnil rfl; omega
        | some a => simp at e))
    clear hB hnil h1
    by_cases hck : cap = k
    · subst hck
      rw [if_pos rfl, Nat.sub_self, show len - cap = 0 by omega] at HR
      go_enter Try.func28, Try.ntmps28
      go_wp2_with fail
      refine (refBytes_full w.heap.size w.heap.size 3 _ _ HR.out ⟨by omega, by omega⟩).mono ?_
      rintro r w2 ⟨⟨ao2, c2, rfl, _⟩, hR2, hF2⟩
      rw [HS.out.2] at hR2
      obtain ⟨_, _, _, _, hd2, _⟩ := hR2
      have hE := hd2.c1
      have HB2 : Hid (Below w.heap.size w w2) := ((Below.refl _ w).alloc (Nat.le_refl _) _).trans (hF2.below w.heap.size (by simp) (fun k' h => by have : k' = w.heap.size := h; omega))
      clear hd2 hF2
      go_wp2_with fail
      refine bodyPost_ret (results_tmp5 rfl _ _ _) rfl ?_
      exact HX.out _ HB2.out
    · rw [if_neg hck] at HR
      go_enter Try.func28, Try.ntmps28
      go_wp2_with fail
      refine (refBytes_full w.heap.size w.heap.size 3 _ _ HR.out ⟨by omega, by omega⟩).mono ?_
      rintro r w2 ⟨⟨ao2, c2, rfl, _⟩, hR2, hF2⟩
      rw [HS.out.2] at hR2
      obtain ⟨_, _, _, _, hd2, _⟩ := hR2
      have hE := hd2.c1
      have HB2 : Hid (Below w.heap.size w w2) := ((Below.refl _ w).alloc (Nat.le_refl _) _).trans (hF2.below w.heap.size (by simp) (fun k' h => by have : k' = w.heap.size := h; omega))
      clear hd2 hF2
      go_wp2_with fail
      refine bodyPost_ret (results_tmp5 rfl _ _ _) rfl ?_
      exact HX.out _ HB2.out
  have hck : ¬ cap = k := by omega
  have HR := hide (RdR.new (w := w) (c := cap - k) (hB.toB.rest k hk hc) (by omega) (by omega) (by omega) (fun e => by
      rw [if_neg hck] at e
      cases ao with
      | none => have := hnil rfl; omega
      | some a => simp at e))
  rw [if_neg hck] at HR
  obtain ⟨x0, hx0⟩ : ∃ x, x = g zs k := ⟨_, rfl⟩
  obtain ⟨x1, hx1⟩ : ∃ x, x = g zs (k + 1) := ⟨_, rfl⟩
  obtain ⟨x2, hx2⟩ : ∃ x, x = g zs (k + 2) := ⟨_, rfl⟩
  have bx0 : 0 ≤ x0 ∧ x0 ≤ 255 := by rw [hx0]; exact hB.2.1 _
  have bx1 : 0 ≤ x1 ∧ x1 ≤ 255 := by rw [hx1]; exact hB.2.1 _
  have bx2 : 0 ≤ x2 ∧ x2 ≤ 255 := by rw [hx2]; exact hB.2.1 _
  have h3' : (zs.drop k).take 3 = [x0, x1, x2] := by
    have hl : ((zs.drop k).take 3).length = 3 := by simp; omega
    have e : ∀ i, i < 3 → ((zs.drop k).take 3)[i]? = some (g zs (k + i)) := fun i hi => by
      rw [List.getElem?_take_of_lt hi, List.getElem?_drop, List.getElem?_eq_getElem (by omega), Lz.g_lt _ _ (by omega)]
    match hm : (zs.drop k).take 3, hl with
    | [a, b, c], _ =>
      rw [hm] at e
      have e0 := e 0 (by omega); have e1 := e 1 (by omega); have e2 := e 2 (by omega)
      simp at e0 e1 e2
      rw [hx0, hx1, hx2, e0, e1, e2]
  have hbl := byt_long (l := zs.drop k) (n := 3) (by simp; omega)
  rw [h3'] at hbl
  rw [List.drop_drop] at hbl
  have HBL := hide hbl
  have HSp := hide (spot_at hz (by omega) hx0 hx1 hx2)
  have HBody : Hid (∀ sz, body zs k sz = (zs.drop (k + 3)).take sz) := fun sz => rfl
  have hrl : (zs.drop (k + 3)).length = len - (k + 3) := by simp [hz]
  generalize zs.drop (k + 3) = rest at *
  have hhd := hd_of bx0 bx1
  obtain ⟨N, hN⟩ : ∃ N, N = x0 + 256 * x1 := ⟨_, rfl⟩
  rw [← hN] at HSp hhd
  have hNb : 0 ≤ N ∧ N ≤ 65535 := by omega
  obtain ⟨y2, hy2⟩ : ∃ y, y = 255 - x8 x0 x1 := ⟨_, rfl⟩
  have by2 : 0 ≤ y2 ∧ y2 ≤ 255 := by have := x8_bd bx0 bx1; omega
  rw [← hy2] at HSp hhd
  have HHd : Hid (hd N = [x0, x1, y2]) := hhd
  have HNN : Hid (N = x0 + 256 * x1) := hN
  have HNN2 : Hid (x0 + 256 * x1 = N) := hN.symm
  clear hy2 hhd hN hB hnil h1 hbl h3' hx0 hx1 hx2
  go_enter Try.func28, Try.ntmps28
  go_wp2_with fail
  refine (refBytes_full w.heap.size w.heap.size 3 _ _ HR.out ⟨by omega, by omega⟩).mono ?_
  rintro r w2 ⟨⟨ao2, c2, rfl, hb2, hn2, hc2, hm2, _⟩, hR2, hF2⟩
  have e3 : (3 : Int) = ((3 : Nat) : Int) := rfl
  rw [e3, HBL.out.2] at hR2
  rw [e3, HBL.out.1] at hb2 hc2
  rw [e3, HBL.out.1]
  have hb2' : Bs w2 ao2 3 [x0, x1, x2] := hb2
  have HB2 : Hid (Below w.heap.size w w2) := ((Below.refl _ w).alloc (Nat.le_refl _) _).trans (hF2.below w.heap.size (by simp) (fun k' h => by have : k' = w.heap.size := h; omega))
  have HR2 := hide hR2
  obtain ⟨_, _, _, _, hd2, _⟩ := hR2
  have hE := hd2.c1
  have HBs2 := hide hb2'
  clear hd2 hF2 hb2 e3
  obtain ⟨b, off, rfl, hblt, hsg⟩ : ∃ b off, ao2 = some ⟨b, off, none⟩ ∧ b < w2.heap.size ∧ Seg w2 b off [x0, x1, x2] := by
    rcases hb2'.2.2 with h | h
    · omega
    · exact h
  have c0 := hsg 0 (by simp)
  have c1 := hsg 1 (by simp)
  simp only [Nat.add_zero] at c0
  have c0' : w2.cell? ⟨b, off, none⟩ = some (.int .u8 x0) := c0
  have c1' : w2.cell? ⟨b, off + 1, none⟩ = some (.int .u8 x1) := c1
  have hc3 : 3 ≤ c2 := hc2
  clear c0 c1 hsg hb2' hc2 hn2
  simp only [List.length_cons, List.length_nil, Nat.zero_add, Nat.reduceAdd]
  go_wp2_with fail
  go_quiet (fail)
  obtain ⟨w3, hw3⟩ : ∃ w3, w3 = w2.drewN nq := ⟨_, rfl⟩
  have hb23 : Below w2.heap.size w2 w3 := by rw [hw3]; exact below_drewN (Below.refl _ w2) nq
  have HB3 : Hid (Below w.heap.size w w3) := HB2.out.trans (hb23.mono HB2.out.size)
  have HR3 := hide (HR2.out.below hb23)
  have HBs3 := hide (HBs2.out.below hb23)
  rw [← hw3, HNN2.out]
  clear hw3 hb23 c0' c1' hE hblt
  have Hst : Hid (∀ w', Below w3.heap.size w3 w' → (convert 30 9 (.slice (some ⟨b, off, none⟩) 3 c2)).run Try.prog w' = .ok (.string (strOfNums [x0, x1, x2])) w') := fun w' h => str_any (HBs3.out.below h) c2
  have HXn : Hid (spot zs k = none → ∀ w2, Below w.heap.size w w2 → Cuts zs k w w2 (.returned (.tuple #[.slice none 0 0, .int .i64 0, .bool false, .int .i64 0, .int .i64 2]))) := fun e w2 h => .inl ⟨e, rfl, h⟩
  have hst := Hst.out w3.drew (Below.refl _ w3).drew
  by_cases hy : x2 = y2
  · subst hy
    go_wp2_with fail
    go_region_held (fun w' => (convert 30 9 (.slice (some ⟨b, off, none⟩) 3 c2)).run Try.prog w' = .ok (.string (strOfNums [x0, x1, x2])) w') (go_keep)
      (first | (go_at_call 48; refine (refHead_any N _ hNb).mono ?_; rintro r w4 ⟨rfl, hb4, hbel4⟩; rw [HHd.out] at hb4; have s4 : (convert 30 9 (.slice (some ⟨w3.heap.size, 0, none⟩) 3 3)).run Try.prog w4 = .ok (.string (strOfNums [x0, x1, x2])) w4 := str_any hb4 3; have s5 := Hst.out w4 (((Below.refl _ w3).drew).trans hbel4); have HB4 : Hid (Below w3.heap.size w3 w4) := ((Below.refl _ w3).drew).trans hbel4; clear hb4 hbel4))
    clear s4 s5 hst
    have HBw : Hid (Below w.heap.size w w4) := HB3.out.trans (HB4.out.mono HB3.out.size)
    have HR4 := hide (HR3.out.below HB4.out)
    clear HBs3 Hst HB4 HBs2
    by_cases hN0 : N = 0
    · have HX : Hid (Cuts zs k w w4 (.returned (.tuple #[.slice none 0 0, .int .i64 0, .bool false, .int .i64 ((k : Int) + 3), .int .i64 0]))) := .inr (.inl ⟨0, by
        rw [HSp.out, hN0, show bsz 0 = (0, true) from rfl, if_neg (by simp), if_neg (by show ¬ (len : Int) - ((k : Int) + 3) < 0; omega)]; rfl, rfl, HBw.out⟩)
      clear HSp
      subst hN0
      go_wp2_with fail
      refine bodyPost_ret (results_tmp5 rfl _ _ _) rfl ?_
      exact HX.out
    · have t : N.tmod 32768 = N % 32768 := Int.tmod_eq_emod_of_nonneg hNb.1
      obtain ⟨M, hM⟩ : ∃ M : Nat, N % 32768 = (M : Int) := ⟨(N % 32768).toNat, by omega⟩
      rw [hM] at t
      have hM2 : M < 32768 := by omega
      by_cases hbad : M < 1 ∨ 128 < M
      · have HX := hide (HXn.out (by rw [HSp.out, bsz_bad hN0 hM hbad, if_pos (.inl rfl)]) w4 HBw.out)
        clear HSp
        rcases hbad with hb | hb
        · have hst : 32768 ≤ N := by omega
          obtain rfl : M = 0 := by omega
          clear hM
          go_wp2_with fail
          refine bodyPost_ret (results_tmp5 rfl _ _ _) rfl ?_
          exact HX.out
        · clear hM
          go_wp2_with fail
          all_goals refine bodyPost_ret (results_tmp5 rfl _ _ _) rfl ?_
          all_goals exact HX.out
      · have hM1 : 1 ≤ M := by omega
        have hM8 : M ≤ 128 := by omega
        have hM9 : (M : Int) ≤ 128 := by omega
        have hM0 : ((M : Int) == 0) = false := by simp; omega
        have hbz := bsz_good hN0 hM hbad
        rw [hbz] at HSp
        clear hbad hM hbz
        by_cases hlong : 4 + M ≤ rest.length
        · have hsp : spot zs k = some (N, 4 + M) := by rw [HSp.out, if_neg (by simp), if_neg (by show ¬ (len : Int) - ((k : Int) + 3) < ((4 + M : Nat) : Int); omega)]; simp; omega
          have hn4 := num4 rest (by omega)
          have hbl := byt_long (l := rest.drop 4) (n := M) (by simp; omega)
          have HN4 := hide hn4
          have HBL2 := hide hbl
          have hbody : body zs k (4 + M) = rest.take (4 + M) := HBody.out _
          have e4 : (rest.take (4 + M)).take 4 = rest.take 4 := by rw [List.take_take]; congr 1; omega
          have e5 : (rest.take (4 + M)).drop 4 = (rest.drop 4).take M := by rw [List.drop_take]; congr 1; omega
          have hml : ((rest.drop 4).take M).length = M := by simp; omega
          have HML := hide hml
          have HX : Hid (∀ w6 ao6 c6, Below w.heap.size w w6 → Bs w6 ao6 M ((rest.drop 4).take M) → M ≤ c6 → (ao6 = none → c6 = 0) → (∀ a, ao6 = some a → w.heap.size ≤ a.block) → Cuts zs k w w6 (.returned (.tuple #[.slice ao6 M c6, .int .i64 (le (rest.take 4)), .bool (decide (32768 ≤ N)), .int .i64 ((k : Int) + 7 + (M : Int)), .int .i64 0]))) := fun w6 ao6 c6 h1 h2 h3 h4 h5 => by
            refine .inr (.inr ⟨N, 4 + M, ao6, c6, hsp, by omega, ?_, ?_, by omega, h4, h1, h5⟩)
            · rw [Int.toNat_natCast, hbody, e4, Nat.add_sub_cancel_left]
              congr 1
              rw [show (k : Int) + 3 + ((4 + M : Nat) : Int) = (k : Int) + 7 + (M : Int) by omega]
            · rw [Int.toNat_natCast, hbody, e5, Nat.add_sub_cancel_left]; exact h2
          clear HSp hsp hn4 hbl hbody e4 e5 hml
          go_wp2_with fail
          refine (refNum_any w.heap.size w.heap.size 4 _ w4 HR4.out ⟨by omega, by omega⟩).mono ?_
          rintro r w5 ⟨rfl, hR5, hF5⟩
          rw [HN4.out.2] at hR5
          rw [HN4.out.1]
          have HR5 := hide hR5
          have HB5 : Hid (Below w.heap.size w w5) := HBw.out.trans (hF5.below w.heap.size HBw.out.size (fun k' h => by have : k' = w.heap.size := h; omega))
          clear hR5 hF5
          generalize le (rest.take 4) = sm at *
          go_wp2_with fail
          refine (refBytes_full w.heap.size w.heap.size (M : Int) _ w5 HR5.out ⟨by omega, by omega⟩).mono ?_
          rintro r w6 ⟨⟨ao6, c6, rfl, hb6, hn6, hc6, _, hw6⟩, hR6, hF6⟩
          rw [HBL2.out.2] at hR6
          rw [HBL2.out.1, HML.out] at hb6 hc6
          rw [HBL2.out.1, HML.out]
          obtain ⟨_, _, _, _, hd6, _⟩ := hR6
          have hE := hd6.c1
          have HB6 : Hid (Below w.heap.size w w6) := HB5.out.trans (hF6.below w.heap.size HB5.out.size (fun k' h => by have : k' = w.heap.size := h; omega))
          have HXX := hide (HX.out w6 ao6 c6 HB6.out hb6 hc6 hn6 (fun a h => Nat.le_trans HB5.out.size (hw6 a h)))
          clear hd6 hF6 hb6 hc6 hn6 hw6
          go_wp2_with fail
          refine bodyPost_ret (results_tmp5 rfl _ _ _) rfl ?_
          exact HXX.out
        · have he9 : spot zs k = none := by rw [HSp.out, if_neg (by simp), if_pos (by show (len : Int) - ((k : Int) + 3) < ((4 + M : Nat) : Int); omega)]
          have HE9 := hide he9
          clear he9
          have hts := two_short (l := rest) (m := M) (by omega) hM1
          have HTS := hide hts
          clear HSp hts
          go_wp2_with fail
          refine (refNum_any w.heap.size w.heap.size 4 _ w4 HR4.out ⟨by omega, by omega⟩).mono ?_
          rintro r w5 ⟨rfl, hR5, hF5⟩
          have HR5 := hide hR5
          have HB5 : Hid (Below w.heap.size w w5) := HBw.out.trans (hF5.below w.heap.size HBw.out.size (fun k' h => by have : k' = w.heap.size := h; omega))
          clear hR5 hF5
          generalize numA 4 (rest, 0) = sm at *
          go_wp2_with fail
          refine (refBytes_full w.heap.size w.heap.size (M : Int) _ w5 HR5.out ⟨by omega, by omega⟩).mono ?_
          rintro r w6 ⟨⟨ao6, c6, rfl, _⟩, hR6, hF6⟩
          obtain ⟨_, _, _, _, hd6, _⟩ := hR6
          rw [HTS.out] at hd6
          have hE := hd6.c1
          have HB6 : Hid (Below w.heap.size w w6) := HB5.out.trans (hF6.below w.heap.size HB5.out.size (fun k' h => by have : k' = w.heap.size := h; omega))
          clear hd6 hF6
          generalize (bytA (M : Int) (numS 4 (rest, 0))).length = l6 at *
          go_wp2_with fail
          refine bodyPost_ret (results_tmp5 rfl _ _ _) rfl ?_
          exact HXn.out HE9.out _ HB6.out
  · have hne : strOfNums [x0, x1, y2] ≠ strOfNums [x0, x1, x2] := fun h => by
      have := str_inj (xs := [x0, x1, y2]) (ys := [x0, x1, x2]) (fun x hx => by simp at hx; omega) (fun x hx => by simp at hx; omega) h
      simp at this; omega
    have HS1 : Hid (∀ w4, Bs w4 (some ⟨w3.heap.size, 0, none⟩) 3 [x0, x1, y2] → (convert 30 9 (.slice (some ⟨w3.heap.size, 0, none⟩) 3 3)).run Try.prog w4 = .ok (.string (strOfNums [x0, x1, y2])) w4) := fun w4 h => str_any h 3
    generalize strOfNums [x0, x1, y2] = S1 at *
    generalize strOfNums [x0, x1, x2] = S2 at *
    have hss := str_ne hne
    have he9 : spot zs k = none := by rw [HSp.out, if_pos (.inr hy)]
    have HE9 := hide he9
    clear he9 HSp
    go_wp2_with fail
    go_region_held (fun w' => (convert 30 9 (.slice (some ⟨b, off, none⟩) 3 c2)).run Try.prog w' = .ok (.string S2) w') (go_keep)
      (first | (go_at_call 48; refine (refHead_any N _ hNb).mono ?_; rintro r w4 ⟨rfl, hb4, hbel4⟩; rw [HHd.out] at hb4; have s4 := HS1.out w4 hb4; have s5 := Hst.out w4 (((Below.refl _ w3).drew).trans hbel4); have HB4 : Hid (Below w3.heap.size w3 w4) := ((Below.refl _ w3).drew).trans hbel4; clear hb4 hbel4))
    have HBw : Hid (Below w.heap.size w w4) := HB3.out.trans (HB4.out.mono HB3.out.size)
    clear s4 s5
    go_wp2_with fail
    refine bodyPost_ret (results_tmp5 rfl _ _ _) rfl ?_
    exact HXn.out HE9.out _ HBw.out


/-- What the reference's Take answers. -/
def RTakes (z : List Int) (at' : Int) (w w' : World) (r : Ending) : Prop :=
  ∃ ao c, r = .returned (.tuple #[.slice ao (take ent z at').1.length c, .int .i64 (take ent z at').2.1, .int .i64 (take ent z at').2.2]) ∧ Bs w' ao (take ent z at').1.length (take ent z at').1 ∧ Below w.heap.size w w' ∧ (take ent z at').1.length ≤ c ∧ (ao = none → c = 0) ∧ ∀ a, ao = some a → w.heap.size ≤ a.block
theorem RTakes.none {z : List Int} {at' x y : Int} {w w' : World} (h : take ent z at' = ([], x, y)) (hb : Below w.heap.size w w') : RTakes z at' w w' (.returned (.tuple #[.slice none 0 0, .int .i64 x, .int .i64 y])) := by
  refine ⟨Option.none, 0, by rw [h]; simp, ?_, hb, by rw [h]; simp, fun _ => rfl, fun a h => by simp at h⟩
  rw [h]; exact ⟨rfl, fun i => by simp [g], .inl rfl⟩
set_option maxRecDepth 100000 in
set_option maxHeartbeats 1000000 in
theorem refTake_any (len cap : Nat) (at' : Int) (ao : Option Addr) (zs : List Int) (w : World) (hB : Bs w ao len zs) (hc : len ≤ cap) (hnil : ao = none → cap = 0) (hl : len ≤ 100000) (hcm : cap ≤ 9223372036854775807)
    (ha : -9223372036854775808 ≤ at' ∧ at' ≤ 9223372036854775807) :
    Calls Try.prog 21 #[.slice ao len cap, .int .i64 at'] w fun r w' => RTakes zs at' w w' r := by
  have HP := hide (cut_any len cap at' ao zs w hB hc hnil hl hcm ha)
  have hby := hB.bytes
  have HBy := hide hby
  clear hB hnil hby
  go_enter Try.func21, Try.ntmps21
  go_wp2_with fail
  refine HP.out.mono ?_
  clear HP
  rintro r w1 (⟨h1, rfl, h2⟩ | ⟨n, h1, rfl, h2⟩ | ⟨n, sz, ao1, c1, h1, h3, rfl, hb1, hc1, hn1, h2, hw1⟩)
  · have e : take ent zs at' = ([], 0, 2) := by unfold take; rw [h1]
    have HX := hide (RTakes.none e h2)
    clear h1 h2 e
    go_wp2
    go_ret3
    exact HX.out
  · have e : take ent zs at' = ([], at' + 3, 0) := by unfold take; rw [h1]; simp
    have HX := hide (RTakes.none e h2)
    clear h1 h2 e
    go_wp2
    go_ret3
    exact HX.out
  · have e : take ent zs at' = if plain ent n (body zs at'.toNat sz) = [] then ([], 0, 2) else (plain ent n (body zs at'.toNat sz), at' + 3 + sz, 0) := by unfold take; rw [h1]; simp [h3]
    have HE := hide e
    obtain ⟨s1, s2, s3, s4, s5⟩ := spot_some h1
    have h5 := bsz_ge n (by omega)
    have h6 := bsz_bd n
    have hpy : plain ent n (body zs at'.toNat sz) = if le ((body zs at'.toNat sz).take 4) ≠ (more ent 0 ((body zs at'.toNat sz).drop 4) : Int) then [] else if 32768 ≤ n then (body zs at'.toNat sz).drop 4 else (unpack ((body zs at'.toNat sz).drop 4) 128).1 := rfl
    have HPY := hide hpy
    have hpb : Bytes ((body zs at'.toNat sz).drop 4) := Bytes.drop (Bytes.take (HBy.out.drop _) _) _
    have HPB := hide hpb
    have HBs := hide hb1
    have HB := hide h2
    have HN := hide hn1
    have HW := hide hw1
    obtain ⟨m, hm⟩ : ∃ m, m = sz - 4 := ⟨_, rfl⟩
    rw [← hm] at HBs hc1
    rw [← hm]
    have hm1 : 1 ≤ m := by omega
    have hm2 : m ≤ 1000 := by omega
    have hml : ((body zs at'.toNat sz).drop 4).length = m := HBs.out.1
    have HML := hide hml
    generalize (body zs at'.toNat sz).drop 4 = py at *
    generalize le ((body zs at'.toNat sz).take 4) = sm at *
    generalize plain ent n (body zs at'.toNat sz) = pl at *
    clear h1 h2 h3 e hb1 hn1 hw1 s1 s2 s3 s4 s5 h5 h6 hpy hpb hm hml
    have hm0 : ((m : Int) == 0) = false := by simp; omega
    have hmb := more_bd small_ent py
    go_wp2_with fail
    refine (refSum_any m c1 ao1 py w1 HBs.out (by omega)).mono ?_
    rintro r wx ⟨rfl, rfl⟩
    obtain ⟨mm, hmm⟩ : ∃ mm, more ent 0 py = mm := ⟨_, rfl⟩
    rw [hmm]
    rw [hmm] at hmb
    have HMM := hide hmm
    clear hmm
    by_cases h1 : sm = (mm : Int)
    · subst h1
      have hq : ((mm : Int) == (mm : Int)) = true := by simp
      by_cases h2 : 32768 ≤ n
      · have e : pl = py := by rw [HPY.out, HMM.out, if_neg (by simp), if_pos h2]
        have hne : py ≠ [] := fun e => by have := HML.out; rw [e] at this; simp at this; omega
        have HX : Hid (RTakes zs at' w wx (.returned (.tuple #[.slice ao1 m c1, .int .i64 (at' + 3 + sz), .int .i64 0]))) := by
          have e2 := HE.out
          rw [e, if_neg hne] at e2
          refine ⟨ao1, c1, by rw [e2, HML.out], ?_, HB.out, by rw [e2, HML.out]; exact hc1, HN.out, HW.out⟩
          rw [e2, HML.out]; exact HBs.out
        clear e hne
        go_wp2_with fail
        go_ret3
        exact HX.out
      · have e : pl = (unpack py 128).1 := by rw [HPY.out, HMM.out, if_neg (by simp), if_neg h2]
        have HEq := hide e
        clear e
        go_wp2_with fail
        refine (refUnpack_any m c1 128 ao1 py wx HBs.out hc1 (by omega) (by omega)).mono ?_
        rintro r w4 ⟨ao4, n4, c4, rfl, ho4, hb4⟩
        have hn4 : (unpack py 128).1.length = n4 := by have := ho4.1; rw [bv_length] at this; omega
        have HB4 : Hid (Below w.heap.size w w4) := HB.out.trans (hb4.mono HB.out.size)
        have HB5 := hide (bs_of_owns ho4 (HPB.out.unpack 128))
        have HN4 := hide hn4
        have hcp4 := cap_of_owns ho4
        have HNl4 := hide (nil_cap ho4)
        have HW4 := hide (fun (a : Addr) (h : ao4 = some a) => Nat.le_trans HB.out.size (ho4.lt a.block (by rw [h]; rfl)).1)
        have HU := hide (unpack_err py 128)
        clear ho4 hb4
        by_cases h5 : (unpack py 128).2 = 0
        · rw [h5]
          by_cases h6 : n4 = 0
          · have HX : Hid (RTakes zs at' w w4 (.returned (.tuple #[.slice none 0 0, .int .i64 0, .int .i64 2]))) := by
              refine RTakes.none ?_ HB4.out
              rw [HE.out, HEq.out, if_pos (List.eq_nil_of_length_eq_zero (by rw [HN4.out]; exact h6))]
            subst h6
            go_wp2_with fail
            go_ret3
            exact HX.out
          · have hq6 : ((n4 : Int) == 0) = false := by simp; omega
            have HX : Hid (RTakes zs at' w w4 (.returned (.tuple #[.slice ao4 n4 c4, .int .i64 (at' + 3 + sz), .int .i64 0]))) := by
              have e2 := HE.out
              rw [HEq.out, if_neg (fun e => h6 (by rw [← HN4.out, e]; rfl))] at e2
              refine ⟨ao4, c4, by rw [e2, HN4.out], ?_, HB4.out, by rw [e2, HN4.out]; exact hcp4, HNl4.out, HW4.out⟩
              rw [e2, HN4.out]; exact HB5.out
            go_wp2_with fail
            go_ret3
            exact HX.out
        · have HX : Hid (RTakes zs at' w w4 (.returned (.tuple #[.slice none 0 0, .int .i64 0, .int .i64 2]))) := by
            refine RTakes.none ?_ HB4.out
            rw [HE.out, HEq.out, if_pos (HU.out h5)]
          generalize (unpack py 128).2 = uu at *
          go_wp2_with fail
          go_ret3
          exact HX.out
    · have e : pl = [] := by rw [HPY.out, HMM.out, if_pos h1]
      have HX : Hid (RTakes zs at' w wx (.returned (.tuple #[.slice none 0 0, .int .i64 0, .int .i64 2]))) := by
        refine RTakes.none ?_ HB.out
        rw [HE.out, if_pos e]
      clear e
      have hq : (sm == (mm : Int)) = false := by simp; exact h1
      go_wp2_with fail
      go_ret3
      exact HX.out
end Go.Proofs.Ytgmkldfjbjnkcaa

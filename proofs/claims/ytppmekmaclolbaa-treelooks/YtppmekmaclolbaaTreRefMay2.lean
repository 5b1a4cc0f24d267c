/- Layer 7: the reference's May. -/
import Derived.Test.YtppmekmaclolbaaTreRefMay
namespace Go.Proofs.Ytppmekmaclolbaa
set_option linter.unusedVariables false
open Go.RowKit Go.Maps
open Nam Tre
open Lz (g)

theorem may_rep {w : World} {v : Nv} {n : Nod} (h : Rep w v n) : may n = ((if v.kind = 1 then decide ((v.dn : Int) = 0) && v.tg.toList.isEmpty else if v.kind = 2 then decide ((v.dn : Int) ≤ 4096) && v.tg.toList.isEmpty else if v.kind = 3 then decide ((v.dn : Int) = 0) && txt v.tg.toList 200 else false) && (upB v.mode 511 && upB v.uid 65535 && upB v.gid 65535) && xsOk n.xs && !v.op) := by
  rw [may, attrB, h.mode, h.uid, h.gid, h.op, kind_eq h _ rfl]
theorem txt200 (s : ByteArray) (hb : (s.size : Int) ≤ 200) (hc : s.toList.any (· == 0) = false) (hn : s.toList.isEmpty = false) : txt s.toList 200 = true := by
  unfold txt
  rw [hc, toList_length, decide_eq_true (by omega : s.size ≤ 200), decide_eq_true (by intro e; rw [e] at hn; simp at hn)]; rfl
theorem txt_long (s : ByteArray) (m : Nat) (hb : m < s.size) : txt s.toList m = false := by
  unfold txt
  rw [toList_length, decide_eq_false (by omega : ¬ s.size ≤ m)]; simp
theorem txt_empty (s : ByteArray) (m : Nat) (hn : s.toList.isEmpty = true) : txt s.toList m = false := by
  unfold txt
  rw [decide_eq_false (by simpa using hn)]; simp
theorem txt_nul (s : ByteArray) (m : Nat) (hn : s.toList.any (· == 0) = true) : txt s.toList m = false := by
  unfold txt
  rw [hn]; simp
theorem upB_low {x m : Int} (h : x < 0) : upB x m = false := decide_eq_false (by omega)
theorem upB_high {x m : Int} (h : m < x) : upB x m = false := decide_eq_false (by omega)
theorem upB_in {x m : Int} (h : 0 ≤ x) (k : x ≤ m) : upB x m = true := decide_eq_true ⟨h, k⟩
set_option maxRecDepth 100000 in
set_option maxHeartbeats 2000000 in
theorem refMay_any (v : Nv) (n : Nod) (w : World) (h : Rep w v n) :
    Calls Try.prog 36 #[.agg v.cells] w fun e w' => e = .returned (.bool (may n)) ∧ Below w.heap.size w w' := by
  have HM := hide (may_rep h)
  have HR := hide h
  have x1 := h.xc
  have x2 := h.xcm
  have x3 := h.tgm
  have bel1 : Hid (∀ o, Below w.heap.size w (w.alloc o)) := fun o => (Below.refl _ _).alloc (Nat.le_refl _) _
  have bel2 : Hid (∀ o p, Below w.heap.size w ((w.alloc o).alloc p)) := fun o p => below_alloc2 w o p
  obtain ⟨bad, hbad⟩ : ∃ q, v.tg.toList.any (· == 0) = q := ⟨_, rfl⟩
  have HBD := hide hbad
  obtain ⟨xo, hxo⟩ : ∃ q, xsOk n.xs = q := ⟨_, rfl⟩
  have HXO := hide hxo
  rw [hxo] at HM
  clear h hbad hxo
  unfold Nv.cells
  by_cases k1 : v.kind < 1
  · have HEF : Hid (false = may n) := by show _ = _; rw [HM.out, if_neg (by omega), if_neg (by omega), if_neg (by omega)]; rfl
    go_enter Try.func36, Try.ntmps36
    go_wp2
    go_ret
    exact ⟨ret_bool HEF.out, bel1.out _⟩
  by_cases k2 : 3 < v.kind
  · have HEF : Hid (false = may n) := by show _ = _; rw [HM.out, if_neg (by omega), if_neg (by omega), if_neg (by omega)]; rfl
    go_enter Try.func36, Try.ntmps36
    go_wp2
    go_ret
    exact ⟨ret_bool HEF.out, bel1.out _⟩
  obtain ⟨op, hop⟩ : ∃ q, v.op = q := ⟨_, rfl⟩
  cases op with
  | true =>
    have HEF : Hid (false = may n) := by show _ = _; rw [HM.out, hop]; simp
    go_enter Try.func36, Try.ntmps36
    go_wp2
    go_ret
    exact ⟨ret_bool HEF.out, bel1.out _⟩
  | false =>
  by_cases l_mode : v.mode < 0
  · have HEF : Hid (false = may n) := by show _ = _; rw [HM.out, upB_low (x := v.mode) l_mode]; simp
    go_enter Try.func36, Try.ntmps36
    go_wp2
    go_ret
    exact ⟨ret_bool HEF.out, bel2.out _ _⟩
  by_cases h_mode : 511 < v.mode
  · have HEF : Hid (false = may n) := by show _ = _; rw [HM.out, upB_high (x := v.mode) h_mode]; simp
    go_enter Try.func36, Try.ntmps36
    go_wp2
    go_ret
    exact ⟨ret_bool HEF.out, bel2.out _ _⟩
  by_cases l_uid : v.uid < 0
  · have HEF : Hid (false = may n) := by show _ = _; rw [HM.out, upB_low (x := v.uid) l_uid]; simp
    go_enter Try.func36, Try.ntmps36
    go_wp2
    go_ret
    exact ⟨ret_bool HEF.out, bel2.out _ _⟩
  by_cases h_uid : 65535 < v.uid
  · have HEF : Hid (false = may n) := by show _ = _; rw [HM.out, upB_high (x := v.uid) h_uid]; simp
    go_enter Try.func36, Try.ntmps36
    go_wp2
    go_ret
    exact ⟨ret_bool HEF.out, bel2.out _ _⟩
  by_cases l_gid : v.gid < 0
  · have HEF : Hid (false = may n) := by show _ = _; rw [HM.out, upB_low (x := v.gid) l_gid]; simp
    go_enter Try.func36, Try.ntmps36
    go_wp2
    go_ret
    exact ⟨ret_bool HEF.out, bel2.out _ _⟩
  by_cases h_gid : 65535 < v.gid
  · have HEF : Hid (false = may n) := by show _ = _; rw [HM.out, upB_high (x := v.gid) h_gid]; simp
    go_enter Try.func36, Try.ntmps36
    go_wp2
    go_ret
    exact ⟨ret_bool HEF.out, bel2.out _ _⟩
  have HU : Hid ((upB v.mode 511 && upB v.uid 65535 && upB v.gid 65535) = true) := by
    show _ = _
    rw [upB_in (by omega) (by omega), upB_in (by omega) (by omega), upB_in (by omega) (by omega)]; rfl
  have XC : Hid (∀ wX, Below w.heap.size w wX → Calls Try.prog 63 #[.slice v.xa v.xn v.xc] wX fun e w' => e = .returned (.bool xo) ∧ Below w.heap.size w w') := fun wX hX =>
    (refXattrs_any v.xa v.xn v.xc n.xs wX (HR.out.below hX).xs x1 x2 xo HXO.out).mono fun e w' ⟨he, hb⟩ => ⟨he, hX.trans (hb.mono hX.size)⟩
  by_cases kd1 : v.kind = 1
  · have kk : v.kind = 1 := by omega
    have HK := hide kk
    have e1 : (v.kind == 1) = true := by rw [kk]; rfl
    have n1 : (v.kind != 1) = false := by rw [kk]; rfl
    have e2 : (v.kind == 2) = false := by rw [kk]; rfl
    have n2 : (v.kind != 2) = true := by rw [kk]; rfl
    have e3 : (v.kind == 3) = false := by rw [kk]; rfl
    have n3 : (v.kind != 3) = true := by rw [kk]; rfl
    clear kk
    by_cases hd : (0 : Int) < v.dn
    · have HEF : Hid (false = may n) := by show _ = _; rw [HM.out, if_pos HK.out, decide_eq_false (by omega)]; rfl
      go_enter Try.func36, Try.ntmps36
      go_wp2
      go_ret
      exact ⟨ret_bool HEF.out, bel2.out _ _⟩
    have hd2 : ¬ (4096 : Int) < v.dn := by omega
    obtain ⟨em, hem⟩ : ∃ q, v.tg.toList.isEmpty = q := ⟨_, rfl⟩
    cases em with
    | false =>
      have HEF : Hid (false = may n) := by show _ = _; rw [HM.out, if_pos HK.out, hem]; simp
      go_enter Try.func36, Try.ntmps36
      go_wp2_with (go_at_call 62; refine (nul_any _ _ bad HBD.out x3).mono ?_; rintro e w' ⟨rfl, rfl⟩)
      go_ret
      exact ⟨ret_bool HEF.out, bel2.out _ _⟩
    | true =>
      have HEQ : Hid (xo = may n) := by show _ = _; rw [HM.out, if_pos HK.out, hem, HU.out, decide_eq_true (by omega)]; simp [hop]
      go_enter Try.func36, Try.ntmps36
      go_wp2_with (first | (go_at_call 62; refine (nul_any _ _ bad HBD.out x3).mono ?_; rintro e w' ⟨rfl, rfl⟩) | (go_at_call 63; refine (XC.out _ (bel2.out _ _)).mono ?_; rintro e w' ⟨rfl, hb⟩))
      go_ret
      exact ⟨ret_bool HEQ.out, hb⟩
  by_cases kd2 : v.kind = 2
  · have kk : v.kind = 2 := by omega
    have HK := hide kk
    have e1 : (v.kind == 1) = false := by rw [kk]; rfl
    have n1 : (v.kind != 1) = true := by rw [kk]; rfl
    have e2 : (v.kind == 2) = true := by rw [kk]; rfl
    have n2 : (v.kind != 2) = false := by rw [kk]; rfl
    have e3 : (v.kind == 3) = false := by rw [kk]; rfl
    have n3 : (v.kind != 3) = true := by rw [kk]; rfl
    clear kk
    by_cases hd : (4096 : Int) < v.dn
    · have HEF : Hid (false = may n) := by show _ = _; rw [HM.out, if_neg (by rw [HK.out]; decide), if_pos HK.out, decide_eq_false (by omega)]; rfl
      go_enter Try.func36, Try.ntmps36
      go_wp2
      go_ret
      exact ⟨ret_bool HEF.out, bel2.out _ _⟩
    obtain ⟨em, hem⟩ : ∃ q, v.tg.toList.isEmpty = q := ⟨_, rfl⟩
    cases em with
    | false =>
      have HEF : Hid (false = may n) := by show _ = _; rw [HM.out, if_neg (by rw [HK.out]; decide), if_pos HK.out, hem]; simp
      go_enter Try.func36, Try.ntmps36
      go_wp2_with (go_at_call 62; refine (nul_any _ _ bad HBD.out x3).mono ?_; rintro e w' ⟨rfl, rfl⟩)
      go_ret
      exact ⟨ret_bool HEF.out, bel2.out _ _⟩
    | true =>
      have HEQ : Hid (xo = may n) := by show _ = _; rw [HM.out, if_neg (by rw [HK.out]; decide), if_pos HK.out, hem, HU.out, decide_eq_true (by omega)]; simp [hop]
      go_enter Try.func36, Try.ntmps36
      go_wp2_with (first | (go_at_call 62; refine (nul_any _ _ bad HBD.out x3).mono ?_; rintro e w' ⟨rfl, rfl⟩) | (go_at_call 63; refine (XC.out _ (bel2.out _ _)).mono ?_; rintro e w' ⟨rfl, hb⟩))
      go_ret
      exact ⟨ret_bool HEQ.out, hb⟩
  · have kk : v.kind = 3 := by omega
    have HK := hide kk
    have e1 : (v.kind == 1) = false := by rw [kk]; rfl
    have n1 : (v.kind != 1) = true := by rw [kk]; rfl
    have e2 : (v.kind == 2) = false := by rw [kk]; rfl
    have n2 : (v.kind != 2) = true := by rw [kk]; rfl
    have e3 : (v.kind == 3) = true := by rw [kk]; rfl
    have n3 : (v.kind != 3) = false := by rw [kk]; rfl
    clear kk
    by_cases hd : (0 : Int) < v.dn
    · have HEF : Hid (false = may n) := by show _ = _; rw [HM.out, if_neg (by rw [HK.out]; decide), if_neg (by rw [HK.out]; decide), if_pos HK.out, decide_eq_false (by omega)]; rfl
      go_enter Try.func36, Try.ntmps36
      go_wp2
      go_ret
      exact ⟨ret_bool HEF.out, bel2.out _ _⟩
    have hd2 : ¬ (4096 : Int) < v.dn := by omega
    obtain ⟨em, hem⟩ : ∃ q, v.tg.toList.isEmpty = q := ⟨_, rfl⟩
    cases em with
    | true =>
      have HEF : Hid (false = may n) := by show _ = _; rw [HM.out, if_neg (by rw [HK.out]; decide), if_neg (by rw [HK.out]; decide), if_pos HK.out, txt_empty _ _ hem]; simp
      go_enter Try.func36, Try.ntmps36
      go_wp2_with (go_at_call 62; refine (nul_any _ _ bad HBD.out x3).mono ?_; rintro e w' ⟨rfl, rfl⟩)
      go_ret
      exact ⟨ret_bool HEF.out, bel2.out _ _⟩
    | false =>
    by_cases hl : (200 : Int) < v.tg.size
    · have HEF : Hid (false = may n) := by show _ = _; rw [HM.out, if_neg (by rw [HK.out]; decide), if_neg (by rw [HK.out]; decide), if_pos HK.out, txt_long _ _ (by omega)]; simp
      go_enter Try.func36, Try.ntmps36
      go_wp2_with (go_at_call 62; refine (nul_any _ _ bad HBD.out x3).mono ?_; rintro e w' ⟨rfl, rfl⟩)
      go_ret
      exact ⟨ret_bool HEF.out, bel2.out _ _⟩
    cases bad with
    | true =>
      have HEF : Hid (false = may n) := by show _ = _; rw [HM.out, if_neg (by rw [HK.out]; decide), if_neg (by rw [HK.out]; decide), if_pos HK.out, txt_nul _ _ HBD.out]; simp
      go_enter Try.func36, Try.ntmps36
      go_wp2_with (go_at_call 62; refine (nul_any _ _ true HBD.out x3).mono ?_; rintro e w' ⟨rfl, rfl⟩)
      go_ret
      exact ⟨ret_bool HEF.out, bel2.out _ _⟩
    | false =>
      have HEQ : Hid (xo = may n) := by show _ = _; rw [HM.out, if_neg (by rw [HK.out]; decide), if_neg (by rw [HK.out]; decide), if_pos HK.out, txt200 _ (by omega) HBD.out hem, HU.out, decide_eq_true (by omega)]; simp [hop]
      go_enter Try.func36, Try.ntmps36
      go_wp2_with (first | (go_at_call 62; refine (nul_any _ _ false HBD.out x3).mono ?_; rintro e w' ⟨rfl, rfl⟩) | (go_at_call 63; refine (XC.out _ (bel2.out _ _)).mono ?_; rintro e w' ⟨rfl, hb⟩))
      go_ret
      exact ⟨ret_bool HEQ.out, hb⟩
end Go.Proofs.Ytppmekmaclolbaa

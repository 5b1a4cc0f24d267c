/- The walks of the reference's reader: Bytes, Num, Text, End, Left. -/
import Derived.Test.YtgmkldfjbjnkcaaCurDead
import Derived.Deep.CutRange
namespace Go.Proofs.Ytgmkldfjbjnkcaa
set_option linter.unusedVariables false
open Go.RowKit Go.Maps
open Lz (g)
open Cur

theorem St.dead {s : St} (he : s.2 ≠ 0) (hc : s.2 = 0 ∨ s.1 = []) : s = ([], s.2) := by
  rcases hc with h | h
  · exact absurd h he
  · exact Prod.ext h rfl
theorem rr_failed {w w' : World} {q L n c : Nat} {ao : Option Addr} {k : Int} {s : St} (h : RdR w q L s) (hd : Hd 92 w q ao n c s.2) (h0 : s.2 = 0) (hk : k ≠ 0) (hd' : Hd 92 w' q ao n c (if s.2 = 0 then k else s.2)) (hf : Fr (One q) w w') : RdR w' q L ([], k) := by
  obtain ⟨ao1, n1, c1, zs, h1, h2, h3, h4, h5, h6, h7, h8⟩ := h
  unfold Hd at h1 hd
  rw [h1] at hd
  obtain ⟨rfl, rfl, rfl⟩ : ao1 = ao ∧ n1 = n ∧ c1 = c := by simpa using hd
  rw [if_pos h0] at hd'
  exact ⟨ao1, n1, c1, zs, hd', h2.one h7 hf h1 (by decide), h3, h4, h5, h6, Nat.le_trans h7 hf.size, fun e => absurd e hk, .inr rfl⟩
theorem rr_passed {w w1 : World} {q L k n c : Nat} {ao : Option Addr} {s : St} (h0 : s.2 = 0) (hd : Hd 92 w q ao n c s.2) (hb : BsB w L ao n s.1) (hnc : n ≤ c) (hc : c ≤ 9223372036854775807) (hn : n ≤ 1000000) (hnil : ao = none → c = 0) (hL : L ≤ w.heap.size) (hk : k ≤ n)
    (hf : Fr (fun _ => False) w w1) :
    RdR (w1.setCell ⟨q, 0, none⟩ (.slice (if c = k then ao else Option.map (fun x => x.add k) ao) (n - k) (c - k))) q L (s.1.drop k, 0) ∧ Fr (One q) w (w1.setCell ⟨q, 0, none⟩ (.slice (if c = k then ao else Option.map (fun x => x.add k) ao) (n - k) (c - k))) := by
  have hfr : Fr (One q) w (w1.setCell ⟨q, 0, none⟩ (.slice (if c = k then ao else Option.map (fun x => x.add k) ao) (n - k) (c - k))) := (hf.mono (fun _ _ h => h.elim)).set (p := ⟨q, 0, none⟩) _ (fun _ => rfl)
  have hb1 := hb.one hL hfr hd (by decide)
  have hd1 := (hd.fr hf id).set0 (if c = k then ao else Option.map (fun x => x.add k) ao) (n - k) (c - k)
  rw [h0] at hd1
  refine ⟨⟨_, n - k, c - k, s.1.drop k, hd1, hb1.rest k hk hnc, by omega, by omega, by omega, ?_, Nat.le_trans hL hfr.size, fun _ => rfl, .inl rfl⟩, hfr⟩
  intro e
  by_cases e4 : c = k
  · omega
  · rw [if_neg e4] at e
    cases ao with
    | none => have := hnil rfl; omega
    | some a => simp at e
theorem BsB.takeBs {w : World} {L n k : Nat} {ao : Option Addr} {zs : List Int} (h : BsB w L ao n zs) (hL : L ≤ w.heap.size) (hk : k ≤ n) : Bs w ao k (zs.take k) := (h.bs hL).take k hk

theorem max_of_owns {w : World} {B n c e : Nat} {ao : Option Addr} {xs : List Value} (h : w.ownsRow B e 1 (.slice ao n c) n xs) : c ≤ 9223372036854775807 := by
  rcases h.2 with ⟨e, _⟩ | ⟨_, _, _, e, _, _, _, h, _⟩
  · simp at e; omega
  · simp at e; unfold maxLen at h; omega
set_option maxRecDepth 100000 in
theorem refBytes_full (q L : Nat) (n : Int) (s : St) (w : World) (h : RdR w q L s) (hn : In64 n) :
    Calls Try.prog 47 #[.pointer (some ⟨q, 0, none⟩), .int .i64 n] w fun r w' => (∃ ao c, r = .returned (.slice ao (bytA n s).length c) ∧ Bs w' ao (bytA n s).length (bytA n s) ∧ (ao = none → c = 0) ∧ (bytA n s).length ≤ c ∧ c ≤ 9223372036854775807 ∧ ∀ a, ao = some a → w.heap.size ≤ a.block) ∧ RdR w' q L (bytS n s) ∧ Fr (One q) w w' := by
  have HR : Hid (RdR w q L s) := h
  obtain ⟨ao, m, c, zs, hd, hb, hnc, hc, hm, hnil, hL, hzs, hcan⟩ := h
  have h0 := hd.c0
  have h1 := hd.c1
  have f0 := hd.f 0
  have HD : Hid (Hd 92 w q ao m c s.2) := hd
  have hn2 : -9223372036854775808 ≤ n ∧ n ≤ 9223372036854775807 := hn
  by_cases he : s.2 = 0
  · obtain rfl := hzs he
    rw [he] at h1
    by_cases hw : n < 0
    · have e1 : bytS n s = ([], 1) := by unfold bytS; rw [if_pos hw]; unfold fl; rw [if_pos he]
      have e2 : bytA n s = [] := by unfold bytA; rw [if_pos hw]
      rw [e1, e2]
      have HE : Hid (s.2 = 0) := he
      clear hd hb hnil hcan e1 e2 he hn
      go_enter Try.func47, Try.ntmps47
      go_wp2_with fail
      refine (refFail_any 92 q m c ao s.2 1 w HD.out).mono ?_
      rintro r w1 ⟨rfl, hd1, hF⟩
      have HX : Hid (RdR w1 q L ([], 1) ∧ Fr (One q) w w1) := ⟨rr_failed HR.out HD.out HE.out (by decide) hd1 hF, hF⟩
      clear hF hd1
      go_wp2
      go_ret
      exact ⟨⟨none, 0, rfl, BsB.nil _ w1.heap.size _, fun _ => rfl, by simp, by omega, fun a h => by simp at h⟩, HX.out⟩
    · obtain ⟨k, rfl⟩ : ∃ k : Nat, n = (k : Int) := ⟨n.toNat, by omega⟩
      have hlen := hb.1
      by_cases hlt : m < k
      · have e1 : bytS k s = ([], 2) := by unfold bytS; rw [if_neg hw]; unfold ps; rw [if_pos (by simp; omega)]; unfold fl; rw [if_pos he]
        have e2 : bytA k s = [] := by unfold bytA; rw [if_neg hw]; unfold pa; rw [if_pos (by simp; omega)]
        rw [e1, e2]
        have HE : Hid (s.2 = 0) := he
        clear hd hb hnil hcan e1 e2 he hn hlen
        go_enter Try.func47, Try.ntmps47
        go_wp2_with fail
        refine (refFail_any 92 q m c ao s.2 2 w HD.out).mono ?_
        rintro r w1 ⟨rfl, hd1, hF⟩
        have HX : Hid (RdR w1 q L ([], 2) ∧ Fr (One q) w w1) := ⟨rr_failed HR.out HD.out HE.out (by decide) hd1 hF, hF⟩
        clear hF hd1
        go_wp2
        go_ret
        exact ⟨⟨none, 0, rfl, BsB.nil _ w1.heap.size _, fun _ => rfl, by simp, by omega, fun a h => by simp at h⟩, HX.out⟩
      · have hkm : k ≤ m := by omega
        have e1 : bytS k s = (s.1.drop k, 0) := by unfold bytS; rw [if_neg hw]; unfold ps; rw [if_neg (by simp; omega), he]; simp
        have e2 : bytA k s = s.1.take k := by unfold bytA; rw [if_neg hw]; unfold pa; rw [if_neg (by simp; omega)]; simp
        have e3 : (s.1.take k).length = k := by simp; omega
        rw [e1, e2, e3]
        have HT : Hid (∀ w1, Fr (fun _ => False) w w1 → RdR (w1.setCell ⟨q, 0, none⟩ (.slice (if c = k then ao else Option.map (fun x => x.add k) ao) (m - k) (c - k))) q L (s.1.drop k, 0) ∧ Fr (One q) w (w1.setCell ⟨q, 0, none⟩ (.slice (if c = k then ao else Option.map (fun x => x.add k) ao) (m - k) (c - k)))) :=
          fun w1 hf => rr_passed he hd hb hnc hc hm hnil hL hkm hf
        have hsrc : Bs (w.alloc (.cells #[] 5)) ao k (s.1.take k) := (hb.takeBs hL hkm).alloc _
        have hk8 : 0 + k ≤ 100000000 := by omega
        have ho := emptyB (w := w) (Nat.le_refl _)
        have h02 := (hd.fr (Fr.of_below ((Below.refl _ w).alloc (Nat.le_refl _) (.cells #[] 5))) (S := fun _ => False) id).c0
        have HBy : Hid (Bytes s.1) := Bytes.of_g hb.2.1
        have HNil : Hid (ao = none → c = 0) := hnil
        have hL0 : Hid (L ≤ w.heap.size) := hL
        clear hd hb hcan e1 e2 he hn hlen hL hnil hzs
        go_enter Try.func47, Try.ntmps47
        go_wp2_with (first
          | (at_builtin
             refine wpList_append_bs _ (by rfl) (.tmp 24) (.tmp 30) (by rfl) w.heap.size _ 0 0 [] (by rfl) ho ao k c (s.1.take k) (by rfl) hsrc HNil.out hk8 (by simp) ?_
             intro ao' c' w1 ho1 hg1
             have hbel : Below w.heap.size w w1 := ((Below.refl _ w).alloc (Nat.le_refl _) _).grown hg1 (by simp) (fun kk e => (ho.lt kk e).1)
             have hf1 : Fr (fun _ => False) w w1 := Fr.of_below hbel
             have hd1 := HD.out.fr hf1 id
             have g0 := hd1.c0
             have g1 := hd1.f 0
             have HT1 : Hid (c = k → RdR (w1.setCell ⟨q, 0, none⟩ (.slice ao (m - k) 0)) q L (s.1.drop k, 0) ∧ Fr (One q) w (w1.setCell ⟨q, 0, none⟩ (.slice ao (m - k) 0))) := fun e => by
               have := HT.out w1 hf1
               rw [if_pos e, e, Nat.sub_self] at this
               exact this
             have HT2 : Hid (¬ c = k → RdR (w1.setCell ⟨q, 0, none⟩ (.slice (Option.map (fun x => x.add k) ao) (m - k) (c - k))) q L (s.1.drop k, 0) ∧ Fr (One q) w (w1.setCell ⟨q, 0, none⟩ (.slice (Option.map (fun x => x.add k) ao) (m - k) (c - k)))) := fun e => by
               have := HT.out w1 hf1
               rw [if_neg e] at this
               exact this
             have HO1 : Hid (w1.ownsRow w.heap.size 5 1 (.slice ao' k c') k (bv (s.1.take k))) := by rw [Nat.zero_add, List.nil_append] at ho1; exact ho1
             have HBF : Hid (∀ v, Bs (w1.setCell ⟨q, 0, none⟩ v) ao' k (s.1.take k)) := fun v => by
               have hb9 := bs_of_owns HO1.out (HBy.out.take k)
               exact hb9.fr ((Fr.refl (One q) w1).set (p := ⟨q, 0, none⟩) v (fun _ => rfl)) (hb9.ne hd1 (by decide))
             clear ho1 hg1 hbel hf1 hd1))
        · go_ret
          exact ⟨⟨ao', c', rfl, HBF.out _, nil_cap HO1.out, cap_of_owns HO1.out, max_of_owns HO1.out, fun a h => (HO1.out.lt a.block (by rw [h]; rfl)).1⟩, HT1.out (by assumption)⟩
        · go_ret
          exact ⟨⟨ao', c', rfl, HBF.out _, nil_cap HO1.out, cap_of_owns HO1.out, max_of_owns HO1.out, fun a h => (HO1.out.lt a.block (by rw [h]; rfl)).1⟩, HT2.out (by assumption)⟩
  · have e1 : bytS n s = s := by rw [St.dead he hcan]; exact dead_bytS _ _ he
    have e2 : bytA n s = [] := by rw [St.dead he hcan]; exact dead_bytA _ _
    rw [e1, e2]
    clear hd hb hnil hcan e1 e2 hn hzs
    go_enter Try.func47, Try.ntmps47
    go_wp2
    go_ret
    exact ⟨⟨none, 0, rfl, BsB.nil _ w.heap.size _, fun _ => rfl, by simp, by omega, fun a h => by simp at h⟩, HR.out, Fr.refl _ _⟩
theorem refBytes_any (q L : Nat) (n : Int) (s : St) (w : World) (h : RdR w q L s) (hn : In64 n) :
    Calls Try.prog 47 #[.pointer (some ⟨q, 0, none⟩), .int .i64 n] w fun r w' => (∃ ao c, r = .returned (.slice ao (bytA n s).length c) ∧ Bs w' ao (bytA n s).length (bytA n s) ∧ (ao = none → c = 0)) ∧ RdR w' q L (bytS n s) ∧ Fr (One q) w w' := by
  refine (refBytes_full q L n s w h hn).mono ?_
  rintro r w' ⟨⟨ao, c, rfl, h1, h2, _⟩, h3⟩
  exact ⟨⟨ao, c, rfl, h1, h2⟩, h3⟩

/-- The reference's number is made from the highest byte down. -/
theorem le_down (zs : List Int) (j : Nat) (h : j < zs.length) : le (zs.drop j) = 256 * le (zs.drop (j + 1)) + g zs j := by
  rw [List.drop_eq_getElem_cons h, Lz.g_lt _ _ h]
  simp only [le]
  omega
theorem num_split (n : Int) (s : St) (hcan : s.2 = 0 ∨ s.1 = []) : ∃ s1, s1 = (if s.2 = 0 ∧ ¬ (1 ≤ n ∧ n ≤ 4) then ([], 1) else s) ∧ numA n s = le (bytA n s1) ∧ numS n s = bytS n s1 ∧ (bytA n s1).length ≤ 4 := by
  refine ⟨_, rfl, ?_⟩
  by_cases he : s.2 = 0
  · by_cases hw : 1 ≤ n ∧ n ≤ 4
    · rw [if_neg (fun h => h.2 hw)]
      refine ⟨?_, ?_, ?_⟩
      · unfold numA bytA; rw [if_pos hw, if_neg (by omega)]
      · unfold numS bytS; rw [if_pos hw, if_neg (by omega)]
      · unfold bytA; rw [if_neg (by omega)]; unfold pa; split <;> simp; omega
    · rw [if_pos ⟨he, hw⟩, dead_bytA, dead_bytS _ _ (by decide)]
      refine ⟨?_, ?_, by simp⟩
      · unfold numA; rw [if_neg hw]; rfl
      · unfold numS; rw [if_neg hw]; unfold fl; rw [if_pos he]
  · rw [if_neg (fun h => he h.1), St.dead he hcan]
    rw [dead_bytA, dead_bytS _ _ he, dead_numA, dead_numS _ _ he]
    exact ⟨rfl, rfl, by simp⟩

/-- From the first test on: the bytes are read, the number is made. -/
theorem RdR.can {w : World} {q L : Nat} {s : St} (h : RdR w q L s) : s.2 = 0 ∨ s.1 = [] := by
  obtain ⟨_, _, _, _, _, _, _, _, _, _, _, _, h⟩ := h; exact h
theorem RdR.hd {w : World} {q L : Nat} {s : St} (h : RdR w q L s) : ∃ ao n c, Hd 92 w q ao n c s.2 := by
  obtain ⟨ao, n, c, _, h, _⟩ := h; exact ⟨ao, n, c, h⟩

set_option maxRecDepth 100000 in
set_option maxHeartbeats 1000000 in
theorem refNum_any (q L : Nat) (n : Int) (s : St) (w : World) (h : RdR w q L s) (hn : In64 n) :
    Calls Try.prog 49 #[.pointer (some ⟨q, 0, none⟩), .int .i64 n] w fun r w' => r = .returned (.int .i64 (numA n s)) ∧ RdR w' q L (numS n s) ∧ Fr (One q) w w' := by
  have HR : Hid (RdR w q L s) := h
  obtain ⟨s1, hs1, e1, e2, hz4⟩ := num_split n s h.can
  rw [e1, e2]
  have hn2 : -9223372036854775808 ≤ n ∧ n ≤ 9223372036854775807 := hn
  obtain ⟨ao, m, c, hd⟩ := h.hd
  have h1 := hd.c1
  have HD : Hid (Hd 92 w q ao m c s.2) := hd
  have HN : Hid (In64 n) := hn
  have HS1 : Hid (s1 = (if s.2 = 0 ∧ ¬ (1 ≤ n ∧ n ≤ 4) then ([], 1) else s)) := hs1
  clear e1 e2 h hd hn hs1
  go_enter Try.func49, Try.ntmps49
  go_upto_region 1 with fail
  go_cut [20] from 8 to 19 (fun s20 wx => s20 = .bool (decide (s.2 = 0 ∧ ¬ (1 ≤ n ∧ n ≤ 4))) ∧ wx = w)
  case first =>
    by_cases he : s.2 = 0
    · rw [he] at h1
      by_cases ha : n < 1
      · have d1 : decide (n < 1) = true := decide_eq_true ha
        go_wp2_with fail
        go_meet
        case rel => exact ⟨by rw [decide_eq_true]; exact ⟨he, by omega⟩, rfl⟩
      · have d1 : decide (n < 1) = false := decide_eq_false ha
        by_cases hb : 4 < n
        · have d2 : decide (4 < n) = true := decide_eq_true hb
          go_wp2_with fail
          go_meet
          case rel => exact ⟨by rw [decide_eq_true]; exact ⟨he, by omega⟩, rfl⟩
        · have d2 : decide (4 < n) = false := decide_eq_false hb
          go_wp2_with fail
          go_meet
          case rel => exact ⟨by rw [decide_eq_false]; exact (fun h => h.2 (by omega)), rfl⟩
    · have d0 : (s.2 == 0) = false := beq_eq_false_iff_ne.2 he
      go_wp2_with fail
      go_meet
      case rel => exact ⟨by rw [decide_eq_false]; exact (fun h => he h.1), rfl⟩
  case rest =>
  obtain ⟨rfl, hwc⟩ := hcut
  obtain rfl := hwc.symm
  obtain ⟨bb, hbb⟩ : ∃ bb, bb = decide (s.2 = 0 ∧ ¬ (1 ≤ n ∧ n ≤ 4)) := ⟨_, rfl⟩
  rw [← hbb]
  have HBB : Hid (bb = decide (s.2 = 0 ∧ ¬ (1 ≤ n ∧ n ≤ 4))) := hbb
  clear hbb
  go_upto_if 20 with fail
  go_cut [] from 21 to 22 (fun wx => RdR wx q L s1 ∧ Fr (One q) w wx)
  case first =>
    cases bb
    rotate_left
    · have hbad := of_decide_eq_true HBB.out.symm
      have HBad : Hid (s.2 = 0 ∧ ¬ (1 ≤ n ∧ n ≤ 4)) := hbad
      clear hbad
      go_wp2_with fail
      refine (refFail_any 92 q m c ao s.2 1 w HD.out).mono ?_
      rintro r w1 ⟨rfl, hd1, hF⟩
      have HX : Hid (RdR w1 q L s1 ∧ Fr (One q) w w1) := by
        have e := HS1.out
        rw [if_pos HBad.out] at e
        rw [e]
        exact ⟨rr_failed HR.out HD.out HBad.out.1 (by decide) hd1 hF, hF⟩
      clear hF hd1
      go_wp2_with fail
      go_meet
      case rel => exact HX.out
    · have hbad := of_decide_eq_false HBB.out.symm
      have HX : Hid (RdR w q L s1 ∧ Fr (One q) w w) := by
        have e := HS1.out
        rw [if_neg hbad] at e
        rw [e]
        exact ⟨HR.out, Fr.refl _ _⟩
      clear hbad
      go_wp2_with fail
      go_meet
      case rel => exact HX.out
  case rest =>
  have HR2 : Hid (RdR wc q L s1) := hcut.1
  have HF2 : Hid (Fr (One q) w wc) := hcut.2
  clear hcut
  go_wp2_with fail
  refine (refBytes_any q L n s1 wc HR2.out HN.out).mono ?_
  rintro r w3 ⟨⟨ao3, c3, rfl, hb3, hn3⟩, hR3, hF3⟩
  have HR3 : Hid (RdR w3 q L (bytS n s1)) := hR3
  have HF3 : Hid (Fr (One q) w w3) := HF2.out.then hF3
  generalize hz : bytA n s1 = zs at *
  generalize hR : le zs = R
  have HL : Hid (le zs = R) := hR
  have HZ : Hid (bytA n s1 = zs) := hz
  have HBy : Hid (Bytes zs) := hb3.bytes
  obtain ⟨hlen, hby, hseg⟩ := hb3
  clear hlen hR hz hR3 hF3 hn3 hn2 h1
  go_wp2
  go_loopw [6, 7] (fun s6 s7 wr => ∃ j x : Nat, s6 = .int .i64 x ∧ s7 = .int .i64 ((j : Int) - 1) ∧ j ≤ zs.length ∧ (x : Int) = le (zs.drop j) ∧ wr = w3) (fun _ s7 _ => ((intOf s7) + 1).toNat)
  case atStart => exact ⟨zs.length, 0, rfl, rfl, by omega, by simp [le], rfl⟩
  case round =>
    obtain ⟨j, x, rfl, rfl, hj, hx, rfl⟩ := hrel
    have HX : Hid ((x : Int) = le (zs.drop j)) := hx
    by_cases hpos : 0 < j
    · rcases hseg with h0 | ⟨b, off, rfl, hbl, hsg⟩
      · omega
      obtain ⟨i, rfl⟩ : ∃ i, j = i + 1 := ⟨j - 1, by omega⟩
      have hc1 := hsg i (by omega)
      have hcb := hby i
      have hbd : (x : Int) < 16777216 := by
        have h9 := (le_bound (HBy.out.drop (i + 1))).2
        have h8 : (256 : Int) ^ (zs.drop (i + 1)).length ≤ 256 ^ 3 := pow256 (by simp; omega)
        have := HX.out
        omega
      have HS : Hid (le (zs.drop i) = 256 * (x : Int) + g zs i) := by
        have := le_down zs i (by omega)
        rw [← HX.out] at this
        exact this
      generalize hq : g zs i = y at *
      obtain ⟨yn, rfl⟩ : ∃ yn : Nat, y = (yn : Int) := ⟨y.toNat, by omega⟩
      have ei : ((i + 1 : Nat) : Int) - 1 = (i : Int) := by omega
      clear hx hsg hby hq
      rw [ei]
      go_wp2
      go_roundw
      case rel => exact ⟨i, 256 * x + yn, by go_num, by go_num, by omega, by rw [HS.out]; first | rfl | simp, trivial⟩
      case measure => simp [intOf]
    · obtain rfl : j = 0 := by omega
      have hxR : (x : Int) = R := by
        have := HX.out
        rw [List.drop_zero, HL.out] at this
        exact this
      have ei : ((0 : Nat) : Int) - 1 = -1 := rfl
      rw [ei]
      clear hx
      go_wp2
      go_ret
      exact ⟨by rw [HZ.out, HL.out, ← hxR]; rfl, HR3.out, HF3.out⟩


end Go.Proofs.Ytgmkldfjbjnkcaa

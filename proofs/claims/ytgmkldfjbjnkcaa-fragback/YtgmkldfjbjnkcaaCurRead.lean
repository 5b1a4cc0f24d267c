/- The walks of the program's reader: Read, pass, Num, Bytes, Text, End. -/
import Derived.Test.YtgmkldfjbjnkcaaCurLeaf
namespace Go.Proofs.Ytgmkldfjbjnkcaa
set_option linter.unusedVariables false
open Go.RowKit Go.Maps
open Lz (g)
open Cur

theorem BsB.nil (w : World) (L : Nat) (ao : Option Addr) : BsB w L ao 0 [] := ⟨rfl, fun i => by simp [g], .inl rfl⟩
theorem rd_failed {w w' : World} {p L n c : Nat} {ao : Option Addr} {k : Int} {s : St} (h : RdP w p L s) (hd : Hd 104 w p ao n c s.2) (hk : k ≠ 0) (hf : Failed 104 w p ao n c s.2 k w') : RdP w' p L (fl k s) := by
  obtain ⟨_, _, _, _, _, _, _, _, _, hL, _⟩ := id h
  obtain ⟨hfr, ⟨he, hx⟩ | ⟨he, rfl⟩⟩ := hf
  · unfold fl; rw [if_pos he]
    exact ⟨none, 0, 0, hx, BsB.nil _ _ _, by omega, by omega, by omega, fun _ => rfl, Nat.le_trans hL hfr.size, .inr rfl⟩
  · unfold fl; rw [if_neg he]; exact h
/-- Bytes that are told: where they lie, and how the reader stands. -/
def Passed (w w' : World) (p L : Nat) (s' : St) (zs : List Int) (r : Ending) : Prop :=
  ∃ ao c, r = .returned (.slice ao zs.length c) ∧ BsB w' L ao zs.length zs ∧ zs.length ≤ c ∧ c ≤ 9223372036854775807 ∧ (ao = none → c = 0) ∧ RdP w' p L s' ∧ Fr (One p) w w'
theorem pa_length (k : Nat) (s : St) (h : s.1.length < k) : (pa k s) = [] := by unfold pa; rw [if_pos h]

theorem passed_of {w : World} {p L k n c : Nat} {ao : Option Addr} {s : St} (h : RdP w p L s) (hd : Hd 104 w p ao n c s.2) (hb : BsB w L ao n s.1) (hnc : n ≤ c) (hc : c ≤ 9223372036854775807) (hn : n ≤ 1000000) (hnil : ao = none → c = 0) (hL : L ≤ w.heap.size) (hcan : s.2 = 0 ∨ s.1 = []) (hk : k ≤ n) :
    Passed w (w.setCell ⟨p, 0, none⟩ (.slice (if c = k then ao else Option.map (fun x => x.add k) ao) (n - k) (c - k))) p L (ps k s) (pa k s) (.returned (.slice ao k c)) := by
  have hfr : Fr (One p) w (w.setCell ⟨p, 0, none⟩ (.slice (if c = k then ao else Option.map (fun x => x.add k) ao) (n - k) (c - k))) := (Fr.refl (One p) w).set (p := ⟨p, 0, none⟩) _ (fun _ => rfl)
  have hlen := hb.1
  have e1 : ps k s = (s.1.drop k, s.2) := by unfold ps; rw [if_neg (by omega)]
  have e2 : pa k s = s.1.take k := by unfold pa; rw [if_neg (by omega)]
  have e3 : (s.1.take k).length = k := by simp; omega
  have hb1 := hb.one hL hfr hd (by decide)
  rw [e1, e2]
  refine ⟨ao, c, by rw [e3], ?_, by omega, hc, hnil, ⟨_, n - k, c - k, hd.set0 _ _ _, hb1.rest k hk hnc, by omega, by omega, by omega, ?_, Nat.le_trans hL hfr.size, ?_⟩, hfr⟩
  · rw [e3]
    refine ⟨e3, bytes_take hb1.2.1 k, ?_⟩
    by_cases e : k = 0
    · exact .inl e
    · rcases hb1.2.2 with h0 | ⟨b, off, h1, h2, h3⟩
      · omega
      · refine .inr ⟨b, off, h1, h2, ?_⟩
        have := h3.cut 0 k
        simpa using this
  · intro e
    by_cases e4 : c = k
    · omega
    · rw [if_neg e4] at e
      cases ao with
      | none => have := hnil rfl; omega
      | some a => simp at e
  · rcases hcan with hc0 | hc0
    · exact .inl hc0
    · exact .inr (by simp [hc0])

set_option maxRecDepth 100000 in
theorem pass_any (p L k : Nat) (s : St) (w : World) (h : RdP w p L s) (hk : k ≤ 9223372036854775807) :
    Calls Try.prog 56 #[.pointer (some ⟨p, 0, none⟩), .int .i64 k] w fun r w' => Passed w w' p L (ps k s) (pa k s) r := by
  have hR := id h
  obtain ⟨ao, n, c, hd, hb, hnc, hc, hn, hnil, hL, hcan⟩ := h
  have h0 := hd.c0
  have f0 := hd.f 0
  have HD : Hid (Hd 104 w p ao n c s.2) := hd
  have HR : Hid (RdP w p L s) := hR
  by_cases hlt : n < k
  · have hl : s.1.length < k := by rw [hb.1]; exact hlt
    have e1 : ps k s = fl 2 s := by unfold ps; rw [if_pos hl]
    have e2 : pa k s = [] := by unfold pa; rw [if_pos hl]
    rw [e1, e2]
    clear e1 e2 hl hb hcan hnil hd hR
    go_enter Try.func56, Try.ntmps56
    go_wp2_with fail
    refine (fail_any 104 p n c ao s.2 2 w HD.out).mono ?_
    rintro r wx ⟨rfl, hF⟩
    have HX : Hid (RdP wx p L (fl 2 s)) := rd_failed HR.out HD.out (by decide) hF
    have HF : Hid (Fr (One p) w wx) := hF.1
    clear hF
    go_wp2
    go_ret
    exact ⟨none, 0, rfl, BsB.nil _ _ _, by simp, by omega, fun _ => rfl, HX.out, HF.out⟩
  · have H1 : Hid (c = k → Passed w (w.setCell ⟨p, 0, none⟩ (.slice ao (n - k) 0)) p L (ps k s) (pa k s) (.returned (.slice ao k k))) := fun e => by
      have := passed_of hR hd hb hnc hc hn hnil hL hcan (by omega : k ≤ n)
      rw [if_pos e] at this
      subst e
      rw [Nat.sub_self] at this
      exact this
    have H2 : Hid (¬ c = k → Passed w (w.setCell ⟨p, 0, none⟩ (.slice (Option.map (fun x => x.add k) ao) (n - k) (c - k))) p L (ps k s) (pa k s) (.returned (.slice ao k c))) := fun e => by
      have := passed_of hR hd hb hnc hc hn hnil hL hcan (by omega : k ≤ n)
      rw [if_neg e] at this
      exact this
    clear hb hcan hnil hd hR
    go_enter Try.func56, Try.ntmps56
    go_wp2
    · go_ret
      exact H1.out (by assumption)
    · go_ret
      exact H2.out (by assumption)

/-- Bits that do not meet. -/
theorem ofInt_i64 (a : Nat) (ha : a < 18446744073709551616) : (BitVec.ofInt 64 (a : Int)).toNat = a := by
  rw [BitVec.toNat_ofInt]; omega
theorem or_add {x c m : Nat} (hx : x < 2 ^ m) (hc : c ≤ 255) (hm : m ≤ 24) : bits .or .i64 (x : Int) ((c * 2 ^ m : Nat) : Int) = ((x + c * 2 ^ m : Nat) : Int) := by
  have h2 : 2 ^ m ≤ 16777216 := by
    have := Nat.pow_le_pow_right (n := 2) (by omega) hm
    omega
  have h3 : c * 2 ^ m ≤ 255 * 16777216 := Nat.mul_le_mul hc h2
  have e : x ||| c * 2 ^ m = x + c * 2 ^ m := by
    have := Nat.shiftLeft_add_eq_or_of_lt hx c
    rw [Nat.shiftLeft_eq, Nat.or_comm] at this
    omega
  show IntKind.i64.wrap ((BitVec.ofInt 64 (x : Int) ||| BitVec.ofInt 64 ((c * 2 ^ m : Nat) : Int)).toNat : Int) = _
  rw [BitVec.toNat_or, ofInt_i64 x (by omega), ofInt_i64 _ (by omega), e]
  rw [IntKind.wrap_i64]; omega
theorem pow256 {m n : Nat} (h : m ≤ n) : (256 : Int) ^ m ≤ 256 ^ n := by
  have h1 := Nat.pow_le_pow_right (n := 256) (by omega) h
  have e : ∀ k : Nat, ((256 ^ k : Nat) : Int) = (256 : Int) ^ k := fun k => by rw [Int.natCast_pow]; rfl
  rw [← e, ← e]
  exact Int.ofNat_le.2 h1
theorem le_append (xs ys : List Int) : le (xs ++ ys) = le xs + 256 ^ xs.length * le ys := by
  induction xs with
  | nil => simp [le]
  | cons x xs ih =>
    simp only [List.cons_append, le, ih, List.length_cons, Int.pow_succ, Int.mul_add]
    rw [Int.mul_comm (256 ^ xs.length) 256, Int.mul_assoc, Int.add_assoc]
theorem le_bound {zs : List Int} (h : Bytes zs) : 0 ≤ le zs ∧ le zs < 256 ^ zs.length := by
  induction zs with
  | nil => simp [le]
  | cons x xs ih =>
    have hx := h x (by simp)
    have := ih (fun y hy => h y (by simp [hy]))
    simp only [le, List.length_cons, Int.pow_succ]
    omega
theorem le_take_lt {zs : List Int} (h : Bytes zs) (i : Nat) : le (zs.take i) < 256 ^ i := by
  have h1 := (le_bound (h.take i)).2
  refine Int.lt_of_lt_of_le h1 ?_
  exact pow256 (by simp; omega)
theorem le_next (zs : List Int) (i x y : Nat) (hi : i < zs.length) (hx : (x : Int) = le (zs.take i)) (hy : g zs i = (y : Int)) (m : Nat) (hm : m = 256 ^ i) : ((x + y * m : Nat) : Int) = le (zs.take (i + 1)) := by
  rw [List.take_succ_eq_append_getElem hi, le_append, ← hx, ← Lz.g_lt _ _ hi, hy]
  simp only [le, Int.mul_zero, Int.add_zero]
  rw [List.length_take, Nat.min_eq_left (by omega), hm]
  have : ((y * 256 ^ i : Nat) : Int) = 256 ^ i * (y : Int) := by rw [Int.natCast_mul, Int.natCast_pow, Int.mul_comm]; rfl
  rw [Int.natCast_add, this]

set_option maxRecDepth 100000 in
theorem Num_any (p L : Nat) (n : Int) (s : St) (w : World) (h : RdP w p L s) (hn : -9223372036854775808 ≤ n ∧ n ≤ 9223372036854775807) :
    Calls Try.prog 43 #[.pointer (some ⟨p, 0, none⟩), .int .i64 n] w fun r w' => r = .returned (.int .i64 (numA n s)) ∧ RdP w' p L (numS n s) ∧ Fr (One p) w w' := by
  have HR : Hid (RdP w p L s) := h
  by_cases hw : 1 ≤ n ∧ n ≤ 4
  · obtain ⟨k, rfl⟩ : ∃ k : Nat, n = (k : Int) := ⟨n.toNat, by omega⟩
    have e1 : numS k s = ps k s := by unfold numS; rw [if_pos hw]; simp
    have e2 : numA k s = le (pa k s) := by unfold numA; rw [if_pos hw]; simp
    rw [e1, e2]
    have hd : decide (1 ≤ (k : Int) ∧ (k : Int) ≤ 4) = true := decide_eq_true hw
    clear e1 e2 h hn
    go_enter Try.func43, Try.ntmps43
    go_wp2_with fail
    refine (isWidth_any k w).mono ?_
    rintro r wx ⟨rfl, rfl⟩
    rw [hd]
    go_wp2_with fail
    refine (pass_any p L k s wx HR.out (by omega)).mono ?_
    rintro r w1 ⟨ao, c, rfl, hb, hc, hc2, hnil, hR1, hF1⟩
    generalize hzs : pa k s = zs at *
    have hz4 : zs.length ≤ 4 := by rw [← hzs]; unfold pa; split <;> simp; omega
    have HX : Hid (le zs = le zs) := rfl
    generalize hL : le zs = R
    have HL : Hid (le zs = R) := hL
    have HZ : Hid (pa k s = zs) := hzs
    clear hL hzs hd hw HX
    have HR1 : Hid (RdP w1 p L (ps k s)) := hR1
    have HF1 : Hid (Fr (One p) wx w1) := hF1
    clear hR1 hF1 hnil HR
    obtain ⟨hlen, hby, hseg⟩ := hb
    clear hlen
    have HB4 : Hid (Bytes zs) := Bytes.of_g hby
    go_wp2
    go_loopw [5, 19] (fun s5 s19 wr => ∃ i x : Nat, s5 = .int .i64 x ∧ s19 = .int .i64 i ∧ i ≤ zs.length ∧ (x : Int) = le (zs.take i) ∧ wr = w1) (fun _ s19 _ => zs.length - (intOf s19).toNat)
    case atStart => exact ⟨0, 0, rfl, rfl, by omega, by simp [le], rfl⟩
    case round =>
      obtain ⟨i, x, rfl, rfl, hi, hx, rfl⟩ := hrel
      have HX : Hid ((x : Int) = le (zs.take i)) := hx
      by_cases hlt : i < zs.length
      · rcases hseg with h0 | ⟨b, off, rfl, hbl, hsg⟩
        · omega
        have hc1 := hsg i (by omega)
        have hcb := hby i
        generalize hq : g zs i = q at hc1 hcb
        obtain ⟨y, rfl⟩ : ∃ y : Nat, q = (y : Int) := ⟨q.toNat, by omega⟩
        clear hx hsg hby
        have hB4 := HB4.out
        obtain rfl | rfl | rfl | rfl : i = 0 ∨ i = 1 ∨ i = 2 ∨ i = 3 := by omega
        · have e3 : bits .or .i64 (x : Int) (y : Int) = ((x + y * 1 : Nat) : Int) := by
            have := or_add (x := x) (c := y) (m := 0) (by have := le_take_lt hB4 0; have := HX.out; omega) (by omega) (by omega)
            simpa using this
          have H9 : Hid (((x + y * 1 : Nat) : Int) = le (zs.take (0 + 1))) := le_next zs 0 x y hlt HX.out hq 1 rfl
          rw [Nat.add_zero] at hc1
          rw [show ((0 : Nat) : Int) = 0 from rfl]
          generalize x + y * 1 = z at *
          go_wp2
          go_roundw
          case rel => exact ⟨0 + 1, z, rfl, by go_num, by omega, H9.out, trivial⟩
          case measure => simp [intOf]; omega
        · have e3 : bits .or .i64 (x : Int) ((y : Int) * 256) = ((x + y * 256 : Nat) : Int) := by
            have := or_add (x := x) (c := y) (m := 8) (by have := le_take_lt hB4 1; have := HX.out; omega) (by omega) (by omega)
            simpa using this
          have H9 : Hid (((x + y * 256 : Nat) : Int) = le (zs.take (1 + 1))) := le_next zs 1 x y hlt HX.out hq 256 rfl
          generalize x + y * 256 = z at *
          go_wp2
          go_roundw
          case rel => exact ⟨1 + 1, z, rfl, by go_num, by omega, H9.out, trivial⟩
          case measure => simp [intOf]; omega
        · have e3 : bits .or .i64 (x : Int) ((y : Int) * 65536) = ((x + y * 65536 : Nat) : Int) := by
            have := or_add (x := x) (c := y) (m := 16) (by have := le_take_lt hB4 2; have := HX.out; omega) (by omega) (by omega)
            simpa using this
          have H9 : Hid (((x + y * 65536 : Nat) : Int) = le (zs.take (2 + 1))) := le_next zs 2 x y hlt HX.out hq 65536 rfl
          generalize x + y * 65536 = z at *
          go_wp2
          go_roundw
          case rel => exact ⟨2 + 1, z, rfl, by go_num, by omega, H9.out, trivial⟩
          case measure => simp [intOf]; omega
        · have e3 : bits .or .i64 (x : Int) ((y : Int) * 16777216) = ((x + y * 16777216 : Nat) : Int) := by
            have := or_add (x := x) (c := y) (m := 24) (by have := le_take_lt hB4 3; have := HX.out; omega) (by omega) (by omega)
            simpa using this
          have H9 : Hid (((x + y * 16777216 : Nat) : Int) = le (zs.take (3 + 1))) := le_next zs 3 x y hlt HX.out hq 16777216 rfl
          generalize x + y * 16777216 = z at *
          go_wp2
          go_roundw
          case rel => exact ⟨3 + 1, z, rfl, by go_num, by omega, H9.out, trivial⟩
          case measure => simp [intOf]; omega
      · obtain rfl : i = zs.length := by omega
        have hxR : (x : Int) = R := by
          have := HX.out
          rw [List.take_length] at this
          rw [this]; exact HL.out
        clear hx
        go_wp2
        go_ret
        exact ⟨by rw [HZ.out, HL.out, ← hxR]; rfl, HR1.out, HF1.out⟩
  · have e1 : numS n s = fl 1 s := by unfold numS; rw [if_neg hw]
    have e2 : numA n s = 0 := by unfold numA; rw [if_neg hw]
    rw [e1, e2]
    have hd : decide (1 ≤ n ∧ n ≤ 4) = false := decide_eq_false hw
    obtain ⟨ao, m, c, hx, _⟩ := id h
    have HD : Hid (Hd 104 w p ao m c s.2) := hx
    clear e1 e2 h hn hx
    go_enter Try.func43, Try.ntmps43
    go_wp2_with fail
    refine (isWidth_any n w).mono ?_
    rintro r wx ⟨rfl, rfl⟩
    rw [hd]
    go_wp2_with fail
    refine (fail_any 104 p m c ao s.2 1 wx HD.out).mono ?_
    rintro r w1 ⟨rfl, hF⟩
    have HX : Hid (RdP w1 p L (fl 1 s)) := rd_failed HR.out HD.out (by decide) hF
    have HF : Hid (Fr (One p) wx w1) := hF.1
    clear hF
    go_wp2
    go_ret
    exact ⟨rfl, HX.out, HF.out⟩

/-- What a call leaves: the reader stands anew, nothing else has turned. -/
def Told (w w' : World) (p L : Nat) (s' : St) : Prop := RdP w' p L s' ∧ Fr (One p) w w'
theorem One.old {w : World} {p k : Nat} (h : One p k) : k = p := h
theorem told_copy {w w1 w2 : World} {p L : Nat} {s' : St} (h : RdP w1 p L s') (hf : Fr (One p) w w1) (hb : Below w1.heap.size w1 w2) : RdP w2 p L s' ∧ Fr (One p) w w2 :=
  ⟨h.below hb, hf.then (Fr.of_below hb)⟩
theorem pa_le (k : Nat) (s : St) : (pa k s).length ≤ s.1.length := by unfold pa; split <;> simp; omega
theorem RdP.small {w : World} {p L : Nat} {s : St} (h : RdP w p L s) : s.1.length ≤ 1000000 := by
  obtain ⟨ao, n, c, _, h2, _, _, h5, _⟩ := h
  rw [h2.1]; exact h5

set_option maxRecDepth 100000 in
theorem Bytes_full (p L : Nat) (n : Int) (s : St) (w : World) (h : RdP w p L s) (hn : -9223372036854775808 ≤ n ∧ n ≤ 9223372036854775807) :
    Calls Try.prog 44 #[.pointer (some ⟨p, 0, none⟩), .int .i64 n] w fun r w' => (∃ ao c, r = .returned (.slice ao (bytA n s).length c) ∧ Bs w' ao (bytA n s).length (bytA n s) ∧ (ao = none → c = 0) ∧ (bytA n s).length ≤ c ∧ c ≤ 9223372036854775807 ∧ (∀ a, ao = some a → w.heap.size ≤ a.block)) ∧ RdP w' p L (bytS n s) ∧ Fr (One p) w w' := by
  have HR : Hid (RdP w p L s) := h
  by_cases hw : n < 0
  · have e1 : bytS n s = fl 1 s := by unfold bytS; rw [if_pos hw]
    have e2 : bytA n s = [] := by unfold bytA; rw [if_pos hw]
    rw [e1, e2]
    obtain ⟨ao, m, c, hx, _⟩ := id h
    have HD : Hid (Hd 104 w p ao m c s.2) := hx
    clear e1 e2 h hn hx
    go_enter Try.func44, Try.ntmps44
    go_wp2_with fail
    refine (fail_any 104 p m c ao s.2 1 w HD.out).mono ?_
    rintro r w1 ⟨rfl, hF⟩
    have HX : Hid (RdP w1 p L (fl 1 s)) := rd_failed HR.out HD.out (by decide) hF
    have HF : Hid (Fr (One p) w w1) := hF.1
    clear hF
    go_wp2
    go_ret
    exact ⟨⟨none, 0, rfl, (BsB.nil _ w1.heap.size _), fun _ => rfl, by simp, by omega, fun a h => by simp at h⟩, HX.out, HF.out⟩
  · obtain ⟨k, rfl⟩ : ∃ k : Nat, n = (k : Int) := ⟨n.toNat, by omega⟩
    have e1 : bytS k s = ps k s := by unfold bytS; rw [if_neg hw]; simp
    have e2 : bytA k s = pa k s := by unfold bytA; rw [if_neg hw]; simp
    rw [e1, e2]
    clear e1 e2 h
    have HS : Hid ((pa k s).length ≤ 1000000) := Nat.le_trans (pa_le k s) HR.out.small
    go_enter Try.func44, Try.ntmps44
    go_wp2_with fail
    refine (pass_any p L k s w HR.out (by omega)).mono ?_
    rintro r w1 ⟨ao, c, rfl, hb, hc, hc2, hnil, hR1, hF1⟩
    obtain ⟨_, _, _, _, _, _, _, _, _, hL1, _⟩ := id hR1
    have HB : Hid (Bs w1 ao (pa k s).length (pa k s)) := hb.bs hL1
    have HR1 : Hid (RdP w1 p L (ps k s)) := hR1
    have HF1 : Hid (Fr (One p) w w1) := hF1
    have HN : Hid (ao = none → c = 0) := hnil
    clear hb hR1 hF1 hnil hL1
    go_wp2_with fail
    refine (CloneNew_any (pa k s).length c ao (pa k s) w1 HB.out hc HN.out (by have := HS.out; omega)).mono ?_
    rintro r w2 ⟨ao', c', rfl, hN'⟩
    have HNw : Hid (New w1 w2 ao' (pa k s).length c' (pa k s)) := hN'
    have HT : Hid (RdP w2 p L (ps k s) ∧ Fr (One p) w w2) := told_copy HR1.out HF1.out hN'.bel
    clear hN'
    go_wp2
    go_ret
    exact ⟨⟨ao', c', rfl, HNw.out.bs, HNw.out.nil, HNw.out.cap, HNw.out.max, fun a h => Nat.le_trans HF1.out.size (HNw.out.own a h).1⟩, HT.out⟩
theorem Bytes_any (p L : Nat) (n : Int) (s : St) (w : World) (h : RdP w p L s) (hn : -9223372036854775808 ≤ n ∧ n ≤ 9223372036854775807) :
    Calls Try.prog 44 #[.pointer (some ⟨p, 0, none⟩), .int .i64 n] w fun r w' => (∃ ao c, r = .returned (.slice ao (bytA n s).length c) ∧ Bs w' ao (bytA n s).length (bytA n s) ∧ (ao = none → c = 0)) ∧ RdP w' p L (bytS n s) ∧ Fr (One p) w w' := by
  refine (Bytes_full p L n s w h hn).mono ?_
  rintro r w' ⟨⟨ao, c, rfl, h1, h2, _⟩, h3⟩
  exact ⟨⟨ao, c, rfl, h1, h2⟩, h3⟩

theorem numA_bound (n : Int) (s : St) (h : Bytes s.1) : 0 ≤ numA n s ∧ numA n s < 4294967296 := by
  unfold numA
  split
  · next hw =>
    have hb : Bytes (pa n.toNat s) := by unfold pa; split; exact Bytes.nil; exact h.take _
    have := le_bound hb
    have hl : (pa n.toNat s).length ≤ 4 := by unfold pa; split <;> simp; omega
    have h4 : (256 : Int) ^ (pa n.toNat s).length ≤ 256 ^ 4 := pow256 hl
    omega
  · omega
theorem RdP.bytes {w : World} {p L : Nat} {s : St} (h : RdP w p L s) : Bytes s.1 := by
  obtain ⟨ao, n, c, _, h2, _⟩ := h
  exact Bytes.of_g h2.2.1



set_option maxRecDepth 100000 in
theorem Read_any (n c : Nat) (ao : Option Addr) (zs : List Int) (w : World) (hb : Bs w ao n zs) (hc : n ≤ c) (hnil : ao = none → c = 0) (hn : n ≤ 1000000) :
    Calls Try.prog 42 #[.slice ao n c] w fun r w' => ∃ p, r = .returned (.pointer (some ⟨p, 0, none⟩)) ∧ w.heap.size ≤ p ∧ RdP w' p w'.heap.size (zs, 0) ∧ Below w.heap.size w w' := by
  have HB : Hid (Bs w ao n zs) := hb
  have hlen := hb.1
  clear hb
  go_enter Try.func42, Try.ntmps42
  go_wp2_with fail
  refine (Clone_any n c ao zs w HB.out hc hnil (by omega)).mono ?_
  rintro r w1 ⟨ao', c', rfl, hb', hc', hc2, hnil', hbel⟩
  have HB' : Hid (Bs w1 ao' zs.length zs) := hb'
  have HN' : Hid (ao' = none → c' = 0) := hnil'
  have HW : Hid (Below w.heap.size w w1) := hbel
  clear hb' hbel hnil' hnil
  go_wp2
  go_ret
  subst hlen
  have hb2 := HB'.out.alloc (.cells #[.slice ao' zs.length c', .int .i64 0] 104)
  exact ⟨w1.heap.size, rfl, HW.out.size, ⟨ao', zs.length, c', Hd.new _ _ _ _ _ _, hb2.toB, hc', hc2, hn, HN'.out, Nat.le_refl _, .inl rfl⟩, HW.out.alloc HW.out.size _⟩
end Go.Proofs.Ytgmkldfjbjnkcaa

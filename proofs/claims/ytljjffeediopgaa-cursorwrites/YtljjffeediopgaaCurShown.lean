/- The walk of 'shown': the document's examples; and the law CursorWide's. -/
import Derived.Test.YtljjffeediopgaaCurWrite
namespace Go.Proofs.Ytljjffeediopgaa
set_option linter.unusedVariables false
open Go.RowKit Go.Maps
open Lz (g)
open Cur

/-- A writer that is new. -/
theorem WrP.new (w : World) (B : Nat) : WrP (w.alloc (.cells #[.slice none 0 0, .int .i64 0] 45)) w.heap.size B (.slice none 0 0) ([], 0) :=
  ⟨none, 0, 0, rfl, Hd.new _ _ _ _ _ _, World.ownsRow_nil _ _ _ _, Bytes.nil, .inl rfl⟩
theorem Fr.two_below {w w' : World} {p B : Nat} {v : Value} (h : Fr (Two p v) w w') (hB : B ≤ w.heap.size) (hp : B ≤ p) (hv : ∀ k, v.ownBlock = some k → B ≤ k) : Below B w w' :=
  h.below B hB (fun k hk => by rcases hk with hk | hk; (have : k = p := hk; omega); exact hv k hk)
theorem Fr.one_below {w w' : World} {p B : Nat} (h : Fr (One p) w w') (hB : B ≤ w.heap.size) (hp : B ≤ p) : Below B w w' :=
  h.below B hB (fun k hk => by have : k = p := hk; omega)
theorem WrP.base {w : World} {p B : Nat} {v : Value} {s : St} (h : WrP w p B v s) : ∀ k, v.ownBlock = some k → B ≤ k := by
  obtain ⟨ao, n, c, rfl, _, h3, _⟩ := h
  intro k hk
  exact (h3.lt k hk).1
theorem WrP.lt {w : World} {p B : Nat} {v : Value} {s : St} (h : WrP w p B v s) : p < w.heap.size := by
  obtain ⟨ao, n, c, rfl, h2, _⟩ := h; exact h2.lt

set_option maxRecDepth 100000 in
theorem shown_any (w : World) : Calls Try.prog 9 #[] w fun e w' => e = .returned (.bool true) ∧ Below w.heap.size w w' := by
  have a1 : wNum 258 2 ([], 0) = ([2, 1], 0) := by decide
  have a2 : wTxt (sb ⟨#[97, 98]⟩) ([2, 1], 0) = ([2, 1, 2, 97, 98], 0) := by decide
  have b1 : numA 2 ([2, 1, 2, 97, 98], 0) = 258 := by decide
  have b2 : numS 2 ([2, 1, 2, 97, 98], 0) = ([2, 97, 98], 0) := by decide
  have b3 : txtA ([2, 97, 98], 0) = [97, 98] := by decide
  have b4 : txtS ([2, 97, 98], 0) = ([], 0) := by decide
  have b5 : endS ([], 0) = ([], 0) := by decide
  have H1 : Hid (wNum 258 2 ([], 0) = ([2, 1], 0)) := a1
  have H2 : Hid (wTxt (sb ⟨#[97, 98]⟩) ([2, 1], 0) = ([2, 1, 2, 97, 98], 0)) := a2
  have H3 : Hid (numA 2 ([2, 1, 2, 97, 98], 0) = 258 ∧ numS 2 ([2, 1, 2, 97, 98], 0) = ([2, 97, 98], 0)) := ⟨b1, b2⟩
  have H4 : Hid (txtA ([2, 97, 98], 0) = [97, 98] ∧ txtS ([2, 97, 98], 0) = ([], 0)) := ⟨b3, b4⟩
  have H5 : Hid (endS ([], 0) = ([], 0)) := b5
  clear a1 a2 b1 b2 b3 b4 b5
  go_enter Try.func9, Try.ntmps9
  go_wp2_with fail
  refine (wNum_any w.heap.size w.heap.size (.slice none 0 0) 258 2 ([], 0) _ (WrP.new w _) (by simp) (by simp) (by omega) (by omega)).mono ?_
  rintro r w1 ⟨rfl, v1, hW1, hF1, hL1⟩
  rw [H1.out] at hW1
  have HB1 : Hid (Below w.heap.size w w1) := ((Below.refl _ w).alloc (Nat.le_refl _) _).trans (hF1.two_below (by simp) (by omega) (fun k hk => by simp [Value.ownBlock] at hk))
  have HW1 : Hid (WrP w1 w.heap.size w.heap.size v1 ([2, 1], 0)) := hW1
  clear hW1 hF1 hL1
  go_wp2_with fail
  refine (wText_any w.heap.size w.heap.size v1 ⟨#[97, 98]⟩ ([2, 1], 0) w1 HW1.out HB1.out.size (by simp) (by decide)).mono ?_
  rintro r w2 ⟨rfl, v2, hW2, hF2, hL2⟩
  rw [H2.out] at hW2
  have HB2 : Hid (Below w.heap.size w w2) := HB1.out.trans (hF2.two_below HB1.out.size (by omega) HW1.out.base)
  have HW2 : Hid (WrP w2 w.heap.size w.heap.size v2 ([2, 1, 2, 97, 98], 0)) := hW2
  clear hW2 hF2 hL2
  go_wp2_with fail
  refine (Done_any w.heap.size w.heap.size v2 ([2, 1, 2, 97, 98], 0) w2 HW2.out (by simp)).mono ?_
  rintro r w3 ⟨ao, c, rfl, hb, hc, _, hnil, hbel⟩
  have HB3 : Hid (Below w.heap.size w w3) := HB2.out.trans (hbel.mono HB2.out.size)
  have HS3 : Hid (Bs w3 ao 5 [2, 1, 2, 97, 98]) := hb
  clear hb hbel
  go_wp2_with fail
  refine (Read_any 5 c ao [2, 1, 2, 97, 98] w3 HS3.out hc hnil (by omega)).mono ?_
  rintro r w4 ⟨p, rfl, hp, hR, hbel⟩
  have HB4 : Hid (Below w.heap.size w w4) := HB3.out.trans (hbel.mono HB3.out.size)
  have HS4 : Hid (Bs w4 ao 5 [2, 1, 2, 97, 98]) := HS3.out.below hbel
  have HP : Hid (w.heap.size ≤ p) := Nat.le_trans HB3.out.size hp
  have HR4 : Hid (RdP w4 p w4.heap.size ([2, 1, 2, 97, 98], 0)) := hR
  clear hbel hR hp
  generalize hL4 : w4.heap.size = L4 at HR4
  have HL4 : Hid (w4.heap.size = L4) := hL4
  clear hL4
  go_wp2_with fail
  refine (Num_any p L4 2 ([2, 1, 2, 97, 98], 0) w4 HR4.out (by omega)).mono ?_
  rintro r w5 ⟨rfl, hR5, hF5⟩
  rw [H3.out.1]
  rw [H3.out.2] at hR5
  have HB5 : Hid (Below w.heap.size w w5) := HB4.out.trans (hF5.one_below HB4.out.size HP.out)
  have HR5 : Hid (RdP w5 p L4 ([2, 97, 98], 0)) := hR5
  have HF5 : Hid (Fr (One p) w4 w5) := hF5
  clear hR5 hF5
  go_wp2_with fail
  refine (Text_any p L4 ([2, 97, 98], 0) w5 HR5.out).mono ?_
  rintro r w6 ⟨rfl, hR6, hF6⟩
  rw [H4.out.1]
  rw [H4.out.2] at hR6
  have HB6 : Hid (Below w.heap.size w w6) := HB5.out.trans (hF6.one_below HB5.out.size HP.out)
  have HR6 : Hid (RdP w6 p L4 ([], 0)) := hR6
  have hst : (convert 22 9 (.slice ao 5 c)).run Try.prog w6 = .ok (.string (strOfNums [2, 1, 2, 97, 98])) w6 := by
    refine str_any ?_ c
    obtain ⟨_, _, _, hd4, _⟩ := HR4.out
    exact HS4.out.fr (HF5.out.then hF6) (HS4.out.ne hd4 (by decide))
  clear hR6 hF6
  have hs5 : strOfNums [2, 1, 2, 97, 98] = ⟨#[2, 1, 2, 97, 98]⟩ := by decide
  have hs2 : strOfNums [97, 98] = ⟨#[97, 98]⟩ := by decide
  rw [hs5] at hst
  rw [hs2]
  go_wp2_with fail
  refine (End_any p L4 ([], 0) w6 HR6.out).mono ?_
  rintro r w7 ⟨rfl, hR7, hF7⟩
  rw [H5.out]
  have HB7 : Hid (Below w.heap.size w w7) := HB6.out.trans (hF7.one_below HB6.out.size HP.out)
  clear hR7 hF7 hst
  go_wp2
  go_ret
  exact ⟨rfl, HB7.out⟩

set_option maxRecDepth 100000 in
theorem wide_any (x n : Int) (w : World) (hx : (Lit.int .i64 x).wf = true) (hn : (Lit.int .i64 n).wf = true) :
    Calls Try.prog 7 #[.int .i64 x, .int .i64 n] w fun e w' => e = .returned (.bool true) ∧ Below w.heap.size w w' := by
  have hx2 := wf_i64_bd hx
  have hn2 := wf_i64_bd hn
  clear hx hn
  have HN : Hid (∀ m, -9223372036854775808 ≤ m ∧ m ≤ 9223372036854775807 → True) := fun _ _ => trivial
  go_enter Try.func7, Try.ntmps7
  go_wp2_with fail
  refine (shown_any w).mono ?_
  rintro r w0 ⟨rfl, hB0⟩
  have HB0 : Hid (Below w.heap.size w w0) := hB0
  clear hB0
  go_wp2_with fail
  refine (wNum_any w0.heap.size w0.heap.size (.slice none 0 0) x n ([], 0) _ (WrP.new w0 _) (by simp) (by simp) hx2 hn2).mono ?_
  rintro r w1 ⟨rfl, v1, hW1, hF1, hL1⟩
  have HB1 : Hid (Below w.heap.size w w1) := HB0.out.trans ((((Below.refl _ w0).alloc (Nat.le_refl _) _).trans (hF1.two_below (by simp) (by omega) (fun k hk => by simp [Value.ownBlock] at hk))).mono HB0.out.size)
  have HW1 : Hid (WrP w1 w0.heap.size w0.heap.size v1 (wNum x n ([], 0))) := hW1
  clear hF1 hL1
  by_cases hw : 1 ≤ n ∧ n ≤ 4 ∧ 0 ≤ x ∧ x < 256 ^ n.toNat
  · have e1 : wNum x n ([], 0) = (by' n.toNat x, 0) := by unfold wNum; rw [if_pos hw]; simp [wByt]
    rw [e1] at hW1
    obtain ⟨vo, vn, vc, rfl, hd, hlen⟩ := hW1.shape
    simp only [by_length] at hlen
    have HD : Hid (Hd 45 w1 w0.heap.size vo vn vc 0) := hd
    clear hd hW1 e1
    obtain rfl | rfl | rfl | rfl : n = 1 ∨ n = 2 ∨ n = 3 ∨ n = 4 := by omega
    · have hxx : x < 256 := hw.2.2.2
      have hx0 : 0 ≤ x := hw.2.2.1
      have t1 : decide ((0 : Int) ≤ x) = true := decide_eq_true hx0
      have t2 : decide (x ≤ 4294967295) = true := decide_eq_true (by omega)
      have t3 : decide (x < 256) = true := decide_eq_true hxx
      obtain rfl : 1 = vn := hlen
      clear hw
      go_wp2_with fail
      refine (Err_any 45 w0.heap.size 1 vc vo 0 w1 HD.out).mono ?_
      rintro r wx ⟨rfl, rfl⟩
      go_wp2_with fail
      refine (Len_any 45 w0.heap.size 1 vc vo 0 wx HD.out).mono ?_
      rintro r wy ⟨rfl, rfl⟩
      go_wp2
      go_ret
      exact ⟨rfl, HB1.out⟩
    · have hxx : x < 65536 := hw.2.2.2
      have hx0 : 0 ≤ x := hw.2.2.1
      have t1 : decide ((0 : Int) ≤ x) = true := decide_eq_true hx0
      have t2 : decide (x ≤ 4294967295) = true := decide_eq_true (by omega)
      have t3 : decide (x < 65536) = true := decide_eq_true hxx
      obtain rfl : 2 = vn := hlen
      clear hw
      go_wp2_with fail
      refine (Err_any 45 w0.heap.size 2 vc vo 0 w1 HD.out).mono ?_
      rintro r wx ⟨rfl, rfl⟩
      go_wp2_with fail
      refine (Len_any 45 w0.heap.size 2 vc vo 0 wx HD.out).mono ?_
      rintro r wy ⟨rfl, rfl⟩
      go_wp2
      go_ret
      exact ⟨rfl, HB1.out⟩
    · have hxx : x < 16777216 := hw.2.2.2
      have hx0 : 0 ≤ x := hw.2.2.1
      have t1 : decide ((0 : Int) ≤ x) = true := decide_eq_true hx0
      have t2 : decide (x ≤ 4294967295) = true := decide_eq_true (by omega)
      have t3 : decide (x < 16777216) = true := decide_eq_true hxx
      obtain rfl : 3 = vn := hlen
      clear hw
      go_wp2_with fail
      refine (Err_any 45 w0.heap.size 3 vc vo 0 w1 HD.out).mono ?_
      rintro r wx ⟨rfl, rfl⟩
      go_wp2_with fail
      refine (Len_any 45 w0.heap.size 3 vc vo 0 wx HD.out).mono ?_
      rintro r wy ⟨rfl, rfl⟩
      go_wp2
      go_ret
      exact ⟨rfl, HB1.out⟩
    · have hxx : x < 4294967296 := hw.2.2.2
      have hx0 : 0 ≤ x := hw.2.2.1
      have t1 : decide ((0 : Int) ≤ x) = true := decide_eq_true hx0
      have t2 : decide (x ≤ 4294967295) = true := decide_eq_true (by omega)
      have t3 : decide (x < 4294967296) = true := decide_eq_true hxx
      obtain rfl : 4 = vn := hlen
      clear hw
      go_wp2_with fail
      refine (Err_any 45 w0.heap.size 4 vc vo 0 w1 HD.out).mono ?_
      rintro r wx ⟨rfl, rfl⟩
      go_wp2_with fail
      refine (Len_any 45 w0.heap.size 4 vc vo 0 wx HD.out).mono ?_
      rintro r wy ⟨rfl, rfl⟩
      go_wp2
      go_ret
      exact ⟨rfl, HB1.out⟩
  · have e1 : wNum x n ([], 0) = ([], 1) := by unfold wNum; rw [if_neg hw]; simp [fl]
    rw [e1] at hW1
    obtain ⟨vo, vn, vc, rfl, hd, hlen⟩ := hW1.shape
    have HD : Hid (Hd 45 w1 w0.heap.size vo vn vc 1) := hd
    have HW2 : Hid (WrP w1 w0.heap.size w0.heap.size (.slice vo vn vc) ([], 1)) := hW1
    clear hd hW1 e1 hlen
    by_cases hn1 : 1 ≤ n ∧ n ≤ 4
    · rcases not_fits x n hn1.1 hn1.2 hw with hneg | hbig
      · have t1 : decide ((0 : Int) ≤ x) = false := decide_eq_false (by omega)
        clear hw
        go_wp2_with fail
        refine (Err_any 45 w0.heap.size vn vc vo 1 w1 HD.out).mono ?_
        rintro r wx ⟨rfl, rfl⟩
        go_wp2_with fail
        refine (Done_any w0.heap.size w0.heap.size _ ([], 1) wx HW2.out (by simp)).mono ?_
        rintro r w3 ⟨ao, c, rfl, _, _, _, _, hbel⟩
        have HB3 : Hid (Below w.heap.size w w3) := HB1.out.trans (hbel.mono HB1.out.size)
        clear hbel
        go_wp2
        go_ret
        exact ⟨rfl, HB3.out⟩
      · clear hw
        have t1 : decide ((0 : Int) ≤ x) = true := decide_eq_true hbig.1
        by_cases h32 : x ≤ 4294967295
        · have t2 : decide (x ≤ 4294967295) = true := decide_eq_true h32
          obtain rfl | rfl | rfl | rfl : n = 1 ∨ n = 2 ∨ n = 3 ∨ n = 4 := by omega
          · have hxx : (256 : Int) ≤ x := hbig.2
            have t3 : decide (x < 256) = false := decide_eq_false (by omega)
            clear hbig
            go_wp2_with fail
            refine (Err_any 45 w0.heap.size vn vc vo 1 w1 HD.out).mono ?_
            rintro r wx ⟨rfl, rfl⟩
            go_wp2_with fail
            refine (Done_any w0.heap.size w0.heap.size _ ([], 1) wx HW2.out (by simp)).mono ?_
            rintro r w3 ⟨ao, c, rfl, _, _, _, _, hbel⟩
            have HB3 : Hid (Below w.heap.size w w3) := HB1.out.trans (hbel.mono HB1.out.size)
            clear hbel
            go_wp2
            go_ret
            exact ⟨rfl, HB3.out⟩
          · have hxx : (65536 : Int) ≤ x := hbig.2
            have t3 : decide (x < 65536) = false := decide_eq_false (by omega)
            clear hbig
            go_wp2_with fail
            refine (Err_any 45 w0.heap.size vn vc vo 1 w1 HD.out).mono ?_
            rintro r wx ⟨rfl, rfl⟩
            go_wp2_with fail
            refine (Done_any w0.heap.size w0.heap.size _ ([], 1) wx HW2.out (by simp)).mono ?_
            rintro r w3 ⟨ao, c, rfl, _, _, _, _, hbel⟩
            have HB3 : Hid (Below w.heap.size w w3) := HB1.out.trans (hbel.mono HB1.out.size)
            clear hbel
            go_wp2
            go_ret
            exact ⟨rfl, HB3.out⟩
          · have hxx : (16777216 : Int) ≤ x := hbig.2
            have t3 : decide (x < 16777216) = false := decide_eq_false (by omega)
            clear hbig
            go_wp2_with fail
            refine (Err_any 45 w0.heap.size vn vc vo 1 w1 HD.out).mono ?_
            rintro r wx ⟨rfl, rfl⟩
            go_wp2_with fail
            refine (Done_any w0.heap.size w0.heap.size _ ([], 1) wx HW2.out (by simp)).mono ?_
            rintro r w3 ⟨ao, c, rfl, _, _, _, _, hbel⟩
            have HB3 : Hid (Below w.heap.size w w3) := HB1.out.trans (hbel.mono HB1.out.size)
            clear hbel
            go_wp2
            go_ret
            exact ⟨rfl, HB3.out⟩
          · have hxx : (4294967296 : Int) ≤ x := hbig.2
            omega
        · have t2 : decide (x ≤ 4294967295) = false := decide_eq_false h32
          clear hbig
          go_wp2_with fail
          refine (Err_any 45 w0.heap.size vn vc vo 1 w1 HD.out).mono ?_
          rintro r wx ⟨rfl, rfl⟩
          go_wp2_with fail
          refine (Done_any w0.heap.size w0.heap.size _ ([], 1) wx HW2.out (by simp)).mono ?_
          rintro r w3 ⟨ao, c, rfl, _, _, _, _, hbel⟩
          have HB3 : Hid (Below w.heap.size w w3) := HB1.out.trans (hbel.mono HB1.out.size)
          clear hbel
          go_wp2
          go_ret
          exact ⟨rfl, HB3.out⟩
    · clear hw
      by_cases hn3 : 1 ≤ n
      · have t1 : decide ((1 : Int) ≤ n) = true := decide_eq_true hn3
        have t2 : decide (n ≤ 4) = false := decide_eq_false (by omega)
        clear hn1
        go_wp2_with fail
        refine (Err_any 45 w0.heap.size vn vc vo 1 w1 HD.out).mono ?_
        rintro r wx ⟨rfl, rfl⟩
        go_wp2_with fail
        refine (Done_any w0.heap.size w0.heap.size _ ([], 1) wx HW2.out (by simp)).mono ?_
        rintro r w3 ⟨ao, c, rfl, _, _, _, _, hbel⟩
        have HB3 : Hid (Below w.heap.size w w3) := HB1.out.trans (hbel.mono HB1.out.size)
        clear hbel
        go_wp2
        go_ret
        exact ⟨rfl, HB3.out⟩
      · have t1 : decide ((1 : Int) ≤ n) = false := decide_eq_false hn3
        clear hn1
        go_wp2_with fail
        refine (Err_any 45 w0.heap.size vn vc vo 1 w1 HD.out).mono ?_
        rintro r wx ⟨rfl, rfl⟩
        go_wp2_with fail
        refine (Done_any w0.heap.size w0.heap.size _ ([], 1) wx HW2.out (by simp)).mono ?_
        rintro r w3 ⟨ao, c, rfl, _, _, _, _, hbel⟩
        have HB3 : Hid (Below w.heap.size w w3) := HB1.out.trans (hbel.mono HB1.out.size)
        clear hbel
        go_wp2
        go_ret
        exact ⟨rfl, HB3.out⟩
end Go.Proofs.Ytljjffeediopgaa

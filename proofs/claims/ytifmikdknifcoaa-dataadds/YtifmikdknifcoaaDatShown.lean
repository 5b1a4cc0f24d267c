/- Layer 12: the document's example holds: what stands at the head of each statement of layer 12; bytes that are all the same. -/
import Derived.Test.YtifmikdknifcoaaDatAdd
namespace Go.Proofs.Ytifmikdknifcoaa
set_option linter.unusedVariables false
open Go.RowKit Go.Maps
open Lz (g)
open Crc (ent more)
open Frm Mtr Dat

set_option maxRecDepth 100000 in
theorem dLike_any (c : Int) (n : Nat) (w : World) (hc : 0 ≤ c ∧ c ≤ 255) (hn : n ≤ 100000) : Calls Try.prog 21 #[.int .u8 c, .int .i64 n] w fun r w' => ∃ ao, r = .returned (.slice ao n n) ∧ New w w' ao n n (List.replicate n c) := by
  obtain ⟨i0, hi, hz0, hz1, hz2⟩ := info_parts infoByte
  go_enter Try.func21, Try.ntmps21
  go_wp2_with (at_make; refine wpList_make_full _ rfl _ _ 34 rfl w.heap.size 5 i0 (.int .u8 0) 1 Try.underlying34 hi hz0 hz1 _ _ _ _ n (by rfl) (by rfl) rfl rfl (by rw [hz2]; omega) (by unfold maxLen; omega) (Nat.le_refl _) ?_; intro w4 o4 k4)
  rw [half_zero n c] at o4
  have hb4 : Below w.heap.size w w4 := (Below.refl _ w).grown k4 (Nat.le_refl _) (fun k e => by simp at e)
  clear k4
  go_loopw [6] (fun s6 wr => ∃ i : Nat, s6 = .int .i64 i ∧ i ≤ n ∧ wr.ownsRow w.heap.size 5 1 (.slice (some ⟨w.heap.size, 0, none⟩) n n) n (bv (half n i c)) ∧ Below w.heap.size w wr) (fun s6 _ => n - (intOf s6).toNat)
  case atStart => exact ⟨0, rfl, by omega, o4, hb4⟩
  case round =>
    clear o4 hb4
    obtain ⟨i, rfl, hiK, o4, hb4⟩ := hrel
    have hl4 := half_length n i c hiK
    by_cases dd : i < n
    · have hd : (i : Int) < (n : Int) := by omega
      have hcell : wr.cell? ⟨w.heap.size, i, none⟩ = some (.int .u8 (g (half n i c) i)) := by
        rw [o4.cellAt i (by omega)]
        simp [bv, g, hl4, dd]
      have hfr := o4.frozenAt i
      have hst := o4.stored i (.int .u8 c)
      rw [half_set n i c dd] at hst
      have HS : Hid ((wr.setCell ⟨w.heap.size, i, none⟩ (.int .u8 c)).ownsRow w.heap.size 5 1 (.slice (some ⟨w.heap.size, 0, none⟩) n n) n (bv (half n (i + 1) c)) ∧ Below w.heap.size w (wr.setCell ⟨w.heap.size, i, none⟩ (.int .u8 c))) :=
        ⟨hst.1, hb4.setCell (by exact Nat.le_refl _) _⟩
      clear hst hl4
      go_wp2
      go_roundw
      case rel => exact ⟨i + 1, by go_num, by omega, HS.out.1, HS.out.2⟩
      case measure => simp only [intOf]; omega
    · obtain rfl : i = n := by omega
      rw [half_full] at o4
      have hrb : Bytes (List.replicate i c) := fun x hx => by rw [(List.mem_replicate.1 hx).2]; omega
      have HX := hide (New.of_owns o4 hrb (Nat.le_refl _) hb4)
      clear o4 hb4 hl4
      go_wp2
      go_ret
      exact ⟨_, rfl, HX.out⟩
namespace Dat
theorem put_ne {T : Nat → Nat} {b : List Int} (h : b ≠ []) : 7 ≤ (put T b).length := by
  unfold put
  rw [if_neg h]
  split
  · rw [whole_length]; omega
  · rw [whole_length]; omega
theorem run_one (T : Nat → Nat) (z : List Int) (h : z.length / 128 = 1) : run T z = bf T (z.take 128) := by
  unfold run
  rw [h]
  simp [frs, blk]
/-- The example's numbers. -/
theorem example_s : ∃ m, (run ent (List.replicate 130 97)).length = m ∧ 7 ≤ m ∧ m ≤ 135 ∧ run ent (List.replicate 128 97) = run ent (List.replicate 130 97) ∧ run ent (List.replicate 128 0) = [0, 0, 255] ∧ run ent (List.replicate 130 97) ≠ [0, 0, 255] ∧ run ent (List.replicate 130 97) ≠ [] ∧ run ent [97] = [] := by
  have e1 : run ent (List.replicate 130 97) = put ent (List.replicate 128 97) := by
    rw [run_one _ _ (by rw [List.length_replicate]), List.take_replicate]
    unfold bf eb
    rw [if_neg (by decide)]; rfl
  have e2 : run ent (List.replicate 128 97) = put ent (List.replicate 128 97) := by
    rw [run_one _ _ (by rw [List.length_replicate]), List.take_replicate]
    unfold bf eb
    rw [if_neg (by decide)]; rfl
  have e3 : run ent (List.replicate 128 0) = [0, 0, 255] := by
    rw [run_one _ _ (by rw [List.length_replicate]), List.take_replicate]
    unfold bf eb
    rw [if_pos (by decide)]
    exact put_nil ent
  have h7 := put_ne (T := ent) (b := List.replicate 128 97) (fun e => by have := congrArg List.length e; simp at this)
  have h8 := (put_length (T := ent) (b := List.replicate 128 97) (by simp)).2.2
  refine ⟨_, rfl, by rw [e1]; exact h7, by rw [e1]; exact h8, by rw [e1, e2], e3, fun e => ?_, fun e => ?_, (run_nil ent [97]).2 (by simp)⟩
  · rw [e1] at e; rw [e] at h7; simp at h7
  · rw [e1] at e; rw [e] at h7; simp at h7
end Dat
theorem Dat.example_adds {r h : List Int} {m : Nat} (hr : r ≠ []) (hh : h ≠ []) (hne : r ≠ h) (hm : r.length = m) :
    addA 64 ([], []) r = 64 ∧ addS 64 ([], []) r = (r, [(r, 64)]) ∧ addA 64 (r, [(r, 64)]) r = 64 ∧ addS 64 (r, [(r, 64)]) r = (r, [(r, 64)]) ∧ addA 64 (r, [(r, 64)]) h = 64 + m ∧ addS 64 (r, [(r, 64)]) h = (r ++ h, [(r, 64), (h, 64 + m)]) ∧ addA 64 (r ++ h, [(r, 64), (h, 64 + m)]) [] = 0 ∧ addS 64 (r ++ h, [(r, 64), (h, 64 + m)]) [] = (r ++ h, [(r, 64), (h, 64 + m)]) := by
  have l0 : Dat.look ([] : Wm) r = none := rfl
  have l1 : Dat.look [(r, 64)] r = some 64 := by simp [Dat.look]
  have l2 : Dat.look [(r, 64)] h = none := by simp [Dat.look, hne]
  have a1 := add_none (first := 64) (s := ([], [])) hr l0
  have a2 := add_some (first := 64) (s := (r, [(r, 64)])) hr l1
  have a3 := add_none (first := 64) (s := (r, [(r, 64)])) hh l2
  have a4 := add_nil 64 (r ++ h, [(r, 64), (h, 64 + m)])
  refine ⟨a1.1, a1.2.trans (by simp), a2.1, a2.2, a3.1.trans (by simp [hm]), a3.2.trans (by simp [hm]), a4.1, a4.2⟩
/-- A writer at a world since another one, with its table. -/
structure DS (w : World) (p tb first : Nat) (O : Nat → Prop) (s : Ws) (W : World) : Prop where
  wr : WrD W p O tb first s
  tbl : Tb W tb ent
  lt : tb < W.heap.size
  no : ¬ O tb
  bel : Below w.heap.size w W
  ow : ∀ k, O k → w.heap.size ≤ k
section
variable {w W W' : World} {p tb first : Nat} {O : Nat → Prop} {s : Ws}
theorem DS.below (h : DS w p tb first O s W) (hb : Below W.heap.size W W') : DS w p tb first O s W' :=
  ⟨h.wr.below hb, h.tbl.below hb h.lt, Nat.lt_of_lt_of_le h.lt hb.size, h.no, h.bel.trans (hb.mono h.bel.size), h.ow⟩
theorem DS.step {O' : Nat → Prop} {s' : Ws} (h : DS w p tb first O s W) (h1 : WrD W' p O' tb first s') (h2 : Fr O W W') (h3 : Gr O O' W) : DS w p tb first O' s' W' :=
  ⟨h1, h.tbl.fr h2 h.lt h.no, Nat.lt_of_lt_of_le h.lt h2.size, fun hx => by
    rcases h3 _ hx with hx | hx
    · exact h.no hx
    · have := h.lt; omega, h.bel.trans (h2.below _ h.bel.size h.ow), fun k hk => by
    rcases h3 k hk with hk | hk
    · exact h.ow k hk
    · exact Nat.le_trans h.bel.size hk⟩
/-- Blocks have turned that are none of its own. -/
theorem DS.turn {S : Nat → Prop} (h : DS w p tb first O s W) (hf : Fr S W W') (h1 : ∀ k, O k → ¬ S k) (h2 : ¬ S tb) (h3 : ∀ k, S k → w.heap.size ≤ k) : DS w p tb first O s W' :=
  ⟨h.wr.fr hf h1, h.tbl.fr hf h.lt h2, Nat.lt_of_lt_of_le h.lt hf.size, h.no, h.bel.trans (hf.below _ h.bel.size h3), h.ow⟩
/-- Add, of bytes wherever they lie. -/
theorem DS.adds (h : DS w p tb first O s W) (n c : Nat) (ao : Option Addr) (z : List Int) (hb : Bs W ao n z) (hc : n ≤ c) (hcm : c ≤ 9223372036854775807) (hnil : ao = none → c = 0) (hf : first ≤ 1000000) (hL : s.1.length ≤ 500000) (hM : s.2.length ≤ 500000) (hn : n ≤ 100000) :
    Calls Try.prog 14 #[.pointer (some ⟨p, 0, none⟩), .slice ao n c] W fun e W' => ∃ ao' c' O', e = .returned (.tuple #[.int .i64 (addA first s (run ent z) : Nat), .slice ao' (tl z).length c']) ∧ Bs W' ao' (tl z).length (tl z) ∧ (∀ a, ao' = some a → W.heap.size ≤ a.block) ∧ DS w p tb first O' (addS first s (run ent z)) W' ∧ Fr O W W' ∧ Gr O O' W ∧ ∀ a, ao' = some a → 0 < (tl z).length → ¬ O' a.block := by
  refine (dAdd_any p tb first n c O ao ent s z W h.wr h.tbl h.lt small_ent hb hc hcm hnil hf hL hM hn).mono ?_
  rintro e W' ⟨ao', c', rfl, h1, h2, O', h3, h4, h5, h6⟩
  exact ⟨ao', c', O', rfl, h1, h2, h.step h3 h4 h5, h4, h5, h6⟩
end
theorem DS.new {w w1 w2 : World} {tb first : Nat} (hb : Below w.heap.size w w1) (hT : Tb w1 tb ent) (hlt : tb < w1.heap.size) (hw : WrD w2 (w1.heap.size + 1) (fun k => w1.heap.size ≤ k ∧ k < w1.heap.size + 2) tb first ([], [])) (hb2 : Below w1.heap.size w1 w2) : DS w (w1.heap.size + 1) tb first (fun k => w1.heap.size ≤ k ∧ k < w1.heap.size + 2) ([], []) w2 :=
  ⟨hw, hT.below hb2 hlt, Nat.lt_of_lt_of_le hlt hb2.size, fun h => by omega, hb.trans (hb2.mono hb.size), fun k hk => Nat.le_trans hb.size hk.1⟩
set_option maxRecDepth 100000 in
set_option maxHeartbeats 4000000 in
theorem shown_any (w : World) : Calls Try.prog 8 #[] w fun r w' => r = .returned (.bool true) ∧ Below w.heap.size w w' := by
  have kc := fun (w : World) (C : Array Value) (n c : Nat) => Lib.run_convert_bytes_const (P := Try.prog) w 34 5 C n c Try.underlying34 Try.underlying5
  obtain ⟨hz, hi'⟩ := zero_of_info infoTable
  obtain ⟨m, x1, x2, x3, x4, x5, x6, x7, x8⟩ := Dat.example_s
  have t1 : tl (List.replicate 130 (97 : Int)) = [97, 97] := by decide
  have t4 : tl [(97 : Int)] = [97] := by decide
  have r4b : Bytes [97] := fun x hx => by simp at hx; omega
  go_enter Try.func8, Try.ntmps8
  go_wp2_with fail
  refine (New_any w).mono ?_
  rintro r w1 ⟨rfl, hbel⟩
  obtain ⟨C, hC⟩ : ∃ C, C = tab ent := ⟨_, rfl⟩
  rw [← hC]
  have HC : Hid (C = tab ent) := hC
  clear hC
  go_wp2_with (first | (refine wpList_store_table rfl _ _ rfl ent C HC.out rfl rfl _ (by simp) ?_; intro w2 ht2 hT2 hlt2 hb2') | fail)
  have HB2 : Hid (Below w.heap.size w w2) := hbel.trans (hb2'.mono hbel.size)
  have HT2 : Hid (Tb w2 w1.heap.size ent) := hT2
  clear ht2 hT2 hb2' hbel HC
  refine (dNew_any w1.heap.size 64 w2).mono ?_
  rintro r w3 ⟨rfl, hw3, hb3⟩
  have HD3 := hide (DS.new HB2.out HT2.out hlt2 hw3 hb3)
  clear hw3 hb3 HT2
  generalize w1.heap.size = tb at *
  generalize w2.heap.size + 1 = p at *
  obtain ⟨r, hr⟩ : ∃ r, run ent (List.replicate 130 97) = r := ⟨_, rfl⟩
  obtain ⟨hh, hhe⟩ : ∃ hh : List Int, hh = [0, 0, 255] := ⟨_, rfl⟩
  rw [← hhe] at x5 x6
  rw [hr] at x1 x4 x6 x7
  have hh3 : hh.length = 3 := by rw [hhe]; rfl
  obtain ⟨y1, y2, y3, y4, y5, y6, y7, y8⟩ := Dat.example_adds x7 (fun e => by rw [e] at hh3; simp at hh3) x6 x1
  have HX := hide (And.intro hr (And.intro x4 (And.intro x5 x8)))
  have HT := hide (And.intro t1 t4)
  have HY1 := hide (And.intro y1 y2)
  have HY2 := hide (And.intro y3 y4)
  have HY3 := hide (And.intro y5 y6)
  have HY4 := hide (And.intro y7 y8)
  have Hx1 := hide x1
  have Hh3 := hide hh3
  clear hr x4 x5 x8 t1 t4 y1 y2 y3 y4 y5 y6 y7 y8 x6 x7 hhe hh3 x1
  go_wp2_with fail
  refine (dLike_any 97 130 w3 (by omega) (by omega)).mono ?_
  rintro e w4 ⟨ao4, rfl, hN4⟩
  have HD4 := hide (HD3.out.below hN4.bel)
  have HN4 := hide hN4
  clear hN4
  go_wp2_with fail
  refine (HD4.out.adds 130 130 ao4 _ HN4.out.bs (by omega) (by omega) HN4.out.nil (by omega) (by simp) (by simp) (by omega)).mono ?_
  rintro e w5 ⟨ao5, c5, O5, rfl, hB5, hn5, hD5, _, _, hO5⟩
  rw [HX.out.1, HY1.out.1, HT.out.1]
  rw [HX.out.1, HY1.out.2] at hD5
  rw [HT.out.1] at hB5 hO5
  have HD5 := hide hD5
  have HB5 := hide hB5
  have HO5 := hide hO5
  clear hD5 hB5 hn5 HD4 HN4 hO5
  go_wp2_with fail
  refine (dLike_any 97 128 w5 (by omega) (by omega)).mono ?_
  rintro e w6 ⟨ao6, rfl, hN6⟩
  have HD6 := hide (HD5.out.below hN6.bel)
  have HB6 := hide (HB5.out.below hN6.bel)
  have hl5 := HB5
  have HN6 := hide hN6
  clear hN6
  go_wp2_with fail
  refine (HD6.out.adds 128 128 ao6 _ HN6.out.bs (by omega) (by omega) HN6.out.nil (by omega) (by show r.length ≤ _; have := Hx1.out; omega) (by simp) (by omega)).mono ?_
  rintro e w7 ⟨ao7, c7, O7, rfl, _, _, hD7, hF7, hG7, _⟩
  rw [HX.out.2.1, HY2.out.1]
  rw [HX.out.2.1, HY2.out.2] at hD7
  generalize (tl (List.replicate 128 (97 : Int))).length = l7
  have HD7 := hide hD7
  have HB7 := hide (HB6.out.fr hF7 HO5.out)
  have HO7 : Hid (∀ a, ao5 = some a → 0 < [(97 : Int), 97].length → ¬ O7 a.block) := fun a ha h0 hx => by
    rcases hG7 _ hx with hx | hx
    · exact HO5.out a ha h0 hx
    · have := Bs_blt HB6.out ha h0; omega
  clear hD7 hF7 hG7 HB6 HO5 HD6 HN6 HD5 HB5 hl5
  go_wp2_with fail
  refine (dLike_any 0 128 w7 (by omega) (by omega)).mono ?_
  rintro e w8 ⟨ao8, rfl, hN8⟩
  have HD8 := hide (HD7.out.below hN8.bel)
  have HB8 := hide (HB7.out.below hN8.bel)
  have HN8 := hide hN8
  clear hN8 HD7 HB7
  go_wp2_with fail
  refine (HD8.out.adds 128 128 ao8 _ HN8.out.bs (by omega) (by omega) HN8.out.nil (by omega) (by show r.length ≤ _; have := Hx1.out; omega) (by simp) (by omega)).mono ?_
  rintro e w9 ⟨ao9, c9, O9, rfl, _, _, hD9, hF9, hG9, _⟩
  rw [HX.out.2.2.1, HY3.out.1]
  rw [HX.out.2.2.1, HY3.out.2] at hD9
  generalize (tl (List.replicate 128 (0 : Int))).length = l9
  have HD9 := hide hD9
  have HB9 := hide (HB8.out.fr hF9 HO7.out)
  have HO9 : Hid (∀ a, ao5 = some a → 0 < [(97 : Int), 97].length → ¬ O9 a.block) := fun a ha h0 hx => by
    rcases hG9 _ hx with hx | hx
    · exact HO7.out a ha h0 hx
    · have := Bs_blt HB8.out ha h0; omega
  clear hD9 hF9 hG9 HB8 HO7 HD8 HN8
  have HBc := hide (bs_new w9 (1, 2) [97] r4b)
  have HD10 := hide (HD9.out.below (below_one w9 (.cells (bv [97]).toArray 5 (1, 2))))
  have HB10 := hide (HB9.out.below (below_one w9 (.cells (bv [97]).toArray 5 (1, 2))))
  have hkc := kc w9 #[.int .u8 97] 1 1
  clear HD9 HB9 kc
  go_wp2_with fail
  refine (HD10.out.adds 1 1 _ [97] HBc.out (by omega) (by omega) (fun h => by simp at h) (by omega) (by show (r ++ hh).length ≤ _; rw [List.length_append]; have := Hx1.out; have := Hh3.out; omega) (by simp) (by omega)).mono ?_
  rintro e w11 ⟨ao11, c11, O11, rfl, hB11, _, hD11, hF11, hG11, hO11⟩
  rw [HX.out.2.2.2, HY4.out.1, HT.out.2]
  rw [HX.out.2.2.2, HY4.out.2] at hD11
  rw [HT.out.2] at hB11 hO11
  have HB5 := hide (HB10.out.fr hF11 HO9.out)
  have HDn := hide (dDone_any p tb 64 O11 _ w11 hD11.wr (by show (r ++ hh).length ≤ _; rw [List.length_append]; have := Hx1.out; have := Hh3.out; omega))
  have HBl := hide hD11.bel
  have HB11 := hide hB11
  clear hD11 hF11 hG11 hO11 hB11 HD10 HB10 HO9 HBc hkc
  have hl : (r ++ hh).length = m + 3 := by rw [List.length_append, Hx1.out, Hh3.out]
  rw [hl] at HDn
  have s5 : (convert 34 9 (.slice ao5 2 c5)).run Try.prog w11 = .ok (.string ⟨#[97, 97]⟩) w11 := str_any HB5.out c5
  clear hl
  go_wp2_with fail
  refine HDn.out.mono ?_
  rintro e w12 ⟨ao12, c12, rfl, hN12⟩
  have s11 : (convert 34 9 (.slice ao11 1 c11)).run Try.prog w12 = .ok (.string ⟨#[97]⟩) w12 := str_any (HB11.out.below hN12.bel) c11
  have HBf := hide (HBl.out.trans (hN12.bel.mono HBl.out.size))
  clear hN12 HDn s5
  have hcm : (64 : Int) + ((m + 3 : Nat) : Int) - 3 = 64 + (m : Int) := by omega
  go_wp2
  go_ret
  exact ⟨rfl, HBf.out⟩
end Go.Proofs.Ytifmikdknifcoaa

/- The walks of the reference's writer: Bytes, Num, Text, Done. -/
import Derived.Test.YtifmikdknifcoaaCurWrite
import Derived.Deep.RegionLaw
namespace Go.Proofs.Ytifmikdknifcoaa
set_option linter.unusedVariables false
open Go.RowKit Go.Maps
open Lz (g)
open Cur

/-- What a call leaves of the reference's writer. -/
def WrRDone (w w' : World) (p B : Nat) (v : Value) (s' : St) : Prop := ∃ v', WrR w' p B v' s' ∧ Fr (Two p v) w w' ∧ Lie w v v'
theorem WrR.refl {w : World} {p B : Nat} {v : Value} {s : St} (h : WrR w p B v s) : WrRDone w w p B v s := ⟨v, h, Fr.refl _ _, Lie.refl _ _⟩
theorem WrRDone.trans {w w1 w2 : World} {p B : Nat} {v v1 : Value} {s2 : St} (hf : Fr (Two p v) w w1) (hl : Lie w v v1) (h2 : WrRDone w1 w2 p B v1 s2) : WrRDone w w2 p B v s2 := by
  obtain ⟨v2, h3, h4, h5⟩ := h2
  refine ⟨v2, h3, hf.trans h4 (fun i hi hx => ?_), hl.trans hf.size h5⟩
  rcases hx with hx | hx
  · exact .inl hx
  · rcases hl i hx with h6 | h6
    · exact .inr h6
    · omega
theorem WrR.below {w w' : World} {p B : Nat} {v : Value} {s : St} (h : WrR w p B v s) (hb : Below w.heap.size w w') : WrR w' p B v s := by
  obtain ⟨ao, n, c, zs, rfl, h2, h3, h4⟩ := h
  have hf : Fr (fun _ => False) w w' := Fr.of_below hb
  exact ⟨ao, n, c, zs, rfl, h2.fr hf id, owns_fr h3 hf (fun _ _ => id), h4⟩
theorem wrr_byt {w w1 : World} {p B n c m : Nat} {ao ao' : Option Addr} {c' : Nat} {zs : List Int} {s : St} (h : WrR w p B (.slice ao n c) s) (h0 : s.2 = 0) (ho : w1.ownsRow B 5 1 (.slice ao' m c') m (bv (s.1 ++ zs))) (hg : w.grownBy w1 (Value.slice ao n c).ownBlock) (hl : Lie w (.slice ao n c) (.slice ao' m c')) (hz : Bytes zs) :
    WrRDone w (w1.setCell ⟨p, 0, none⟩ (.slice ao' m c')) p B (.slice ao n c) (s.1 ++ zs, 0) := by
  obtain ⟨_, _, _, ys, hv, h2, h3, h4, h6, h5⟩ := h
  obtain ⟨rfl, rfl, rfl⟩ : ao = _ ∧ n = _ ∧ c = _ := by simpa using hv
  obtain rfl := h6 h0
  have hne := owns_ne_hd h3 h2 (by decide)
  have hf : Fr (Two p (.slice ao n c)) w w1 := Fr.of_grown hg (fun k hk => .inr hk)
  have hd1 : Hd 85 w1 p ao n c s.2 := h2.fr (Fr.of_grown (S := fun k => (Value.slice ao n c).ownBlock = some k) hg (fun k hk => hk)) hne
  have hd2 := hd1.set0 ao' m c'
  refine ⟨.slice ao' m c', ⟨ao', m, c', s.1 ++ zs, rfl, by rw [h0] at hd2; exact hd2, ?_, h4.append hz, fun _ => rfl, .inl rfl⟩, hf.set (p := ⟨p, 0, none⟩) _ (fun _ => .inl rfl), hl⟩
  refine owns_fr (S := One p) ho ((Fr.refl _ _).set (p := ⟨p, 0, none⟩) _ (fun _ => rfl)) (fun k hk hx => ?_)
  have := owns_ne_hd ho hd1 (by decide)
  rw [hk, hx] at this
  exact this rfl
/-- The error is noted; what was written stays, of no account. -/
theorem wrr_fail {w : World} {p B : Nat} {v : Value} {s : St} (h : WrR w p B v s) (k : Int) (hk : k ≠ 0) : WrRDone w (w.setCell ⟨p, 1, none⟩ (.int .i64 k)) p B v ([], k) := by
  obtain ⟨ao, n, c, zs, rfl, h2, h3, h4, h6, h5⟩ := h
  have hne := owns_ne_hd h3 h2 (by decide)
  refine ⟨.slice ao n c, ⟨ao, n, c, zs, rfl, h2.set1 k, ?_, h4, fun h => absurd h hk, .inr rfl⟩, (Fr.refl _ w).set (p := ⟨p, 1, none⟩) _ (fun _ => .inl rfl), Lie.refl _ _⟩
  exact owns_fr (S := One p) h3 ((Fr.refl _ _).set (p := ⟨p, 1, none⟩) _ (fun _ => rfl)) (fun k hk hx => hne (by rw [hk, hx]))
theorem wByt_err {b : List Int} {s : St} (h : s.2 ≠ 0) : wByt b s = s := by unfold wByt; rw [if_neg h]
theorem fl_err {k : Int} {s : St} (h : s.2 ≠ 0) : fl k s = s := by unfold fl; rw [if_neg h]
theorem wNum_err {x n : Int} {s : St} (h : s.2 ≠ 0) : wNum x n s = s := by unfold wNum; split; exact wByt_err h; exact fl_err h

set_option maxRecDepth 100000 in
theorem refWBytes_any (p B n c : Nat) (ao : Option Addr) (v : Value) (zs : List Int) (s : St) (w : World) (h : WrR w p B v s) (hB : B ≤ w.heap.size) (hb : Bs w ao n zs) (hnil : ao = none → c = 0) (hbd : s.1.length + n ≤ 100000000) :
    Calls Try.prog 40 #[.pointer (some ⟨p, 0, none⟩), .slice ao n c] w fun r w' => r = .returned (.tuple #[]) ∧ WrRDone w w' p B v (wByt zs s) := by
  have HW : Hid (WrR w p B v s) := h
  obtain ⟨vo, vn, vc, ys, rfl, hd, ho, hby, hys, hcan⟩ := h
  have h0 := hd.c0
  have h1 := hd.c1
  by_cases he : s.2 = 0
  · obtain rfl := hys he
    have hlen : s.1.length = vn := by have := ho.1; rw [bv_length] at this; omega
    have hne := owns_ne_hd ho hd (by decide)
    have HD : Hid (Hd 85 w p vo vn vc s.2) := hd
    have HZ : Hid (Bytes zs) := hb.bytes
    have HE : Hid (s.2 = 0) := he
    rw [he] at h1
    clear hd he hys
    go_enter Try.func40, Try.ntmps40
    go_wp2_with (first
      | (at_builtin
         refine wpList_append_at _ rfl (.tmp 13) (.tmp 14) rfl B vo vn vc s.1 rfl ho ao n c zs rfl hb hnil (by omega) hB ?_
         intro ao' c' w1 ho1 hg1 hl1
         have hd1 : Hd 85 w1 p vo vn vc s.2 := HD.out.fr (Fr.of_grown (S := fun k => (Value.slice vo vn vc).ownBlock = some k) hg1 (fun k hk => hk)) hne
         have h01 := hd1.c0
         have f01 := hd1.f 0
         have HG : Hid (w.grownBy w1 (Value.slice vo vn vc).ownBlock) := hg1
         have HL : Hid (Lie w (.slice vo vn vc) (.slice ao' (vn + n) c')) := hl1
         have HO : Hid (w1.ownsRow B 5 1 (.slice ao' (vn + n) c') (vn + n) (bv (s.1 ++ zs))) := ho1
         clear hg1 hl1 ho1 hd1))
    go_end0
    have e : wByt zs s = (s.1 ++ zs, 0) := by unfold wByt; rw [if_pos HE.out]
    rw [e]
    exact ⟨rfl, wrr_byt HW.out HE.out HO.out HG.out HL.out HZ.out⟩
  · have HX : Hid (WrRDone w w p B (.slice vo vn vc) (wByt zs s)) := by
      rw [wByt_err he]; exact HW.out.refl
    clear hd ho hby hcan hb
    go_enter Try.func40, Try.ntmps40
    go_wp2
    go_end0
    exact ⟨rfl, HX.out⟩

set_option maxRecDepth 100000 in
theorem refDone_any (p B : Nat) (v : Value) (s : St) (w : World) (h : WrR w p B v s) (hbd : s.1.length ≤ 100000000) :
    Calls Try.prog 43 #[.pointer (some ⟨p, 0, none⟩)] w fun r w' => Copied w w' s.1 r := by
  obtain ⟨vo, vn, vc, ys, rfl, hd, ho, hby, hys, hcan⟩ := h
  have h0 := hd.c0
  have h1 := hd.c1
  by_cases he : s.2 = 0
  · obtain rfl := hys he
    have hlen : s.1.length = vn := by have := ho.1; rw [bv_length] at this; omega
    have HB : Hid (Bs w vo vn s.1) := bs_of_owns ho hby
    have hplt : p < w.heap.size := hd.lt
    have hnil : vo = none → vc = 0 := nil_cap ho
    rw [he] at h1
    have HL : Hid (s.1.length = vn) := hlen
    have HY : Hid (Bytes s.1) := hby
    clear hd ho he hys hcan hby hlen
    have ho := emptyB (w := w) (Nat.le_refl _)
    have hsrc : Bs (w.alloc (.cells #[] 5)) vo vn s.1 := HB.out.alloc _
    have h0a : (w.alloc (.cells #[] 5)).cell? ⟨p, 0, none⟩ = some (.slice vo vn vc) := ((Below.refl _ w).alloc (Nat.le_refl _) _).cell (p := ⟨p, 0, none⟩) hplt |>.trans h0
    have hk : 0 + vn ≤ 100000000 := by have := HL.out; omega
    go_enter Try.func43, Try.ntmps43
    go_wp2_with (first
      | (at_builtin
         refine wpList_append_bs _ (by rfl) (.tmp 8) (.tmp 12) (by rfl) w.heap.size _ 0 0 [] (by rfl) ho vo vn vc s.1 (by rfl) hsrc hnil hk (by simp) ?_
         intro ao c w1 ho1 hg1
         have HB1 : Hid (Below w.heap.size w w1) := ((Below.refl _ w).alloc (Nat.le_refl _) _).grown hg1 (by simp) (fun kk e => (ho.lt kk e).1)
         have HO1 : Hid (w1.ownsRow w.heap.size 5 1 (.slice ao vn c) vn (bv s.1)) := by rw [Nat.zero_add, List.nil_append] at ho1; exact ho1
         clear ho1 hg1))
    go_ret
    refine ⟨ao, c, ?_, by rw [HL.out]; exact bs_of_owns HO1.out HY.out, ?_, ?_, nil_cap HO1.out, HB1.out⟩
    · rw [HL.out]; rfl
    · rw [HL.out]; exact cap_of_owns HO1.out
    · rcases HO1.out.2 with ⟨e, _⟩ | ⟨_, _, _, e, _, _, _, h, _⟩
      · simp at e; omega
      · simp at e; unfold maxLen at h; omega
  · obtain ⟨s1, s2⟩ := s
    obtain rfl : s1 = [] := by rcases hcan with h | h; exact absurd h he; exact h
    simp only at h1 he
    have d0 : (s2 != 0) = true := by simpa using he
    clear hd ho hby hys hcan
    go_enter Try.func43, Try.ntmps43
    go_wp2
    go_ret
    exact ⟨none, 0, rfl, ⟨rfl, fun i => by simp [g], .inl rfl⟩, by simp, by omega, fun _ => rfl, Below.refl _ _⟩

theorem by_get : ∀ (n : Nat) (x : Int) (i : Nat), i < n → (by' n x)[i]? = some (x / 2 ^ (8 * i) % 256)
  | 0, _, _, h => by omega
  | n + 1, x, 0, _ => by simp [by']
  | n + 1, x, i + 1, h => by
    rw [by', List.getElem?_cons_succ, by_get n (x / 256) i (by omega)]
    have e : (2 : Int) ^ (8 * (i + 1)) = 256 * 2 ^ (8 * i) := by
      rw [show 8 * (i + 1) = 8 + 8 * i by omega, Int.pow_add]; rfl
    rw [e, ← Int.ediv_ediv_of_nonneg (by omega)]
theorem by_snoc (n : Nat) (x : Int) (i : Nat) (h : i < n) : (by' n x).take (i + 1) = (by' n x).take i ++ [x / 2 ^ (8 * i) % 256] := by
  rw [List.take_add_one, by_get n x i h]; rfl
theorem pow_256 (n : Nat) : (256 : Int) ^ n = 2 ^ (8 * n) := by
  rw [show (256 : Int) = 2 ^ 8 from rfl, ← Int.pow_mul]
theorem pow_pos' (n : Nat) : (0 : Int) < 2 ^ n := Int.pow_pos (by omega)
theorem fits_div {x : Int} {n : Nat} (h0 : 0 ≤ x) : x < 256 ^ n ↔ x / 2 ^ (8 * n) = 0 := by
  rw [pow_256]
  have hp := pow_pos' (8 * n)
  constructor
  · intro h; exact Int.ediv_eq_zero_of_lt h0 h
  · intro h
    rcases (show x < 2 ^ (8 * n) ∨ 2 ^ (8 * n) ≤ x by omega) with h1 | h1
    · exact h1
    · have := (Int.le_ediv_iff_mul_le hp).2 (show 1 * 2 ^ (8 * n) ≤ x by omega)
      omega

set_option maxRecDepth 100000 in
set_option maxHeartbeats 1000000 in
theorem refWNum_fits (p B : Nat) (v : Value) (x : Int) (n : Nat) (s : St) (w : World) (h : WrR w p B v s) (hB : B ≤ w.heap.size) (hbd : s.1.length ≤ 10000000) (hx : 0 ≤ x ∧ x ≤ 9223372036854775807) (hn : 1 ≤ n ∧ n ≤ 4) (hx2 : x < 256 ^ n) (he : s.2 = 0) :
    Calls Try.prog 41 #[.pointer (some ⟨p, 0, none⟩), .int .i64 x, .int .i64 n] w fun r w' => r = .returned (.tuple #[]) ∧ WrRDone w w' p B v (s.1 ++ by' n x, 0) := by
  have HW : Hid (WrR w p B v (s.1, 0)) := by rw [← he]; exact h
  obtain ⟨vo, vn, vc, ys, rfl, hd, ho, hby, hys, hcan⟩ := h
  have h0 := hd.c0
  have h1 := hd.c1
  rw [he] at h1
  clear hd ho he hby hys hcan
  have d1 : decide ((n : Int) < 1) = false := decide_eq_false (by omega)
  have d2 : decide ((4 : Int) < n) = false := decide_eq_false (by omega)
  have d3 : decide (x < 0) = false := decide_eq_false (by omega)
  have d4 : (x / 2 ^ (8 * n) != 0) = false := by rw [(fits_div hx.1).1 hx2]; rfl
  clear hx2
  go_enter Try.func41, Try.ntmps41
  go_wp2_with fail
  go_loopw [6] (fun s6 wr => ∃ (i : Nat) (v' : Value), s6 = .int .i64 i ∧ i ≤ n ∧ WrR wr p B v' (s.1 ++ (by' n x).take i, 0) ∧ Fr (Two p (.slice vo vn vc)) w wr ∧ Lie w (.slice vo vn vc) v') (fun s6 _ => n - (intOf s6).toNat)
  case atStart => exact ⟨0, _, rfl, by omega, by simpa using HW.out, Fr.refl _ _, Lie.refl _ _⟩
  case round =>
    obtain ⟨i, v', rfl, hi, hW1, hF1, hL1⟩ := hrel
    have HW1 : Hid (WrR wr p B v' (s.1 ++ (by' n x).take i, 0)) := hW1
    have HF1 : Hid (Fr (Two p (.slice vo vn vc)) w wr) := hF1
    have HL1 : Hid (Lie w (.slice vo vn vc) v') := hL1
    clear hW1 hF1 hL1 h0 h1
    by_cases hlt : i < n
    · obtain ⟨ao, m, c, zs, rfl, hd, ho, hby, hzs, _⟩ := id HW1.out
      obtain rfl := hzs rfl
      have hlen : m = s.1.length + i := by
        have := ho.1; rw [bv_length] at this
        rw [List.length_append, List.length_take, by_length] at this; omega
      have hne := owns_ne_hd ho hd (by decide)
      have h0 := hd.c0
      have HD : Hid (Hd 85 wr p ao m c 0) := hd
      have hBr : B ≤ wr.heap.size := Nat.le_trans hB HF1.out.size
      obtain ⟨i0, hi0, hz0, hz1, hz2⟩ := info_parts infoByte
      have HLen : Hid (m = s.1.length + i) := hlen
      have hmx : m + 1 ≤ maxLen := by unfold maxLen; omega
      have hby1 : (m + 1) * 1 ≤ 140737488355328 := by omega
      have HSn : Hid ((by' n x).take (i + 1) = (by' n x).take i ++ [x / 2 ^ (8 * i) % 256]) := by_snoc n x i hlt
      clear hd hlen
      have hw8 : IntKind.i64.wrap (8 * (i : Int)) = 8 * i := by rw [IntKind.wrap_i64]; omega
      have h0b : ∀ o : Obj, (wr.alloc o).cell? ⟨p, 0, none⟩ = some (.slice ao m c) := fun o => (((Below.refl _ wr).alloc (Nat.le_refl _) o).cell (p := ⟨p, 0, none⟩) HD.out.lt).trans h0
      go_wp2_with fail
      go_region_law ((refine step_append_lies _ (by rfl) (.tmp 41) (.tmp 47) 34 (by rfl) B 5 i0 (.int .u8 0) 1 1 Try.underlying34 hi0 hz0 hz1 hz2 rfl (by decide) _ _ _ (by rfl) ((ho.alloc _).drew) ⟨wr.heap.size, 0, none⟩ 1 1 (bv [x / 2 ^ (8 * i) % 256]) (by rfl) (by rfl) (cell_one_new wr _ _) (bv_one _) (by decide) hmx hby1 (Nat.le_trans hBr (by simp)) (wr.heap.size + 1) (by simp) ?_; intro g1 c1 w1 a1 k1 l1 _; have hd1 : Hd 85 w1 p ao m c 0 := HD.out.fr (Fr.of_grown (S := fun k => (Value.slice ao m c).ownBlock = some k) (grown_allocD k1) (fun k hk => hk)) hne; have h01 := hd1.c0; have f01 := hd1.f 0; have HA1 : Hid (w1.ownsRow B 5 1 (.slice (some ⟨g1, 0, none⟩) (m + 1) c1) (m + 1) (bv (s.1 ++ (by' n x).take i) ++ bv [x / 2 ^ (8 * i) % 256])) := a1; have HK1 : Hid (wr.grownBy w1 (Value.slice ao m c).ownBlock) := grown_allocD k1; have HLi : Hid (Lie wr (.slice ao m c) (.slice (some ⟨g1, 0, none⟩) (m + 1) c1)) := (fun k hk => by simp [Value.ownBlock] at hk; subst hk; rcases l1 with l1 | l1; exact .inl l1; exact .inr (by omega)); clear a1 k1 l1 hd1))
      all_goals (
        have HD1 : Hid (WrRDone wr (w1.setCell ⟨p, 0, none⟩ (.slice (some ⟨g1, 0, none⟩) (m + 1) c1)) p B (.slice ao m c) (s.1 ++ (by' n x).take (i + 1), 0)) := by
          have := wrr_byt HW1.out rfl (zs := [x / 2 ^ (8 * i) % 256]) (by rw [bv_append]; exact HA1.out) HK1.out HLi.out (fun y hy => by simp at hy; omega)
          rw [HSn.out, ← List.append_assoc]
          exact this
        have HD2 : Hid (WrRDone w (w1.setCell ⟨p, 0, none⟩ (.slice (some ⟨g1, 0, none⟩) (m + 1) c1)) p B (.slice vo vn vc) (s.1 ++ (by' n x).take (i + 1), 0)) := WrRDone.trans HF1.out HL1.out HD1.out
        clear HSn HA1 HK1 HLi HD1 ho
        go_wp2
        go_roundw
        case rel =>
          obtain ⟨v2, x1, x2, x3⟩ := HD2.out
          exact ⟨i + 1, v2, by go_num, by omega, x1, x2, x3⟩
        case measure => simp [intOf]; omega)
    · obtain rfl : i = n := by omega
      have HX : Hid (WrRDone w wr p B (.slice vo vn vc) (s.1 ++ by' i x, 0)) := ⟨v', by have := HW1.out; rw [List.take_of_length_le (by rw [by_length]; omega)] at this; exact this, HF1.out, HL1.out⟩
      go_wp2
      go_end0
      exact ⟨rfl, HX.out⟩

set_option maxRecDepth 100000 in
set_option maxHeartbeats 1000000 in
theorem refWNum_not (p B : Nat) (v : Value) (x n : Int) (s : St) (w : World) (h : WrR w p B v s) (hx : -9223372036854775808 ≤ x ∧ x ≤ 9223372036854775807) (hn : -9223372036854775808 ≤ n ∧ n ≤ 9223372036854775807) (hw : ¬ (1 ≤ n ∧ n ≤ 4 ∧ 0 ≤ x ∧ x < 256 ^ n.toNat)) (he : s.2 = 0) :
    Calls Try.prog 41 #[.pointer (some ⟨p, 0, none⟩), .int .i64 x, .int .i64 n] w fun r w' => r = .returned (.tuple #[]) ∧ WrRDone w w' p B v ([], 1) := by
  have HX : Hid (WrRDone w (w.setCell ⟨p, 1, none⟩ (.int .i64 1)) p B v ([], 1)) := wrr_fail h 1 (by decide)
  obtain ⟨vo, vn, vc, ys, rfl, hd, ho, hby, hys, hcan⟩ := h
  have h0 := hd.c0
  have h1 := hd.c1
  have f1 := hd.f 1
  rw [he] at h1
  clear hd ho he hby hys hcan
  by_cases hn1 : n < 1
  · have d1 : decide (n < 1) = true := decide_eq_true hn1
    clear hw
    go_enter Try.func41, Try.ntmps41
    go_wp2
    ((try simp only [Exit.inBlock, Exit.then]); refine bodyPost_ret (results_none rfl _ _ _) rfl ?_)
    exact ⟨rfl, HX.out⟩
  by_cases hn4 : 4 < n
  · have d1 : decide (n < 1) = false := decide_eq_false hn1
    have d2 : decide (4 < n) = true := decide_eq_true hn4
    clear hw
    go_enter Try.func41, Try.ntmps41
    go_wp2
    ((try simp only [Exit.inBlock, Exit.then]); refine bodyPost_ret (results_none rfl _ _ _) rfl ?_)
    exact ⟨rfl, HX.out⟩
  obtain ⟨k, rfl⟩ : ∃ k : Nat, n = k := ⟨n.toNat, by omega⟩
  by_cases hx0 : x < 0
  · have d1 : decide ((k : Int) < 1) = false := decide_eq_false hn1
    have d2 : decide (4 < (k : Int)) = false := decide_eq_false hn4
    have d3 : decide (x < 0) = true := decide_eq_true hx0
    clear hw
    go_enter Try.func41, Try.ntmps41
    go_wp2
    ((try simp only [Exit.inBlock, Exit.then]); refine bodyPost_ret (results_none rfl _ _ _) rfl ?_)
    exact ⟨rfl, HX.out⟩
  · have d1 : decide ((k : Int) < 1) = false := decide_eq_false hn1
    have d2 : decide (4 < (k : Int)) = false := decide_eq_false hn4
    have d3 : decide (x < 0) = false := decide_eq_false hx0
    have d4 : (x / 2 ^ (8 * k) != 0) = true := by
      rw [bne_iff_ne]
      intro hz
      exact hw ⟨by omega, by omega, by omega, by rw [Int.toNat_natCast]; exact (fits_div (by omega)).2 hz⟩
    clear hw
    go_enter Try.func41, Try.ntmps41
    go_wp2
    ((try simp only [Exit.inBlock, Exit.then]); refine bodyPost_ret (results_none rfl _ _ _) rfl ?_)
    exact ⟨rfl, HX.out⟩

set_option maxRecDepth 100000 in
theorem refWNum_any (p B : Nat) (v : Value) (x n : Int) (s : St) (w : World) (h : WrR w p B v s) (hB : B ≤ w.heap.size) (hbd : s.1.length ≤ 10000000) (hx : -9223372036854775808 ≤ x ∧ x ≤ 9223372036854775807) (hn : -9223372036854775808 ≤ n ∧ n ≤ 9223372036854775807) :
    Calls Try.prog 41 #[.pointer (some ⟨p, 0, none⟩), .int .i64 x, .int .i64 n] w fun r w' => r = .returned (.tuple #[]) ∧ WrRDone w w' p B v (wNum x n s) := by
  by_cases he : s.2 = 0
  · unfold wNum
    split
    · next hw =>
      obtain ⟨k, rfl⟩ : ∃ k : Nat, n = k := ⟨n.toNat, by omega⟩
      unfold wByt
      rw [if_pos he, Int.toNat_natCast]
      rw [Int.toNat_natCast] at hw
      exact refWNum_fits p B v x k s w h hB hbd ⟨hw.2.2.1, hx.2⟩ (by omega) hw.2.2.2 he
    · next hw =>
      unfold fl
      rw [if_pos he]
      exact refWNum_not p B v x n s w h hx hn hw he
  · rw [wNum_err he]
    have HX : Hid (WrRDone w w p B v s) := h.refl
    obtain ⟨vo, vn, vc, ys, rfl, hd, ho, hby, hys, hcan⟩ := h
    have h1 := hd.c1
    have d0 : (s.2 != 0) = true := by simpa using he
    clear hd ho hby hys hcan
    go_enter Try.func41, Try.ntmps41
    go_wp2
    ((try simp only [Exit.inBlock, Exit.then]); refine bodyPost_ret (results_none rfl _ _ _) rfl ?_)
    exact ⟨rfl, HX.out⟩

end Go.Proofs.Ytifmikdknifcoaa

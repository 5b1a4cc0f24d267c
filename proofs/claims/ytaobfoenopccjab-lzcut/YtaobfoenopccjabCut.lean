/- The walk of LzCut: packed bytes that are cut come to a beginning of the bytes or are none, and two packed rows, one behind the other, come to both. -/
import Derived.Test.YtaobfoenopccjabLaws
import Derived.Test.YtaobfoenopccjabRound
namespace Go.Proofs.Ytaobfoenopccjab
set_option linter.unusedVariables false
open Go.RowKit Go.Maps
open Lz (g unpack pack)

theorem nil_cap {w : World} {B n c e : Nat} {ao : Option Addr} {vs : List Value} (h : w.ownsRow B e 1 (.slice ao n c) n vs) : ao = none → c = 0 := fun hn => by
  subst hn
  rcases h.2 with ⟨e, _⟩ | ⟨_, _, _, e, _⟩
  · simp at e; omega
  · simp at e
theorem Bs.take {w : World} {ao : Option Addr} {n : Nat} {zs : List Int} (h : Bs w ao n zs) (k : Nat) (hk : k ≤ n) : Bs w ao k (zs.take k) := by
  obtain ⟨hz, hby, h0⟩ := h
  refine ⟨by simp; omega, bytes_take hby k, ?_⟩
  by_cases e : k = 0
  · exact .inl e
  · rcases h0 with h0 | ⟨b, off, h1, h2, h3⟩
    · omega
    · refine .inr ⟨b, off, h1, h2, ?_⟩
      have := h3.cut 0 k
      simpa using this
theorem cut_any (zs : List Int) (j : Nat) : ∃ (k : Nat) (e : Int), k ≤ zs.length ∧ (e = 0 ∨ e = 2) ∧ unpack ((pack zs).take j) zs.length = (zs.take k, e) := by
  rcases Lz.unpack_cut zs j with h | ⟨k, hk, h⟩
  · exact ⟨0, 2, by omega, .inr rfl, by rw [h]; rfl⟩
  · exact ⟨k, 0, hk, .inl rfl, h⟩

set_option maxRecDepth 100000 in
set_option maxHeartbeats 8000000 in
theorem cut_walk (a0 : Option Addr) (len0 cap0 : Nat) (z0 : List Int) (a1 : Option Addr) (len1 cap1 : Nat) (z1 : List Int) (a2 : Int) (w : World) (w0 : RowB w a0 len0 cap0 z0) (w1 : RowB w a1 len1 cap1 z1) (w2 : (Lit.int .i64 a2).wf = true) :
    Calls Try.prog 3 #[.slice a0 len0 cap0, .slice a1 len1 cap1, .int .i64 a2] w fun e w' => e = .returned (.bool true) ∧ Below w.heap.size w w' := by
  obtain ⟨hbx, hlc0, hcm0, hyx, hnil0⟩ := w0.bs (min len0 2000) (by omega)
  obtain ⟨hby, hlc1, hcm1, hyy, hnil1⟩ := w1.bs (min len1 2000) (by omega)
  obtain ⟨hi1, hi2⟩ := wf_i64_bd w2
  generalize z0.take (min len0 2000) = xs at hbx hyx
  generalize z1.take (min len1 2000) = ys at hby hyy
  clear w0 w1
  go_enter Try.func3, Try.ntmps3
  go_wp2_with fail
  refine (shown_any w).mono ?_
  rintro r ws ⟨rfl, hB0⟩
  go_wp2_with fail
  refine (few_any a0 len0 cap0 2000 ws hlc0 (by omega)).mono ?_
  rintro r wx ⟨rfl, rfl⟩
  generalize hm : min len0 2000 = l at *
  have hl1 : l ≤ 2000 := by omega
  have hl2 : l ≤ cap0 := by omega
  clear hm
  go_wp2_with fail
  refine (few_any a1 len1 cap1 2000 wx hlc1 (by omega)).mono ?_
  rintro r wy ⟨rfl, rfl⟩
  generalize hm : min len1 2000 = m at *
  have hm1 : m ≤ 2000 := by omega
  have hm2 : m ≤ cap1 := by omega
  clear hm
  have x1 := hbx.below hB0
  have y1 := hby.below hB0
  have hzx := hbx.1
  have hzy := hby.1
  have hpx := Lz.pack_short xs
  have hpy := Lz.pack_short ys
  go_wp2_with fail
  refine (Pack_any l cap0 a0 xs wy x1 hl2 (by omega)).mono ?_
  rintro r w3 (⟨d, rfl, rfl⟩ | ⟨d, ao2, n2, c2, rfl, o2, bl2⟩)
  · omega
  go_wp2_with fail
  refine (Pack_any m cap1 a1 ys w3 (y1.below bl2) hm2 (by omega)).mono ?_
  rintro r w4 (⟨d', rfl, rfl⟩ | ⟨d', ao3, n3, c3, rfl, o3, bl3⟩)
  · omega
  have hB4 : Below w.heap.size w w4 := by
    have e := hB0.trans (bl2.mono hB0.size)
    exact e.trans (bl3.mono e.size)
  have bx4 := (bs_of_owns o2 hyx.pack).below bl3
  have by4 := bs_of_owns o3 hyy.pack
  have xx4 := (x1.below bl2).below bl3
  have hnx := nil_cap o2
  have hny := nil_cap o3
  have hcx := cap_of_owns o2
  have hn2 : n2 ≤ 4100 := by have := bx4.1; omega
  have hn3 : n3 ≤ 4100 := by have := by4.1; omega
  have hln : (pack xs).length = n2 := bx4.1
  have HT : Hid (unpack (pack xs ++ pack ys) ((l : Int) + m) = (xs ++ ys, 0)) := by rw [Hid, ← hzx, ← hzy]; exact Lz.unpack_two xs ys
  have HX : Hid ((xs ++ ys).take l = xs) := by rw [Hid, List.take_append_of_le_length (by omega), List.take_of_length_le (by omega)]
  have HY : Hid (xs.length = l ∧ ys.length = m) := ⟨hzx, hzy⟩
  clear o2 o3 bl2 bl3 x1 y1 hby hpx hpy hB0 hnil0 hnil1
  by_cases d1 : 0 ≤ a2 ∧ a2 < (n2 : Int)
  · obtain ⟨d1, d2⟩ := d1
    obtain ⟨J, rfl⟩ := Int.eq_ofNat_of_zero_le d1
    obtain ⟨k, er, hk, her, hun⟩ := cut_any xs J
    have HU : Hid (unpack ((pack xs).take J) (l : Int) = (xs.take k, er)) := by rw [Hid, ← hzx]; exact hun
    have cx4 := bx4.take J (by omega)
    rw [hzx] at hk
    clear hun hzx hzy hln
    go_wp2_with fail
    refine (Unpack_any J c2 l ao2 ((pack xs).take J) w4 cx4 (by omega) (by omega) (by omega)).mono ?_
    rintro r w5 ⟨ao4, n4, c4, rfl, o4, bl4⟩
    rw [HU.out] at o4 ⊢
    have b4 := bs_of_owns o4 (hyx.take k)
    have hn4 : n4 = k := by have := b4.1; have := xx4.1; simp at *; omega
    subst hn4
    have s1 := fun nq => str_any (w := w5.drewN nq) b4 c4
    have s2 := fun nq => str_any (w := w5.drewN nq) ((xx4.below bl4).take n4 (by omega)) cap0
    have bx0 := bx4.below bl4
    have by0 := by4.below bl4
    have hBX : Below w.heap.size w w5 := hB4.trans (bl4.mono hB4.size)
    have q3 : decide ((l : Int) < (n4 : Int)) = false := by simp; omega
    have i1 : (0 : Int) ≤ (n4 : Int) := by omega
    have i2 : (n4 : Int) ≤ (cap0 : Int) := by omega
    have i3 : n4 ≤ cap0 := by omega
    clear o4 bl4 b4 cx4 bx4 by4 xx4 hB4 HU
    rcases her with rfl | rfl
    · go_wp2
      go_quiet (fail)
      obtain ⟨WX, hWX⟩ : ∃ WX, WX = w5.drewN nq := ⟨_, rfl⟩
      rw [← hWX]
      have hBX : Below w.heap.size w WX := by rw [hWX]; exact below_drewN hBX nq
      have bx0 : Bs WX ao2 n2 (pack xs) := by rw [hWX]; exact bx0
      have by0 : Bs WX ao3 n3 (pack ys) := by rw [hWX]; exact by0
      clear hWX s1 s2 i1 i2 i3 q3
      go_wp2_with (first
        | (at_builtin; refine wpList_append_bs _ rfl (.tmp 78) (.tmp 79) rfl w.heap.size _ 0 0 [] rfl (emptyB hBX.size) ao2 n2 c2 (pack xs) rfl (bx0.alloc _) hnx (by omega) (Nat.le_trans hBX.size (by simp)) ?_; intro ao5 c5 w6 o5 k5; simp only [Nat.zero_add, List.nil_append] at o5; have hW5 : Below WX.heap.size WX w6 := ((Below.refl _ _).alloc (Nat.le_refl _) _).grown k5 (by simp) (fun k e => by simp [Value.ownBlock] at e; omega); have by5 := by0.below hW5; have hB6 : Below w.heap.size w w6 := hBX.trans (hW5.mono hBX.size); clear k5)
        | (at_builtin; refine wpList_append_bs _ rfl (.tmp 80) (.tmp 81) rfl w.heap.size ao5 n2 c5 (pack xs) rfl o5 ao3 n3 c3 (pack ys) rfl by5 hny (by omega) hB6.size ?_; intro ao6 c6 w7 o6 k6; have hB7 : Below w.heap.size w w7 := hB6.trans (grown_below hB6.size o5 k6); clear k6))
      have b6 := bs_of_owns o6 (hyx.pack.append hyy.pack)
      have hc6 := cap_of_owns o6
      refine (Unpack_any (n2 + n3) c6 ((l : Int) + m) ao6 (pack xs ++ pack ys) w7 b6 hc6 (by omega) (by omega)).mono ?_
      rintro r w8 ⟨ao7, n7, c7, rfl, o7, bl7⟩
      rw [HT.out] at o7 ⊢
      have b7 := bs_of_owns o7 (hyx.append hyy)
      have hn7 : n7 = l + m := by have := b7.1; rw [List.length_append] at this; have := HY.out; omega
      subst hn7
      have hB8 : Below w.heap.size w w8 := hB7.trans (bl7.mono hB7.size)
      have hc7 := cap_of_owns o7
      have t7 := b7.take l (by omega)
      rw [HX.out] at t7
      have s3 := fun nq => str_any (w := w8.drewN nq) t7 c7
      have s4 := fun nq => str_any (w := w8.drewN nq) (hbx.below (below_drewN hB8 nq)) cap0
      have j1 : (0 : Int) ≤ (l : Int) := by omega
      have j2 : (l : Int) ≤ (c7 : Int) := by omega
      have j3 : l ≤ c7 := by omega
      clear o7 b7 t7 b6 o6 o5 by5 hW5 hB6 hB7 bl7 bx0 by0 hBX HT HX HY hbx hnx hny
      go_wp2
      go_quiet (fail)
      go_wp2
      go_ret
      exact ⟨rfl, below_drewN hB8 _⟩
    · go_wp2
      go_quiet (fail)
      obtain ⟨WX, hWX⟩ : ∃ WX, WX = w5.drewN nq := ⟨_, rfl⟩
      rw [← hWX]
      have hBX : Below w.heap.size w WX := by rw [hWX]; exact below_drewN hBX nq
      have bx0 : Bs WX ao2 n2 (pack xs) := by rw [hWX]; exact bx0
      have by0 : Bs WX ao3 n3 (pack ys) := by rw [hWX]; exact by0
      clear hWX s1 s2 i1 i2 i3 q3
      go_wp2_with (first
        | (at_builtin; refine wpList_append_bs _ rfl (.tmp 78) (.tmp 79) rfl w.heap.size _ 0 0 [] rfl (emptyB hBX.size) ao2 n2 c2 (pack xs) rfl (bx0.alloc _) hnx (by omega) (Nat.le_trans hBX.size (by simp)) ?_; intro ao5 c5 w6 o5 k5; simp only [Nat.zero_add, List.nil_append] at o5; have hW5 : Below WX.heap.size WX w6 := ((Below.refl _ _).alloc (Nat.le_refl _) _).grown k5 (by simp) (fun k e => by simp [Value.ownBlock] at e; omega); have by5 := by0.below hW5; have hB6 : Below w.heap.size w w6 := hBX.trans (hW5.mono hBX.size); clear k5)
        | (at_builtin; refine wpList_append_bs _ rfl (.tmp 80) (.tmp 81) rfl w.heap.size ao5 n2 c5 (pack xs) rfl o5 ao3 n3 c3 (pack ys) rfl by5 hny (by omega) hB6.size ?_; intro ao6 c6 w7 o6 k6; have hB7 : Below w.heap.size w w7 := hB6.trans (grown_below hB6.size o5 k6); clear k6))
      have b6 := bs_of_owns o6 (hyx.pack.append hyy.pack)
      have hc6 := cap_of_owns o6
      refine (Unpack_any (n2 + n3) c6 ((l : Int) + m) ao6 (pack xs ++ pack ys) w7 b6 hc6 (by omega) (by omega)).mono ?_
      rintro r w8 ⟨ao7, n7, c7, rfl, o7, bl7⟩
      rw [HT.out] at o7 ⊢
      have b7 := bs_of_owns o7 (hyx.append hyy)
      have hn7 : n7 = l + m := by have := b7.1; rw [List.length_append] at this; have := HY.out; omega
      subst hn7
      have hB8 : Below w.heap.size w w8 := hB7.trans (bl7.mono hB7.size)
      have hc7 := cap_of_owns o7
      have t7 := b7.take l (by omega)
      rw [HX.out] at t7
      have s3 := fun nq => str_any (w := w8.drewN nq) t7 c7
      have s4 := fun nq => str_any (w := w8.drewN nq) (hbx.below (below_drewN hB8 nq)) cap0
      have j1 : (0 : Int) ≤ (l : Int) := by omega
      have j2 : (l : Int) ≤ (c7 : Int) := by omega
      have j3 : l ≤ c7 := by omega
      clear o7 b7 t7 b6 o6 o5 by5 hW5 hB6 hB7 bl7 bx0 by0 hBX HT HX HY hbx hnx hny
      go_wp2
      go_quiet (fail)
      go_wp2
      go_ret
      exact ⟨rfl, below_drewN hB8 _⟩
  · have bx0 := bx4
    have by0 := by4
    have hBX := hB4
    clear bx4 by4 hB4 xx4 hzx hzy hln
    rcases (show a2 < 0 ∨ (0 ≤ a2 ∧ (n2 : Int) ≤ a2) by omega) with d2 | ⟨d2, d3⟩
    · go_wp2_with (first
        | (at_builtin; refine wpList_append_bs _ rfl (.tmp 78) (.tmp 79) rfl w.heap.size _ 0 0 [] rfl (emptyB hBX.size) ao2 n2 c2 (pack xs) rfl (bx0.alloc _) hnx (by omega) (Nat.le_trans hBX.size (by simp)) ?_; intro ao5 c5 w6 o5 k5; simp only [Nat.zero_add, List.nil_append] at o5; have hW5 : Below w4.heap.size w4 w6 := ((Below.refl _ _).alloc (Nat.le_refl _) _).grown k5 (by simp) (fun k e => by simp [Value.ownBlock] at e; omega); have by5 := by0.below hW5; have hB6 : Below w.heap.size w w6 := hBX.trans (hW5.mono hBX.size); clear k5)
        | (at_builtin; refine wpList_append_bs _ rfl (.tmp 80) (.tmp 81) rfl w.heap.size ao5 n2 c5 (pack xs) rfl o5 ao3 n3 c3 (pack ys) rfl by5 hny (by omega) hB6.size ?_; intro ao6 c6 w7 o6 k6; have hB7 : Below w.heap.size w w7 := hB6.trans (grown_below hB6.size o5 k6); clear k6))
      have b6 := bs_of_owns o6 (hyx.pack.append hyy.pack)
      have hc6 := cap_of_owns o6
      refine (Unpack_any (n2 + n3) c6 ((l : Int) + m) ao6 (pack xs ++ pack ys) w7 b6 hc6 (by omega) (by omega)).mono ?_
      rintro r w8 ⟨ao7, n7, c7, rfl, o7, bl7⟩
      rw [HT.out] at o7 ⊢
      have b7 := bs_of_owns o7 (hyx.append hyy)
      have hn7 : n7 = l + m := by have := b7.1; rw [List.length_append] at this; have := HY.out; omega
      subst hn7
      have hB8 : Below w.heap.size w w8 := hB7.trans (bl7.mono hB7.size)
      have hc7 := cap_of_owns o7
      have t7 := b7.take l (by omega)
      rw [HX.out] at t7
      have s3 := fun nq => str_any (w := w8.drewN nq) t7 c7
      have s4 := fun nq => str_any (w := w8.drewN nq) (hbx.below (below_drewN hB8 nq)) cap0
      have j1 : (0 : Int) ≤ (l : Int) := by omega
      have j2 : (l : Int) ≤ (c7 : Int) := by omega
      have j3 : l ≤ c7 := by omega
      clear o7 b7 t7 b6 o6 o5 by5 hW5 hB6 hB7 bl7 bx0 by0 hBX HT HX HY hbx hnx hny
      go_wp2
      go_quiet (fail)
      go_wp2
      go_ret
      exact ⟨rfl, below_drewN hB8 _⟩
    · go_wp2_with (first
        | (at_builtin; refine wpList_append_bs _ rfl (.tmp 78) (.tmp 79) rfl w.heap.size _ 0 0 [] rfl (emptyB hBX.size) ao2 n2 c2 (pack xs) rfl (bx0.alloc _) hnx (by omega) (Nat.le_trans hBX.size (by simp)) ?_; intro ao5 c5 w6 o5 k5; simp only [Nat.zero_add, List.nil_append] at o5; have hW5 : Below w4.heap.size w4 w6 := ((Below.refl _ _).alloc (Nat.le_refl _) _).grown k5 (by simp) (fun k e => by simp [Value.ownBlock] at e; omega); have by5 := by0.below hW5; have hB6 : Below w.heap.size w w6 := hBX.trans (hW5.mono hBX.size); clear k5)
        | (at_builtin; refine wpList_append_bs _ rfl (.tmp 80) (.tmp 81) rfl w.heap.size ao5 n2 c5 (pack xs) rfl o5 ao3 n3 c3 (pack ys) rfl by5 hny (by omega) hB6.size ?_; intro ao6 c6 w7 o6 k6; have hB7 : Below w.heap.size w w7 := hB6.trans (grown_below hB6.size o5 k6); clear k6))
      have b6 := bs_of_owns o6 (hyx.pack.append hyy.pack)
      have hc6 := cap_of_owns o6
      refine (Unpack_any (n2 + n3) c6 ((l : Int) + m) ao6 (pack xs ++ pack ys) w7 b6 hc6 (by omega) (by omega)).mono ?_
      rintro r w8 ⟨ao7, n7, c7, rfl, o7, bl7⟩
      rw [HT.out] at o7 ⊢
      have b7 := bs_of_owns o7 (hyx.append hyy)
      have hn7 : n7 = l + m := by have := b7.1; rw [List.length_append] at this; have := HY.out; omega
      subst hn7
      have hB8 : Below w.heap.size w w8 := hB7.trans (bl7.mono hB7.size)
      have hc7 := cap_of_owns o7
      have t7 := b7.take l (by omega)
      rw [HX.out] at t7
      have s3 := fun nq => str_any (w := w8.drewN nq) t7 c7
      have s4 := fun nq => str_any (w := w8.drewN nq) (hbx.below (below_drewN hB8 nq)) cap0
      have j1 : (0 : Int) ≤ (l : Int) := by omega
      have j2 : (l : Int) ≤ (c7 : Int) := by omega
      have j3 : l ≤ c7 := by omega
      clear o7 b7 t7 b6 o6 o5 by5 hW5 hB6 hB7 bl7 bx0 by0 hBX HT HX HY hbx hnx hny
      go_wp2
      go_quiet (fail)
      go_wp2
      go_ret
      exact ⟨rfl, below_drewN hB8 _⟩
end Go.Proofs.Ytaobfoenopccjab

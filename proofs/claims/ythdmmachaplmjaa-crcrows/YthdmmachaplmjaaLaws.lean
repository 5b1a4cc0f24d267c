/- The walks of CrcTables, CrcSums and CrcTurned: each returns true and writes nothing that was there. -/
import Derived.Test.YthdmmachaplmjaaShown
namespace Go.Proofs.Ythdmmachaplmjaa
set_option linter.unusedVariables false
open Go.RowKit Go.Maps
open Lz (g)
open Crc (stp steps ent bt run more)

set_option maxRecDepth 100000 in
set_option maxHeartbeats 4000000 in
theorem tables_walk (a0 : Int) (w0 : (Lit.int .i64 a0).wf = true) (w : World) :
    Calls Try.prog 3 #[.int .i64 a0] w fun e w' => e = .returned (.bool true) ∧ Below w.heap.size w w' := by
  obtain ⟨hz, hi'⟩ := zero_of_info infoTable
  obtain ⟨ha1, ha2⟩ := wf_i64_bd w0
  obtain ⟨K, hK, hcase⟩ : ∃ K : Nat, K < 256 ∧ (a0.tmod 256 = (K : Int) ∨ (0 < K ∧ a0.tmod 256 = -(K : Int))) := by
    have t1 := Int.tmod_lt_of_pos a0 (show (0 : Int) < 256 by omega)
    have t2 := Int.neg_tmod a0 256
    have t3 := Int.tmod_lt_of_pos (-a0) (show (0 : Int) < 256 by omega)
    refine ⟨(a0.tmod 256).natAbs, by omega, ?_⟩
    omega
  clear w0
  go_enter Try.func3, Try.ntmps3
  go_wp2_with fail
  refine (shown_any w).mono ?_
  rintro r ws ⟨rfl, hbs0⟩
  have hK0 : decide ((K : Int) < 0) = false := by simp
  rcases hcase with hk | ⟨hpos, hk⟩
  all_goals
    go_wp2_with fail
    refine (New_any ws).mono ?_
    rintro r w1 ⟨rfl, hbel⟩
    obtain ⟨C, hC⟩ : ∃ C, C = tab ent := ⟨_, rfl⟩
    rw [← hC]
    have HC : Hid (C = tab ent) := hC
    clear hC
    go_wp2_with (refine wpList_store_table rfl _ _ rfl ent C HC.out rfl rfl _ (by simp) ?_; intro w2 ht2 hT2 hlt2 hb2')
    have hc := hT2 K hK
    have i1 : (0 : Int) ≤ (K : Int) := by omega
    have i2 : (K : Int) < 256 := by omega
    have HB : Hid (Below w.heap.size w w2) := by
      have e1 := hbs0.trans (hbel.mono hbs0.size)
      exact e1.trans (hb2'.mono e1.size)
    clear hk ht2 hT2 hlt2 hb2' hbel hbs0
    go_quiet (first | (go_at_call 11; refine Calls.quiet_of_same (refEntry_any K _ (by omega))))
    go_wp2
    go_ret
    exact ⟨by simp, below_drewN HB.out _⟩

set_option maxRecDepth 100000 in
set_option maxHeartbeats 4000000 in
theorem sums_walk (a0 : Option Addr) (len0 cap0 : Nat) (z0 : List Int) (w : World) (w0 : RowB w a0 len0 cap0 z0) :
    Calls Try.prog 4 #[.slice a0 len0 cap0] w fun e w' => e = .returned (.bool true) ∧ Below w.heap.size w w' := by
  obtain ⟨hz, hi'⟩ := zero_of_info infoTable
  obtain ⟨hbs, hlc, hcm, hby, hnil⟩ := w0.bs (min len0 600) (by omega)
  generalize z0.take (min len0 600) = zs at hbs hby
  clear w0
  go_enter Try.func4, Try.ntmps4
  go_wp2_with fail
  refine (shown_any w).mono ?_
  rintro r ws ⟨rfl, hbs0⟩
  go_wp2_with fail
  refine (few_any a0 len0 cap0 ws hlc).mono ?_
  rintro r wx ⟨rfl, rfl⟩
  have h1 := hbs.below hbs0
  generalize hm : min len0 600 = m at *
  have hm1 : m ≤ 600 := by omega
  have hm2 : m ≤ cap0 := by omega
  clear hm
  go_wp2_with (at_builtin; refine wpList_append_bs _ rfl _ _ rfl w.heap.size _ 0 0 [] rfl (emptyB hbs0.size) a0 m cap0 zs rfl (h1.alloc _) hnil (by omega) (Nat.le_trans hbs0.size (by simp)) ?_; intro ao1 c1 w1 o1 k1)
  simp only [Nat.zero_add, List.nil_append] at o1
  have b1 := bs_of_owns o1 hby
  have hb1 : Below wx.heap.size wx w1 := ((Below.refl _ _).alloc (Nat.le_refl _) _).grown k1 (by simp) (fun k e => by simp [Value.ownBlock] at e; omega)
  clear k1 o1
  refine (New_any w1).mono ?_
  rintro r w2 ⟨rfl, hbel⟩
  obtain ⟨C, hC⟩ : ∃ C, C = tab ent := ⟨_, rfl⟩
  rw [← hC]
  have HC : Hid (C = tab ent) := hC
  clear hC
  go_wp2_with (refine wpList_store_table rfl _ _ rfl ent C HC.out rfl rfl _ (by simp) ?_; intro w3 ht3 hT3 hlt3 hb3)
  have q1 := (b1.below hbel).below hb3
  have q0 := ((h1.below hb1).below hbel).below hb3
  refine (Sum_any w2.heap.size m c1 ent ao1 zs w3 hT3 small_ent q1 (by omega)).mono ?_
  rintro r wy ⟨rfl, rfl⟩
  go_wp2_with fail
  refine (refSum_any m cap0 a0 zs wy q0 (by omega)).mono ?_
  rintro r wz ⟨rfl, rfl⟩
  have s1 := str_any q1 c1
  have s2 := str_any q0 cap0
  have HB : Hid (Below w.heap.size w wz) := by
    have e1 := hbs0.trans (hb1.mono hbs0.size)
    have e2 := e1.trans (hbel.mono e1.size)
    exact e2.trans (hb3.mono e2.size)
  clear h1 hbs hb1 hbs0 b1 hnil q1 q0 hT3 ht3 hlt3 hbel hb3
  go_wp2
  go_ret
  exact ⟨rfl, HB.out⟩

theorem split_at (zs : List Int) (k : Nat) (h : k < zs.length) (y : Int) : ∃ a b, zs = a ++ g zs k :: b ∧ zs.set k y = a ++ y :: b :=
  ⟨zs.take k, zs.drop (k + 1), by rw [Lz.g_lt _ _ h, List.getElem_cons_drop, List.take_append_drop], by rw [List.set_eq_take_append_cons_drop, if_pos h]⟩
theorem bv_set (zs : List Int) (k : Nat) (y : Int) : (bv zs).set k (.int .u8 y) = bv (zs.set k y) := by simp [bv, List.map_set]
theorem Bytes.set {zs : List Int} (h : Bytes zs) (k : Nat) (y : Int) (hy : 0 ≤ y ∧ y ≤ 255) : Bytes (zs.set k y) := fun x hx => by
  rcases List.mem_or_eq_of_mem_set hx with h1 | rfl
  · exact h x h1
  · exact hy

set_option maxRecDepth 100000 in
set_option maxHeartbeats 4000000 in
theorem turned_walk (a0 : Option Addr) (len0 cap0 : Nat) (z0 : List Int) (a1 : Int) (a2 : Int) (w : World) (w0 : RowB w a0 len0 cap0 z0) (w1 : (Lit.int .i64 a1).wf = true) (w2 : (Lit.int .u8 a2).wf = true) :
    Calls Try.prog 7 #[.slice a0 len0 cap0, .int .i64 a1, .int .u8 a2] w fun e w' => e = .returned (.bool true) ∧ Below w.heap.size w w' := by
  obtain ⟨hz, hi'⟩ := zero_of_info infoTable
  obtain ⟨ha1, ha2⟩ := wf_i64_bd w1
  obtain ⟨hc1, hc2⟩ := wf_u8 w2
  obtain ⟨hbs, hlc, hcm, hby, hnil⟩ := w0.bs (min len0 600) (by omega)
  generalize z0.take (min len0 600) = zs at hbs hby
  clear w0 w1 w2
  go_enter Try.func7, Try.ntmps7
  go_wp2_with fail
  refine (shown_any w).mono ?_
  rintro r ws ⟨rfl, hbs0⟩
  go_wp2_with fail
  refine (few_any a0 len0 cap0 _ hlc).mono ?_
  rintro r wx ⟨rfl, rfl⟩
  have h1 := hbs.below hbs0
  generalize hm : min len0 600 = m at *
  have hm1 : m ≤ 600 := by omega
  have hm2 : m ≤ cap0 := by omega
  clear hm
  by_cases hgood : 0 ≤ a1 ∧ a1 < (m : Int) ∧ a2 ≠ 0
  · obtain ⟨g1, g2, g3⟩ := hgood
    obtain ⟨k, rfl⟩ : ∃ k : Nat, a1 = (k : Int) := ⟨a1.toNat, by omega⟩
    have hkm : k < m := by omega
    obtain ⟨d, rfl⟩ : ∃ d : Nat, a2 = (d : Int) := ⟨a2.toNat, by omega⟩
    have t1 : decide ((k : Int) < 0) = false := by simp
    have t2 : decide ((m : Int) ≤ (k : Int)) = false := by simp; omega
    have t3 : ((d : Int) == 0) = false := by simp; omega
    go_wp2_with (at_builtin; refine wpList_append_bs _ rfl _ _ rfl w.heap.size _ 0 0 [] rfl (emptyB hbs0.size) a0 m cap0 zs rfl (h1.alloc _) hnil (by omega) (Nat.le_trans hbs0.size (by simp)) ?_; intro ao1 c1 w1 o1 k1; simp only [Nat.zero_add, List.nil_append] at o1; have hb1 : Below ws.heap.size ws w1 := ((Below.refl _ _).alloc (Nat.le_refl _) _).grown k1 (by simp) (fun k e => by simp [Value.ownBlock] at e; omega); clear k1)
    refine (New_any w1).mono ?_
    rintro r w2 ⟨rfl, hbel⟩
    obtain ⟨C, hC⟩ : ∃ C, C = tab ent := ⟨_, rfl⟩
    rw [← hC]
    have HC : Hid (C = tab ent) := hC
    clear hC
    go_wp2_with (refine wpList_store_table rfl _ _ rfl ent C HC.out rfl rfl _ (by simp) ?_; intro w3 ht3 hT3 hlt3 hb3)
    have o3 := owns_below (owns_below o1 hbel) hb3
    have b3 := bs_of_owns o3 hby
    refine (Sum_any w2.heap.size m c1 ent ao1 zs w3 hT3 small_ent b3 (by omega)).mono ?_
    rintro r wy ⟨rfl, rfl⟩
    obtain ⟨gb, c', hv, hgb, hglt⟩ := o1.form (by omega)
    obtain ⟨rfl, _, rfl⟩ : ao1 = some ⟨gb, 0, none⟩ ∧ m = m ∧ c1 = c' := by simpa using hv
    have hzl : zs.length = m := hbs.1
    obtain ⟨x, hx⟩ : ∃ x : Nat, g zs k = (x : Int) := ⟨(g zs k).toNat, by have := hby.g k; omega⟩
    have hx255 : x ≤ 255 := by have := hby.g k; omega
    have hcell : wy.cell? ⟨gb, k, none⟩ = some (.int .u8 (x : Int)) := by
      rw [← hx, o3.cellAt k (by omega)]
      unfold bv
      rw [List.getElem?_map, List.getElem?_eq_getElem (by omega), Lz.g_lt _ _ (by omega)]; rfl
    have hfr := o3.frozenAt k
    have ex := u8_xor_nat x d (by omega) (by omega)
    have hy255 : x ^^^ d < 256 := Nat.xor_lt_two_pow (n := 8) (by omega) (by omega)
    have hxy : x ^^^ d ≠ x := fun e => by
      have : x ^^^ d = x ^^^ 0 := by rw [e, Nat.xor_zero]
      have := Crc.xor_left_cancel this
      omega
    have hst := (o3.stored k (.int .u8 ((x ^^^ d : Nat) : Int))).1
    rw [bv_set] at hst
    have HQ : Hid (more ent 0 (zs.set k ((x ^^^ d : Nat) : Int)) ≠ more ent 0 zs) := by
      obtain ⟨A, B, e1, e2⟩ := split_at zs k (by omega) ((x ^^^ d : Nat) : Int)
      rw [hx] at e1
      rw [e2]
      conv => rhs; rw [e1]
      exact Crc.more_turned A B _ _ (by omega) (by omega) (by omega)
    have hby2 := hby.set k ((x ^^^ d : Nat) : Int) (by omega)
    generalize x ^^^ d = y at *
    obtain ⟨w5, hw5⟩ : ∃ w5, w5 = wy.setCell ⟨gb, k, none⟩ (.int .u8 (y : Int)) := ⟨_, rfl⟩
    have b5 : Bs w5 (some ⟨gb, 0, none⟩) m (zs.set k (y : Int)) := by rw [hw5]; exact bs_of_owns hst hby2
    have hgw : gb ≠ w2.heap.size := by have := hbel.size; omega
    have hT5 : Tb w5 w2.heap.size ent := fun i hi => by
      rw [hw5, ← hT3 i hi]
      exact World.cell?_setCell_other _ _ _ _ (fun e => hgw (congrArg Addr.block e))
    have HB : Hid (Below w.heap.size w w5) := by
      have e1 := hbs0.trans (hb1.mono hbs0.size)
      have e2 := e1.trans (hbel.mono e1.size)
      have e3 := e2.trans (hb3.mono e2.size)
      rw [hw5]
      exact e3.setCell (by exact hgb) _
    have HW5 : Hid (w5 = wy.setCell ⟨gb, k, none⟩ (.int .u8 (y : Int))) := hw5
    clear hst hv hT3 hb3 ht3 b3 o3 o1 hbel hb1 hbs hbs0 h1 hw5 hx hzl hnil hxy
    obtain ⟨S1, hS1⟩ : ∃ S1, S1 = more ent 0 zs := ⟨_, rfl⟩
    rw [← hS1] at HQ ⊢
    clear hS1
    go_wp2_with fail
    rw [← HW5.out]
    refine (Sum_any w2.heap.size m c1 ent _ _ w5 hT5 small_ent b5 (by omega)).mono ?_
    rintro r w6 ⟨rfl, rfl⟩
    obtain ⟨S2, hS2⟩ : ∃ S2, S2 = more ent 0 (zs.set k (y : Int)) := ⟨_, rfl⟩
    rw [← hS2] at HQ ⊢
    clear hS2 hT5 b5
    have n1 : ((S2 : Int) != (S1 : Int)) = true := by
      have := HQ.out
      simp; omega
    go_wp2
    go_ret
    exact ⟨rfl, HB.out⟩
  · by_cases u1 : a1 < 0
    · go_wp2_with (at_builtin; refine wpList_append_bs _ rfl _ _ rfl w.heap.size _ 0 0 [] rfl (emptyB hbs0.size) a0 m cap0 zs rfl (h1.alloc _) hnil (by omega) (Nat.le_trans hbs0.size (by simp)) ?_; intro ao1 c1 w1 o1 k1; simp only [Nat.zero_add, List.nil_append] at o1; have hb1 : Below ws.heap.size ws w1 := ((Below.refl _ _).alloc (Nat.le_refl _) _).grown k1 (by simp) (fun k e => by simp [Value.ownBlock] at e; omega); clear k1)
      go_ret
      exact ⟨rfl, hbs0.trans (hb1.mono hbs0.size)⟩
    by_cases u2 : (m : Int) ≤ a1
    · go_wp2_with (at_builtin; refine wpList_append_bs _ rfl _ _ rfl w.heap.size _ 0 0 [] rfl (emptyB hbs0.size) a0 m cap0 zs rfl (h1.alloc _) hnil (by omega) (Nat.le_trans hbs0.size (by simp)) ?_; intro ao1 c1 w1 o1 k1; simp only [Nat.zero_add, List.nil_append] at o1; have hb1 : Below ws.heap.size ws w1 := ((Below.refl _ _).alloc (Nat.le_refl _) _).grown k1 (by simp) (fun k e => by simp [Value.ownBlock] at e; omega); clear k1)
      go_ret
      exact ⟨rfl, hbs0.trans (hb1.mono hbs0.size)⟩
    · obtain rfl : a2 = 0 := by omega
      go_wp2_with (at_builtin; refine wpList_append_bs _ rfl _ _ rfl w.heap.size _ 0 0 [] rfl (emptyB hbs0.size) a0 m cap0 zs rfl (h1.alloc _) hnil (by omega) (Nat.le_trans hbs0.size (by simp)) ?_; intro ao1 c1 w1 o1 k1; simp only [Nat.zero_add, List.nil_append] at o1; have hb1 : Below ws.heap.size ws w1 := ((Below.refl _ _).alloc (Nat.le_refl _) _).grown k1 (by simp) (fun k e => by simp [Value.ownBlock] at e; omega); clear k1)
      go_ret
      exact ⟨rfl, hbs0.trans (hb1.mono hbs0.size)⟩
end Go.Proofs.Ythdmmachaplmjaa

/- Layer 8: SuperTurned: a superblock of which one byte is turned into another one is none. -/
import Derived.Test.YthghodmjpdooaaaDoorSupTakes
import Derived.Test.YthghodmjpdooaaaDoorSupPuts
namespace Go.Proofs.YthghodmjpdooaaaDoor
set_option linter.unusedVariables false
open Go.RowKit Go.Maps
open Lz (g)
open Crc (ent more)
open Cur
open Sup

theorem run_store_int (w : World) (H k : Nat) (z : Int) (u : Value) (hc : w.cell? ⟨H, k, none⟩ = some u) (hf : w.frozen? ⟨H, k, none⟩ = false) : (storeVar 3 ⟨H, k, none⟩ (.int .i64 z)).run Tryd.prog w = .ok () (w.setCell ⟨H, k, none⟩ (.int .i64 z)) := by
  go_simp
/-- A field of a struct of the call's own is written. -/
theorem wpList_store_field {ops : Array Oper} {rest : List Oper} {o : Oper} {a : Act} {w : World} {Q : Exit → Act → World → Prop} (hgd : o.guard = none) (x y : Operand) (ho : o.op = .store 3 x y)
    (H k : Nat) (z : Int) (hx : a.eval x = .pointer (some ⟨H, k, none⟩)) (hy : a.eval y = .int .i64 z) (cs : Array Value) (t : TypeId) (hg : w.heap[H]? = some (.cells cs t (0, 0))) (hk : (cs[k]?).isSome = true)
    (h : ∀ w', w'.heap[H]? = some (.cells (cs.setIfInBounds k (.int .i64 z)) t (0, 0)) → Fr (One H) w w' → wpList Tryd.prog ops Q rest (a.put o.dst undef) w') : wpList Tryd.prog ops Q (o :: rest) a w := by
  obtain ⟨u, hu⟩ := Option.isSome_iff_exists.1 hk
  refine wpList_plain hgd fun _ hK => ?_
  unfold Oper.wp execOp
  simp only [ho, hx, hy, Instr.storeAt, Instr.sureAddr, Sem.run_bind, Sem.run_pure, Result.andThen_ok, run_store_int w H k z u (by rw [cell_of_row _ _ _ _ _ _ hg, hu]) (by simp [World.frozen?, hg])]
  exact hK _ _ (h _ (heap_setCell_self hg _) ((Fr.refl _ _).set _ (fun _ => rfl)))
def x8 (a b : Int) : Int := ((a.toNat ^^^ b.toNat : Nat) : Int)
theorem x8_bd {a b : Int} (ha : 0 ≤ a ∧ a ≤ 255) (hb : 0 ≤ b ∧ b ≤ 255) : 0 ≤ x8 a b ∧ x8 a b ≤ 255 := by
  have := Nat.xor_lt_two_pow (n := 8) (x := a.toNat) (y := b.toNat) (by omega) (by omega)
  unfold x8; omega
theorem xor8 {a b : Int} (ha : 0 ≤ a ∧ a ≤ 255) (hb : 0 ≤ b ∧ b ≤ 255) : bits .xor .u8 a b = x8 a b := by
  obtain ⟨x, rfl⟩ : ∃ x : Nat, a = (x : Int) := ⟨a.toNat, by omega⟩
  obtain ⟨y, rfl⟩ : ∃ y : Nat, b = (y : Int) := ⟨b.toNat, by omega⟩
  rw [u8_xor_nat x y (by omega) (by omega)]; rfl
theorem x8_ne {x d : Int} (hx : 0 ≤ x ∧ x ≤ 255) (hd : 0 ≤ d ∧ d ≤ 255) (h0 : d ≠ 0) : x8 x d ≠ x := fun h => by
  unfold x8 at h
  have h2 : x.toNat ^^^ d.toNat = x.toNat ^^^ 0 := by rw [Nat.xor_zero]; omega
  have := Crc.xor_left_cancel h2
  omega
theorem g_set_same (z : List Int) (k : Nat) (y : Int) (h : k < z.length) : g (z.set k y) k = y := by simp [g, h]
theorem g_set_other (z : List Int) (k i : Nat) (y : Int) (h : k ≠ i) : g (z.set k y) i = g z i := by simp [g, h]
/-- One byte of a row is turned. -/
theorem bs_set {w : World} {b n k : Nat} {zs : List Int} {y : Int} (h : Bs w (some ⟨b, 0, none⟩) n zs) (hk : k < n) (hy : 0 ≤ y ∧ y ≤ 255) : Bs (w.setCell ⟨b, k, none⟩ (.int .u8 y)) (some ⟨b, 0, none⟩) n (zs.set k y) := by
  have hz := h.1
  have hb := h.bytes
  refine ⟨by simp [hz], ?_, ?_⟩
  · refine Bytes.g (fun x hx => ?_)
    rcases List.mem_or_eq_of_mem_set hx with h1 | rfl
    · exact hb x h1
    · exact hy
  · rcases h.2.2 with h0 | ⟨b', off, e, h2, h3⟩
    · omega
    · cases e
      refine .inr ⟨b, 0, rfl, by simpa [World.setCell] using h2, fun i hi => ?_⟩
      rw [Nat.zero_add]
      by_cases e : k = i
      · subst e
        have := h3 k (by omega)
        rw [Nat.zero_add] at this
        rw [World.cell?_setCell_same _ _ _ this, g_set_same _ _ _ (by omega)]
      · have := h3 i (by simpa using hi)
        rw [Nat.zero_add] at this
        rw [World.cell?_setCell_other _ _ _ _ (fun h => e (congrArg Addr.off h)), this, g_set_other _ _ _ _ e]
/-- The superblock of an image of 64 bytes. -/
def s64 (s : Sb) : Sb := ⟨64, s.inodes, 64, 64, 64, 64, 64, s.ids, s.frags, s.root⟩
set_option maxRecDepth 100000 in
set_option maxHeartbeats 4000000 in
theorem turned_walk (s : Sb) (at' by1 : Int) (w : World) (hat : (Lit.int .i64 at').wf = true) (hby : (Lit.int .u8 by1).wf = true) (hW : Wid w) :
    Calls Tryd.prog 6 #[.agg (sv s), .int .i64 at', .int .u8 by1] w fun e w' => e = .returned (.bool true) ∧ Below w.heap.size w w' := by
  obtain ⟨hz, hi'⟩ := zero_of_info infoTable
  have hat2 := wf_i64_bd hat
  have hby2 := wf_u8 hby
  have HW := hide hW
  obtain ⟨w0, hw0⟩ : ∃ w0, w0 = w.alloc (.cells (sv s) 23) := ⟨_, rfl⟩
  have hx0 : w0.heap[w.heap.size]? = some (.cells (sv s) 23 (0, 0)) := by rw [hw0]; exact heap_new rfl
  have b0 : Below w.heap.size w w0 := by rw [hw0]; exact (Below.refl _ _).alloc (Nat.le_refl _) _
  have hlt0 := heap_lt hx0
  have HX0 := hide hx0
  have HW0 := hide hw0
  have HB0 := hide b0
  clear hW hw0 hx0 b0 hat hby
  unfold sv at HW0
  unfold sv
  go_enter Tryd.func6, Tryd.ntmps6
  go_wp2_with fail
  rw [← HW0.out]
  refine (shown_any w0 (HW.out.below HB0.out HW.out.pos)).mono ?_
  rintro r w1 ⟨rfl, b1⟩
  have HB1 := hide b1
  clear b1
  go_wp2_with fail
  refine (New_any w1).mono ?_
  rintro r w2 ⟨rfl, b2⟩
  obtain ⟨C, hC⟩ : ∃ C, C = tab ent := ⟨_, rfl⟩
  rw [← hC]
  have HC := hide hC
  clear hC
  go_wp2_with (first
    | (refine wpList_store_table rfl _ _ rfl ent C HC.out rfl rfl _ (by simp) ?_; intro w3 ht3 hT3 hlt3 hb3; have b3 : Below w0.heap.size w0 w3 := (HB1.out.trans (b2.mono HB1.out.size)).trans (hb3.mono (Nat.le_trans HB1.out.size b2.size)); have HB3 := hide b3; have HT3 := hide hT3; have hx3 := (b3.block _ hlt0).trans HX0.out; have hlt2 : w0.heap.size ≤ w2.heap.size := Nat.le_trans HB1.out.size b2.size; clear ht3 hT3 hb3 b2 HB1 b3)
    | (refine wpList_store_field rfl _ _ rfl w.heap.size 0 64 rfl rfl _ _ hx3 rfl ?_; intro w4 hx4 f4; have HF4 := hide f4; clear f4 hx3)
    | (refine wpList_store_field rfl _ _ rfl w.heap.size 2 64 rfl rfl _ _ hx4 rfl ?_; intro w5 hx5 f5; have HF5 := hide (HF4.out.then f5); clear f5 hx4)
    | (refine wpList_store_field rfl _ _ rfl w.heap.size 3 64 rfl rfl _ _ hx5 rfl ?_; intro w6 hx6 f6; have HF6 := hide (HF5.out.then f6); clear f6 hx5)
    | (refine wpList_store_field rfl _ _ rfl w.heap.size 4 64 rfl rfl _ _ hx6 rfl ?_; intro w7 hx7 f7; have HF7 := hide (HF6.out.then f7); clear f7 hx6)
    | (refine wpList_store_field rfl _ _ rfl w.heap.size 5 64 rfl rfl _ _ hx7 rfl ?_; intro w8 hx8 f8; have HF8 := hide (HF7.out.then f8); clear f8 hx7)
    | (refine wpList_store_field rfl _ _ rfl w.heap.size 6 64 rfl rfl _ _ hx8 rfl ?_; intro w9 hx9 f9; have HF9 := hide (HF8.out.then f9); have hy9 : w9.heap[w.heap.size]? = some (.cells (sv (s64 s)) 23 (0, 0)) := hx9; clear f9 hx8 hx9)
    | refine wpList_load_row rfl _ _ rfl w.heap.size rfl 23 (sv (s64 s)) (0, 0) _ hy9 Tryd.underlying23 rfl infoSuper ?_)
  have HB9 : Hid (Below w.heap.size w w9) := by
    have h1 := HB0.out.trans (HB3.out.mono HB0.out.size)
    exact h1.trans (HF9.out.one_below h1.size (Nat.le_refl _))
  have HT9 : Hid (Tb w9 w2.heap.size ent) := fun i hi => (HF9.out.cell (q := ⟨w2.heap.size, i, none⟩) hlt3 (by show ¬ w2.heap.size = w.heap.size; omega)).trans (HT3.out i hi)
  have hlt9 : w2.heap.size < w9.heap.size := Nat.lt_of_lt_of_le hlt3 HF9.out.size
  clear HF4 HF5 HF6 HF7 HF8 HF9 HT3 hy9 HB3 HX0 HW0
  obtain ⟨v, hv⟩ : ∃ v, v = s64 s := ⟨_, rfl⟩
  rw [← hv]
  have HV := hide hv
  clear hv
  refine (Put_any w2.heap.size ent v w9 small_ent HT9.out hlt9 (HW.out.below HB9.out HW.out.pos)).mono ?_
  rintro r w10 ⟨⟨hok, bb, rfl, hbb, hcell⟩ | ⟨hn, rfl⟩, b10⟩
  rotate_left
  · have HB10 : Hid (Below w.heap.size w w10) := HB9.out.trans (b10.mono HB9.out.size)
    clear b10 hn
    go_wp2
    go_ret
    exact ⟨rfl, HB10.out⟩
  · have HB10 : Hid (Below w.heap.size w w10) := HB9.out.trans (b10.mono HB9.out.size)
    have HT10 := hide (HT9.out.below b10 hlt9)
    have hlt10 : w2.heap.size < w10.heap.size := Nat.lt_of_lt_of_le hlt9 b10.size
    have HCl := hide hcell
    have HOK := hide hok
    clear b10 hcell hok HT9
    go_wp2_with fail
    refine (Take_any w2.heap.size 64 64 ent (some ⟨bb, 0, none⟩) (put ent v) w10 small_ent HT10.out hlt10 (HW.out.below HB10.out HW.out.pos) (bs_block HCl.out (put_bytes ent v) 64 (put_length ent v)) (by omega)).mono ?_
    rintro r w11 ⟨⟨_, rfl⟩ | ⟨hn, _⟩, b11⟩
    rotate_left
    · refine absurd ?_ hn
      have := good_put (T := ent) HOK.out [] (by rw [HV.out]; rfl)
      rwa [List.append_nil] at this
    have HB11 : Hid (Below w.heap.size w w11) := HB10.out.trans (b11.mono HB10.out.size)
    have hbl10 := heap_lt HCl.out
    have hc11 : w11.heap[bb]? = some (.cells (bl (put ent v)) 44 (0, 0)) := (b11.block _ hbl10).trans HCl.out
    have HT11 := hide (HT10.out.below b11 hlt10)
    have hlt11 : w2.heap.size < w11.heap.size := Nat.lt_of_lt_of_le hlt10 b11.size
    obtain ⟨X, hX⟩ : ∃ X, X = sv (sbOf (put ent v)) := ⟨_, rfl⟩
    rw [← hX]
    have hXs : X.size = 10 := by rw [hX]; rfl
    have hX1 : X.all (·.oneCell') = true := by rw [hX]; exact sv_one _
    obtain ⟨w12, hw12⟩ : ∃ w12, w12 = w11.alloc (.cells X 23) := ⟨_, rfl⟩
    have b12 : Below w11.heap.size w11 w12 := by rw [hw12]; exact (Below.refl _ _).alloc (Nat.le_refl _) _
    have HC12 : Hid (w12.heap[bb]? = some (.cells (bl (put ent v)) 44 (0, 0))) := (b12.block _ (heap_lt hc11)).trans hc11
    have HB12 : Hid (Below w.heap.size w w12) := HB11.out.trans (b12.mono HB11.out.size)
    have HT12 := hide (HT11.out.below b12 hlt11)
    have hlt12 : w2.heap.size < w12.heap.size := Nat.lt_of_lt_of_le hlt11 b12.size
    have HW12 := hide hw12
    have hs9 := HB9.out.size
    have hbw : w.heap.size ≤ bb := Nat.le_trans HB9.out.size hbb
    have hbt : bb ≠ w2.heap.size := by omega
    clear b11 b12 hX hw12 hc11 HT10 HT11 HCl
    obtain ⟨K, hK, hcase⟩ : ∃ K : Nat, K < 64 ∧ (at'.tmod 64 = (K : Int) ∨ (0 < K ∧ at'.tmod 64 = -(K : Int))) := by
      have t1 := Int.tmod_lt_of_pos at' (show (0 : Int) < 64 by omega)
      have t2 := Int.neg_tmod at' 64
      have t3 := Int.tmod_lt_of_pos (-at') (show (0 : Int) < 64 by omega)
      refine ⟨(at'.tmod 64).natAbs, by omega, ?_⟩
      omega
    have hK0 : decide ((K : Int) < 0) = false := by simp
    have hK64 : (K : Int) < 64 := by omega
    obtain ⟨x, hx⟩ : ∃ x, x = g (put ent v) K := ⟨_, rfl⟩
    have hbx : 0 ≤ x ∧ x ≤ 255 := by rw [hx]; exact (put_bytes ent v).g K
    have HS12 := hide (bs_block HC12.out (put_bytes ent v) 64 (put_length ent v))
    have hcell : w12.cell? ⟨bb, K, none⟩ = some (.int .u8 x) := by
      rcases HS12.out.2.2 with h0 | ⟨b', off, e, _, h3⟩
      · omega
      · cases e
        have := h3 K (by rw [put_length]; exact hK)
        rw [Nat.zero_add, ← hx] at this; exact this
    have hfz : w12.frozen? ⟨bb, K, none⟩ = false := by simp [World.frozen?, HC12.out]
    have HXX := hide hx
    clear hx
    rcases hcase with hk | ⟨hpos, hk⟩
    all_goals
      by_cases h0 : by1 = 0
      · subst h0
        have hq0 : ((0 : Int) == 0) = true := rfl
        have hxo := xor8 hbx (show (0 : Int) ≤ 1 ∧ (1 : Int) ≤ 255 by omega)
        have hne := x8_ne hbx (show (0 : Int) ≤ 1 ∧ (1 : Int) ≤ 255 by omega) (by omega)
        have hyb := x8_bd hbx (show (0 : Int) ≤ 1 ∧ (1 : Int) ≤ 255 by omega)
        generalize x8 x 1 = y at *
        have HTn : Hid (¬ good ent ((put ent v).set K y)) := turned HOK.out K hK y hyb (by rw [← HXX.out]; exact hne)
        obtain ⟨w13, hw13⟩ : ∃ w13, w13 = w12.setCell ⟨bb, K, none⟩ (.int .u8 y) := ⟨_, rfl⟩
        have f13 : Fr (One bb) w12 w13 := by rw [hw13]; exact (Fr.refl _ _).set _ (fun _ => rfl)
        have HT13 : Hid (Tb w13 w2.heap.size ent) := fun i hi => (f13.cell (q := ⟨w2.heap.size, i, none⟩) hlt12 (fun (h : w2.heap.size = bb) => by omega)).trans (HT12.out i hi)
        have HB13 : Hid (Below w.heap.size w w13) := HB12.out.trans (f13.one_below HB12.out.size hbw)
        have hlt13 : w2.heap.size < w13.heap.size := Nat.lt_of_lt_of_le hlt12 f13.size
        have HS13 : Hid (Bs w13 (some ⟨bb, 0, none⟩) 64 ((put ent v).set K y)) := by rw [hw13]; exact bs_set HS12.out hK hyb
        have HW13 := hide hw13
        clear hw13 f13 hne
        go_wp2_with (refine wpList_store_row rfl _ _ _ rfl w11.heap.size X rfl rfl 23 _ (heap_alloc_new w11 _) (by rw [hXs]; exact infoSuper) (by rw [hXs]; rfl) hX1 ?_; rw [World.setRow_alloc_new, ← HW12.out])
        rw [← HW13.out]
        refine (Take_any w2.heap.size 64 64 ent (some ⟨bb, 0, none⟩) ((put ent v).set K y) w13 small_ent HT13.out hlt13 (HW.out.below HB13.out HW.out.pos) HS13.out (by omega)).mono ?_
        rintro r w14 ⟨⟨hgd, _⟩ | ⟨_, rfl⟩, b14⟩
        · exact absurd hgd HTn.out
        have HB14 : Hid (Below w.heap.size w w14) := HB13.out.trans (b14.mono HB13.out.size)
        clear b14
        unfold zv
        go_wp2
        go_ret
        exact ⟨rfl, HB14.out.alloc HB14.out.size _⟩
      · have hq0 : (by1 == 0) = false := by simp; exact h0
        have hxo := xor8 hbx hby2
        have hne := x8_ne hbx hby2 h0
        have hyb := x8_bd hbx hby2
        generalize x8 x by1 = y at *
        have HTn : Hid (¬ good ent ((put ent v).set K y)) := turned HOK.out K hK y hyb (by rw [← HXX.out]; exact hne)
        obtain ⟨w13, hw13⟩ : ∃ w13, w13 = w12.setCell ⟨bb, K, none⟩ (.int .u8 y) := ⟨_, rfl⟩
        have f13 : Fr (One bb) w12 w13 := by rw [hw13]; exact (Fr.refl _ _).set _ (fun _ => rfl)
        have HT13 : Hid (Tb w13 w2.heap.size ent) := fun i hi => (f13.cell (q := ⟨w2.heap.size, i, none⟩) hlt12 (fun (h : w2.heap.size = bb) => by omega)).trans (HT12.out i hi)
        have HB13 : Hid (Below w.heap.size w w13) := HB12.out.trans (f13.one_below HB12.out.size hbw)
        have hlt13 : w2.heap.size < w13.heap.size := Nat.lt_of_lt_of_le hlt12 f13.size
        have HS13 : Hid (Bs w13 (some ⟨bb, 0, none⟩) 64 ((put ent v).set K y)) := by rw [hw13]; exact bs_set HS12.out hK hyb
        have HW13 := hide hw13
        clear hw13 f13 hne
        go_wp2_with (refine wpList_store_row rfl _ _ _ rfl w11.heap.size X rfl rfl 23 _ (heap_alloc_new w11 _) (by rw [hXs]; exact infoSuper) (by rw [hXs]; rfl) hX1 ?_; rw [World.setRow_alloc_new, ← HW12.out])
        rw [← HW13.out]
        refine (Take_any w2.heap.size 64 64 ent (some ⟨bb, 0, none⟩) ((put ent v).set K y) w13 small_ent HT13.out hlt13 (HW.out.below HB13.out HW.out.pos) HS13.out (by omega)).mono ?_
        rintro r w14 ⟨⟨hgd, _⟩ | ⟨_, rfl⟩, b14⟩
        · exact absurd hgd HTn.out
        have HB14 : Hid (Below w.heap.size w w14) := HB13.out.trans (b14.mono HB13.out.size)
        clear b14
        unfold zv
        go_wp2
        go_ret
        exact ⟨rfl, HB14.out.alloc HB14.out.size _⟩
end Go.Proofs.YthghodmjpdooaaaDoor

/- What the proof stands on: SupTake2, with what the proof reaches of it. -/
import Derived.Test.YtoohanojfoichaaGreatDoorSJSupPure
import Derived.Stop.BytesEq

/- Layer 8: Take, by the program. -/
namespace Go.Proofs.YtoohanojfoichaaGreatDoor
set_option linter.unusedVariables false
open Go.RowKit Go.Maps
open Lz (g)
open Crc (ent more)
open Cur
open Sup

theorem load_super {w : World} {b t : Nat} {cs : Array Value} {fr : Nat × Nat} (h : w.heap[b]? = some (.cells cs t fr)) (hs : cs.size = 10) : (loadVar 35 ⟨b, 0, none⟩).run Tryz.prog w = .ok (.agg cs) w :=
  run_loadVar_row w b t 35 cs fr _ h Tryz.underlying35 rfl (by rw [hs]; exact infoSuper)
theorem load_block {w : World} {b t : Nat} {cs : Array Value} {fr : Nat × Nat} (h : w.heap[b]? = some (.cells cs t fr)) (hs : cs.size = 64) : (loadVar 69 ⟨b, 0, none⟩).run Tryz.prog w = .ok (.agg cs) w :=
  run_loadVar_row w b t 69 cs fr _ h Tryz.underlying69 rfl (by rw [hs]; exact infoBlock)
theorem zv_one : spz.all (·.oneCell') = true := by simp [spz, Value.oneCell']
/-- Numbers as bytes. -/
def u8 (zs : List Int) : List UInt8 := zs.map fun n => UInt8.ofNat n.toNat
theorem u8_length (zs : List Int) : (u8 zs).length = zs.length := by simp [u8]
theorem bl_u8 : ∀ {zs : List Int}, Bytes zs → bv zs = (u8 zs).map Extern.Stop.cell
  | [], _ => rfl
  | z :: zs, h => by
    have h0 := h z (by simp)
    have ih := bl_u8 (zs := zs) (fun x hx => h x (by simp [hx]))
    simp only [bv, u8, List.map_cons, List.cons.injEq] at ih ⊢
    refine ⟨?_, ih⟩
    show Value.int .u8 z = .int .u8 (((UInt8.ofNat z.toNat).toNat : Nat) : Int)
    rw [UInt8.toNat_ofNat_of_lt' (by show z.toNat < 256; omega), Int.toNat_of_nonneg h0.1]
theorem u8_inj : ∀ {xs ys : List Int}, Bytes xs → Bytes ys → u8 xs = u8 ys → xs = ys := by
  intro xs ys hx hy h2
  unfold u8 at h2
  induction xs generalizing ys with
  | nil => cases ys with
    | nil => rfl
    | cons y ys => simp at h2
  | cons x xs ih => cases ys with
    | nil => simp at h2
    | cons y ys =>
      simp only [List.map_cons, List.cons.injEq] at h2
      have hx0 := hx x (by simp)
      have hy0 := hy y (by simp)
      have e := congrArg UInt8.toNat h2.1
      rw [UInt8.toNat_ofNat_of_lt' (by show x.toNat < 256; omega), UInt8.toNat_ofNat_of_lt' (by show y.toNat < 256; omega)] at e
      rw [ih (fun z hz => hx z (by simp [hz])) (fun z hz => hy z (by simp [hz])) h2.2]
      congr 1; omega
set_option maxRecDepth 100000 in
theorem equalIn_block (w : World) {F G : List Int} (hF : F.length = 64) (hG : G.length = 64) (hb : Bytes F) (hc : Bytes G) : (Op.equalIn 10000 69 (.agg (bl F)) (.agg (bl G))).run Tryz.prog w = .ok (decide (F = G)) w := by
  have := run_equalIn_bytes (P := Tryz.prog) w 9998 69 5 64 Tryz.underlying69 Tryz.underlying5 (fun w => by simp [Tryz.sizeOf5]) (u8 F) (u8 G) (by rw [u8_length, hF]) (by rw [u8_length, hG])
  rw [← bl_u8 hb, ← bl_u8 hc] at this
  unfold bl
  rw [this]
  congr 1
  rw [Bool.eq_iff_iff, beq_iff_eq, decide_eq_true_eq]
  exact ⟨u8_inj hb hc, fun h => by rw [h]⟩
/-- What Take answers. -/
def TakeAns (T : Nat → Nat) (zs : List Int) (e : Ending) : Prop :=
  (good T zs ∧ e = .returned (.tuple #[.agg (sbv (sbOf zs)), .int .i64 0])) ∨ (¬ good T zs ∧ e = .returned (.tuple #[.agg spz, .int .i64 2]))
set_option maxRecDepth 100000 in
set_option maxHeartbeats 4000000 in
theorem Take_short (tb len cap : Nat) (T : Nat → Nat) (ao : Option Addr) (zs : List Int) (w : World) (hz : zs.length = len) (h64 : len < 64) :
    Calls Tryz.prog 11 #[.pointer (some ⟨tb, 0, none⟩), .slice ao len cap] w fun e w' => TakeAns T zs e ∧ Below w.heap.size w w' := by
  have HG : Hid (¬ good T zs) := fun h => by have := h.1; omega
  clear hz
  go_enter Tryz.func11, Tryz.ntmps11
  go_wp2
  refine bodyPost_ret (v := .tuple #[.agg spz, .int .i64 2]) ?_ rfl ⟨.inr ⟨HG.out, rfl⟩, (Below.refl _ _).alloc (Nat.le_refl _) _⟩
  exact results_cr2 (p := 4) (u := 5) rfl _ _ w.heap.size spz rfl (load_super (heap_new rfl) rfl)
set_option maxRecDepth 100000 in
set_option maxHeartbeats 4000000 in
theorem Take_long (tb len cap : Nat) (T : Nat → Nat) (ao : Option Addr) (zs : List Int) (w : World) (hS : Small T) (hT : Tb w tb T) (htb : tb < w.heap.size) (hW : Wid w) (hB : Bs w ao len zs) (h64 : 64 ≤ len) (hl : len ≤ 1000000) :
    Calls Tryz.prog 11 #[.pointer (some ⟨tb, 0, none⟩), .slice ao len cap] w fun e w' => TakeAns T zs e ∧ Below w.heap.size w w' := by
  obtain ⟨z4, i4⟩ := zero_of_info zero64
  have HT := hide hT
  have HW := hide hW
  have HB := hide hB
  have hz := hB.1
  obtain ⟨F, hF⟩ : ∃ F, F = zs.take 64 := ⟨_, rfl⟩
  have hFl : F.length = 64 := by rw [hF]; simp; omega
  have hFb : Bytes F := by rw [hF]; exact hB.bytes.take 64
  have HF := hide hF
  have hcs : (bv F).length = 64 := by rw [bv_length, hFl]
  clear hT hW hB hF
  obtain ⟨W2, hW2⟩ : ∃ W2, W2 = (w.alloc (.cells spz 35)).alloc (.cells (Array.replicate 64 (.int .u8 0)) 69) := ⟨_, rfl⟩
  have b2 : Below w.heap.size w W2 := by rw [hW2]; exact ((Below.refl _ _).alloc (Nat.le_refl _) _).alloc (by simp) _
  have s2 : W2.heap.size = w.heap.size + 2 := by rw [hW2]; simp
  have h20 : W2.heap[w.heap.size]? = some (.cells spz 35 (0, 0)) := by rw [hW2]; exact (Below.heap_alloc _ _ _ (by simp)).trans (heap_new rfl)
  have h21 : W2.heap[w.heap.size + 1]? = some (.cells (List.replicate 64 (Value.int .u8 0)).toArray 69 (0, 0)) := by rw [hW2, List.toArray_replicate]; exact heap_new (by simp)
  have HSrc := hide (ssrc_of ((HB.out.below b2).take 64 h64) (by omega))
  rw [← HF.out] at HSrc
  obtain ⟨ad, rfl, hsrc⟩ := HSrc.out
  have hcp := run_copy_row (P := Tryz.prog) W2 25 25 3 5 (w.heap.size + 1) 0 64 64 ad len cap (List.replicate 64 (Value.int .u8 0)).toArray 69 (bv F) Tryz.underlying25 (by kernel_rfl) h21 (by rw [hcs]; exact (Nat.min_eq_right h64).symm) hsrc (by rw [hcs]; simp) (bv_one F)
  have e3 : ((List.replicate 64 (Value.int .u8 0)).toArray.toList.take 0 ++ bv F ++ (List.replicate 64 (Value.int .u8 0)).toArray.toList.drop (0 + (bv F).length)).toArray = bl F := by rw [hcs]; simp [bl]
  rw [e3, hcs] at hcp
  have h30 : (W2.setRow (w.heap.size + 1) (bl F)).heap[w.heap.size]? = some (.cells spz 35 (0, 0)) := by rw [setRow_other _ _ _ _ (by omega)]; exact h20
  have h31 : (W2.setRow (w.heap.size + 1) (bl F)).heap[w.heap.size + 1]? = some (.cells (bl F) 69 (0, 0)) := setRow_heap _ _ _ _ _ _ h21
  have b3 : Below w.heap.size w (W2.setRow (w.heap.size + 1) (bl F)) := below_setRow b2 (by omega) _
  generalize W2.setRow (w.heap.size + 1) (bl F) = w3 at *
  rw [hW2] at hcp
  unfold spz at hcp
  obtain ⟨C, hC⟩ : ∃ C, C = bl F := ⟨_, rfl⟩
  rw [← hC] at h31
  have hCs : C.size = 64 := by rw [hC]; simp [bl, hcs]
  have HK := hide (bsuper_any F w3 hFl hFb (HW.out.below b3 HW.out.pos))
  rw [← hC] at HK
  have HC := hide hC
  have H30 := hide h30
  have HB3 := hide b3
  clear hW2 b2 h20 h21 HSrc e3 hsrc hC h30 b3
  go_enter Tryz.func11, Tryz.ntmps11
  go_wp2_with (refine wpList_load_row rfl _ _ rfl (w.heap.size + 1) rfl 69 C (0, 0) _ h31 Tryz.underlying69 rfl (by rw [hCs]; exact infoBlock) ?_)
  refine HK.out.mono ?_
  rintro r w4 ⟨rfl, b4⟩
  have hss : sbOf F = sbOf zs := by rw [HF.out]; exact sbOf_take zs 64 (by omega)
  rw [hss]
  obtain ⟨s, hs⟩ : ∃ s, s = sbOf zs := ⟨_, rfl⟩
  rw [← hs]
  obtain ⟨X, hX⟩ : ∃ X, X = sbv s := ⟨_, rfl⟩
  rw [← hX]
  have hXs : X.size = 10 := by rw [hX]; rfl
  have hX1 : X.all (·.oneCell') = true := by rw [hX]; exact sbv_one _
  obtain ⟨w5, hw5⟩ : ∃ w5, w5 = w4.alloc (.cells X 35) := ⟨_, rfl⟩
  have b45 : Below w4.heap.size w4 w5 := by rw [hw5]; exact (Below.refl _ _).alloc (Nat.le_refl _) _
  have b35 : Below w3.heap.size w3 w5 := b4.trans (b45.mono b4.size)
  have hx5 : w5.heap[w4.heap.size]? = some (.cells X 35 (0, 0)) := by rw [hw5]; exact heap_new rfl
  have HX : Hid (∀ wX, Below w5.heap.size w5 wX → wX.heap[w4.heap.size]? = some (.cells X 35 (0, 0))) := fun wX h => (h.block _ (heap_lt hx5)).trans hx5
  have HC0 : Hid (∀ wX, Below w5.heap.size w5 wX → wX.cell? ⟨w4.heap.size, 0, none⟩ = some (.int .i64 s.size)) := fun wX h => by
    rw [cell_of_row _ _ 0 _ _ _ ((h.block _ (heap_lt hx5)).trans hx5), hX]; rfl
  have hc5 : w5.heap[w.heap.size + 1]? = some (.cells C 69 (0, 0)) := (b35.block _ (heap_lt h31)).trans h31
  have HCb : Hid (∀ wX, Below w5.heap.size w5 wX → wX.heap[w.heap.size + 1]? = some (.cells C 69 (0, 0))) := fun wX h => (h.block _ (heap_lt hc5)).trans hc5
  have H50 : Hid (w5.heap[w.heap.size]? = some (.cells spz 35 (0, 0))) := (b35.block _ (heap_lt H30.out)).trans H30.out
  have HB5 : Hid (Below w.heap.size w w5) := HB3.out.trans (b35.mono HB3.out.size)
  have h5s : w.heap.size < w5.heap.size := heap_lt H50.out
  have HW5 := hide hw5
  have HSb := hide hs
  have HXe : Hid (sbv (sbOf zs) = X) := by show _ = _; rw [hX, ← hs]
  have hm := sMay_any s
  rw [← hX] at hm
  have HXv := hide hX
  clear hss hX b4 b45 b35 hx5 hw5 hc5 HK hs h31 H30 hcp hcs
  go_wp2_with (refine wpList_store_row rfl _ _ _ rfl w4.heap.size X rfl rfl 35 _ (heap_alloc_new w4 _) (by rw [hXs]; exact infoSuper) (by rw [hXs]; rfl) hX1 ?_; rw [World.setRow_alloc_new])
  rw [← HW5.out]
  cases hq : s.may with
  | false =>
    have HG : Hid (¬ good T zs) := fun h => by
      have h2 := may_not.1 hq
      rw [HSb.out] at h2
      exact h2 h.2.1
    have HMay : Hid (∀ w', Calls Tryz.prog 23 #[.agg X] w' fun e w'' => e = .returned (.bool false) ∧ Below w'.heap.size w' w'') := by
      rw [hq] at hm; exact hm
    clear hm hq
    refine wp_region_held_drew (S := fun wX => Below w5.heap.size w5 wX) (by kernel_rfl) (Below.refl _ _).drew (fun hHeld => ?_)
    refine wpAnyH_take (i := 0) (oi := ⟨some 17, _, _, _, _, _⟩) (v := .agg X) rfl (by kernel_rfl) (by kernel_rfl) (by kernel_rfl) (fun _ _ _ h => h) (yieldsIf_load_row (by rfl) _ _ rfl w4.heap.size rfl X (fun w' h' => load_super (HX.out w' h') hXs)) (by assumption) ?_
    try simp only [Act.put, List.setIfInBounds_toArray, List.set_cons_zero, List.set_cons_succ]
    refine wpAnyH_ready (rs := [1]) (by kernel_rfl) (by simp) ?_
    refine AllReadyH.cons (o := ⟨some 18, _, _, _, _, _⟩) rfl (fun K hK => ?_) AllReadyH.nil
    go_simp
    refine (HMay.out _).mono ?_
    rintro r w6 ⟨rfl, b6⟩
    have hb6 : Below w5.heap.size w5 w6 := hHeld.trans (b6.mono hHeld.size)
    clear b6
    refine hK.out _ _ hb6 (fun hHeld => ?_)
    clear hK K
    try simp only [Act.put, List.setIfInBounds_toArray, List.set_cons_zero, List.set_cons_succ]
    refine wpAnyH_take (i := 2) (oi := ⟨some 19, _, _, _, _, _⟩) (v := ?_) rfl (by kernel_rfl) (by kernel_rfl) (by kernel_rfl) (fun _ _ _ h => h) (Or.inl ⟨by rfl, ?_⟩) (by assumption) ?_
    rotate_left
    · (intro w hSw; go_simp; try with_reducible rfl)
    try simp only [Act.put, List.setIfInBounds_toArray, List.set_cons_zero, List.set_cons_succ]
    refine wpAnyH_take (i := 3) (oi := ⟨some 20, _, _, _, _, _⟩) (v := ?_) rfl (by kernel_rfl) (by kernel_rfl) (by kernel_rfl) (fun _ _ _ h => h) (Or.inl ⟨by rfl, ?_⟩) (by assumption) ?_
    rotate_left
    · (intro w hSw; go_simp; try with_reducible rfl)
    try simp only [Act.put, List.setIfInBounds_toArray, List.set_cons_zero, List.set_cons_succ]
    refine wpAnyH_take (i := 4) (oi := ⟨some 21, _, _, _, _, _⟩) (v := undef) rfl (by kernel_rfl) (by kernel_rfl) (by kernel_rfl) (fun _ _ _ h => h) (Or.inr ⟨by rfl, rfl⟩) (by assumption) ?_
    try simp only [Act.put, List.setIfInBounds_toArray, List.set_cons_zero, List.set_cons_succ]
    refine wpAnyH_take (i := 5) (oi := ⟨some 22, _, _, _, _, _⟩) (v := undef) rfl (by kernel_rfl) (by kernel_rfl) (by kernel_rfl) (fun _ _ _ h => h) (Or.inr ⟨by rfl, rfl⟩) (by assumption) ?_
    try simp only [Act.put, List.setIfInBounds_toArray, List.set_cons_zero, List.set_cons_succ]
    refine wpAnyH_take (i := 6) (oi := ⟨some 23, _, _, _, _, _⟩) (v := undef) rfl (by kernel_rfl) (by kernel_rfl) (by kernel_rfl) (fun _ _ _ h => h) (Or.inr ⟨by rfl, rfl⟩) (by assumption) ?_
    try simp only [Act.put, List.setIfInBounds_toArray, List.set_cons_zero, List.set_cons_succ]
    refine wpAnyH_take (i := 7) (oi := ⟨some 24, _, _, _, _, _⟩) (v := undef) rfl (by kernel_rfl) (by kernel_rfl) (by kernel_rfl) (fun _ _ _ h => h) (Or.inr ⟨by rfl, rfl⟩) (by assumption) ?_
    try simp only [Act.put, List.setIfInBounds_toArray, List.set_cons_zero, List.set_cons_succ]
    refine wpAnyH_take (i := 8) (oi := ⟨some 25, _, _, _, _, _⟩) (v := undef) rfl (by kernel_rfl) (by kernel_rfl) (by kernel_rfl) (fun _ _ _ h => h) (Or.inr ⟨by rfl, rfl⟩) (by assumption) ?_
    try simp only [Act.put, List.setIfInBounds_toArray, List.set_cons_zero, List.set_cons_succ]
    refine wpAnyH_take (i := 9) (oi := ⟨some 26, _, _, _, _, _⟩) (v := ?_) rfl (by kernel_rfl) (by kernel_rfl) (by kernel_rfl) (fun _ _ _ h => h) (Or.inl ⟨by rfl, ?_⟩) (by assumption) ?_
    rotate_left
    · (intro w hSw; go_simp; try with_reducible rfl)
    try simp only [Act.put, List.setIfInBounds_toArray, List.set_cons_zero, List.set_cons_succ]
    refine wpAnyH_take (i := 10) (oi := ⟨some 27, _, _, _, _, _⟩) (v := ?_) rfl (by kernel_rfl) (by kernel_rfl) (by kernel_rfl) (fun _ _ _ h => h) (Or.inl ⟨by rfl, ?_⟩) (by assumption) ?_
    rotate_left
    · (intro w hSw; go_simp; try with_reducible rfl)
    try simp only [Act.put, List.setIfInBounds_toArray, List.set_cons_zero, List.set_cons_succ]
    refine wpAnyH_take (i := 11) (oi := ⟨some 28, _, _, _, _, _⟩) (v := undef) rfl (by kernel_rfl) (by kernel_rfl) (by kernel_rfl) (fun _ _ _ h => h) (Or.inr ⟨by rfl, rfl⟩) (by assumption) ?_
    try simp only [Act.put, List.setIfInBounds_toArray, List.set_cons_zero, List.set_cons_succ]
    refine wpAnyH_take (i := 12) (oi := ⟨some 29, _, _, _, _, _⟩) (v := undef) rfl (by kernel_rfl) (by kernel_rfl) (by kernel_rfl) (fun _ _ _ h => h) (Or.inr ⟨by rfl, rfl⟩) (by assumption) ?_
    try simp only [Act.put, List.setIfInBounds_toArray, List.set_cons_zero, List.set_cons_succ]
    refine wpAnyH_take (i := 13) (oi := ⟨some 30, _, _, _, _, _⟩) (v := undef) rfl (by kernel_rfl) (by kernel_rfl) (by kernel_rfl) (fun _ _ _ h => h) (Or.inr ⟨by rfl, rfl⟩) (by assumption) ?_
    try simp only [Act.put, List.setIfInBounds_toArray, List.set_cons_zero, List.set_cons_succ]
    refine wpAnyH_ready (rs := [14]) (by kernel_rfl) (by simp) ?_
    refine AllReadyH.cons (o := ⟨some 31, _, _, _, _, _⟩) rfl (fun K hK => ?_) AllReadyH.nil
    go_simp
    refine hK.out _ _ hHeld (fun hHeld => ?_)
    clear hK K
    try simp only [Act.put, List.setIfInBounds_toArray, List.set_cons_zero, List.set_cons_succ]
    refine wpAnyH_take (i := 15) (oi := ⟨some 32, _, _, _, _, _⟩) (v := undef) rfl (by kernel_rfl) (by kernel_rfl) (by kernel_rfl) (fun _ _ _ h => h) (Or.inr ⟨by rfl, rfl⟩) (by assumption) ?_
    try simp only [Act.put, List.setIfInBounds_toArray, List.set_cons_zero, List.set_cons_succ]
    refine wpAnyH_take (i := 16) (oi := ⟨some 33, _, _, _, _, _⟩) (v := ?_) rfl (by kernel_rfl) (by kernel_rfl) (by kernel_rfl) (fun _ _ _ h => h) (Or.inl ⟨by rfl, ?_⟩) (by assumption) ?_
    rotate_left
    · (intro w hSw; go_simp; try with_reducible rfl)
    try simp only [Act.put, List.setIfInBounds_toArray, List.set_cons_zero, List.set_cons_succ]
    refine wpAnyH_done (by kernel_rfl) ?_ _
    have HRf : Hid (w6.heap[w.heap.size]? = some (.cells spz 35 (0, 0)) ∧ Below w.heap.size w w6) := ⟨(hHeld.block _ (by omega)).trans H50.out, HB5.out.trans (hHeld.mono HB5.out.size)⟩
    clear hHeld
    go_wp2_with (refine wpList_store_row rfl _ _ _ rfl w.heap.size spz rfl rfl 35 spz HRf.out.1 infoSuper rfl zv_one ?_)
    refine bodyPost_ret (v := .tuple #[.agg spz, .int .i64 2]) ?_ rfl ⟨.inr ⟨HG.out, rfl⟩, below_setRow HRf.out.2 (Nat.le_refl _) _⟩
    exact results_cr2 (p := 4) (u := 5) rfl _ _ w.heap.size spz rfl (load_super (setRow_heap _ _ _ _ _ _ HRf.out.1) rfl)
  | true =>
    have hok : s.ok := may_iff.1 hq
    have HMay : Hid (∀ w', Calls Tryz.prog 23 #[.agg X] w' fun e w'' => e = .returned (.bool true) ∧ Below w'.heap.size w' w'') := by
      rw [hq] at hm; exact hm
    clear hm hq
    by_cases hsz : s.size = len
    · have hne : (s.size != (len : Int)) = false := by rw [hsz]; simp
      have HBlk : Hid (∀ wX, Below w5.heap.size w5 wX → Calls Tryz.prog 24 #[.pointer (some ⟨tb, 0, none⟩), .agg X] wX fun e w' => e = .returned (.agg (bl (put T s))) ∧ Below wX.heap.size wX w') := fun wX h => by
        have hb := HB5.out.trans (h.mono HB5.out.size)
        have := blockOf_any tb T s wX hok hS (HT.out.below hb htb) (Nat.lt_of_lt_of_le htb hb.size) (HW.out.below hb HW.out.pos)
        rw [← HXv.out] at this
        exact this
      have HEq : Hid (∀ w', (Op.equalIn 10000 69 (.agg C) (.agg (bl (put T s)))).run Tryz.prog w' = .ok (decide (F = put T s)) w') := fun w' => by
        rw [HC.out]; exact equalIn_block w' hFl (put_length T s) hFb (put_bytes T s)
      have hgd : Tryz.prog.eqGuardType Tryz.prog.depth 69 = false := by kernel_rfl
      have hgd2 : ∀ (w : World) (x y : Operand) (a b : Array Value), (eqGuard .neq 69 x y (.agg a) (.agg b)).run Tryz.prog w = .ok () w := fun w x y a b => by simp [eqGuard, hgd]
      obtain ⟨Pt, hPt⟩ : ∃ Pt, Pt = bl (put T s) := ⟨_, rfl⟩
      rw [← hPt] at HBlk HEq
      by_cases hbk : F = put T s
      · have HG : Hid (good T zs) := ⟨by omega, by rw [← HSb.out]; exact hok, by rw [← HSb.out, hz]; exact hsz, by rw [← HSb.out, ← HF.out]; exact hbk⟩
        have HNe : Hid (∀ w', (Op.equalIn 10000 69 (.agg C) (.agg Pt)).run Tryz.prog w' = .ok true w') := fun w' => by rw [HEq.out w', decide_eq_true hbk]
        clear hok hsz hPt hbk HEq
        refine wp_region_held_drew (S := fun wX => Below w5.heap.size w5 wX) (by kernel_rfl) (Below.refl _ _).drew (fun hHeld => ?_)
        refine wpAnyH_take (i := 0) (oi := ⟨some 17, _, _, _, _, _⟩) (v := .agg X) rfl (by kernel_rfl) (by kernel_rfl) (by kernel_rfl) (fun _ _ _ h => h) (yieldsIf_load_row (by rfl) _ _ rfl w4.heap.size rfl X (fun w' h' => load_super (HX.out w' h') hXs)) (by assumption) ?_
        try simp only [Act.put, List.setIfInBounds_toArray, List.set_cons_zero, List.set_cons_succ]
        refine wpAnyH_ready (rs := [1]) (by kernel_rfl) (by simp) ?_
        refine AllReadyH.cons (o := ⟨some 18, _, _, _, _, _⟩) rfl (fun K hK => ?_) AllReadyH.nil
        go_simp
        refine (HMay.out _).mono ?_
        rintro r w6 ⟨rfl, b6⟩
        have hb6 : Below w5.heap.size w5 w6 := hHeld.trans (b6.mono hHeld.size)
        clear b6
        refine hK.out _ _ hb6 (fun hHeld => ?_)
        clear hK K
        try simp only [Act.put, List.setIfInBounds_toArray, List.set_cons_zero, List.set_cons_succ]
        refine wpAnyH_take (i := 2) (oi := ⟨some 19, _, _, _, _, _⟩) (v := ?_) rfl (by kernel_rfl) (by kernel_rfl) (by kernel_rfl) (fun _ _ _ h => h) (Or.inl ⟨by rfl, ?_⟩) (by assumption) ?_
        rotate_left
        · (intro w hSw; go_simp; try with_reducible rfl)
        try simp only [Act.put, List.setIfInBounds_toArray, List.set_cons_zero, List.set_cons_succ]
        refine wpAnyH_take (i := 3) (oi := ⟨some 20, _, _, _, _, _⟩) (v := ?_) rfl (by kernel_rfl) (by kernel_rfl) (by kernel_rfl) (fun _ _ _ h => h) (Or.inl ⟨by rfl, ?_⟩) (by assumption) ?_
        rotate_left
        · (intro w hSw; go_simp; try with_reducible rfl)
        try simp only [Act.put, List.setIfInBounds_toArray, List.set_cons_zero, List.set_cons_succ]
        refine wpAnyH_take (i := 4) (oi := ⟨some 21, _, _, _, _, _⟩) (v := ?_) rfl (by kernel_rfl) (by kernel_rfl) (by kernel_rfl) (fun _ _ _ h => h) (Or.inl ⟨by rfl, ?_⟩) (by assumption) ?_
        rotate_left
        · (intro w hSw; go_simp; try with_reducible rfl)
        try simp only [Act.put, List.setIfInBounds_toArray, List.set_cons_zero, List.set_cons_succ]
        refine wpAnyH_take (i := 5) (oi := ⟨some 22, _, _, _, _, _⟩) (v := ?_) rfl (by kernel_rfl) (by kernel_rfl) (by kernel_rfl) (fun _ _ _ h => h) (Or.inl ⟨by rfl, ?_⟩) (by assumption) ?_
        rotate_left
        · (intro w hSw; have c0 := HC0.out w hSw; go_simp; try with_reducible rfl)
        try simp only [Act.put, List.setIfInBounds_toArray, List.set_cons_zero, List.set_cons_succ]
        refine wpAnyH_take (i := 6) (oi := ⟨some 23, _, _, _, _, _⟩) (v := ?_) rfl (by kernel_rfl) (by kernel_rfl) (by kernel_rfl) (fun _ _ _ h => h) (Or.inl ⟨by rfl, ?_⟩) (by assumption) ?_
        rotate_left
        · (intro w hSw; go_simp; try with_reducible rfl)
        try simp only [Act.put, List.setIfInBounds_toArray, List.set_cons_zero, List.set_cons_succ]
        refine wpAnyH_take (i := 7) (oi := ⟨some 24, _, _, _, _, _⟩) (v := ?_) rfl (by kernel_rfl) (by kernel_rfl) (by kernel_rfl) (fun _ _ _ h => h) (Or.inl ⟨by rfl, ?_⟩) (by assumption) ?_
        rotate_left
        · (intro w hSw; go_simp; try with_reducible rfl)
        try simp only [Act.put, List.setIfInBounds_toArray, List.set_cons_zero, List.set_cons_succ]
        refine wpAnyH_take (i := 8) (oi := ⟨some 25, _, _, _, _, _⟩) (v := ?_) rfl (by kernel_rfl) (by kernel_rfl) (by kernel_rfl) (fun _ _ _ h => h) (Or.inl ⟨by rfl, ?_⟩) (by assumption) ?_
        rotate_left
        · (intro w hSw; go_simp; try with_reducible rfl)
        try simp only [Act.put, List.setIfInBounds_toArray, List.set_cons_zero, List.set_cons_succ]
        refine wpAnyH_take (i := 9) (oi := ⟨some 26, _, _, _, _, _⟩) (v := ?_) rfl (by kernel_rfl) (by kernel_rfl) (by kernel_rfl) (fun _ _ _ h => h) (Or.inl ⟨by rfl, ?_⟩) (by assumption) ?_
        rotate_left
        · (intro w hSw; go_simp; try with_reducible rfl)
        try simp only [Act.put, List.setIfInBounds_toArray, List.set_cons_zero, List.set_cons_succ]
        refine wpAnyH_take (i := 10) (oi := ⟨some 27, _, _, _, _, _⟩) (v := ?_) rfl (by kernel_rfl) (by kernel_rfl) (by kernel_rfl) (fun _ _ _ h => h) (Or.inl ⟨by rfl, ?_⟩) (by assumption) ?_
        rotate_left
        · (intro w hSw; go_simp; try with_reducible rfl)
        try simp only [Act.put, List.setIfInBounds_toArray, List.set_cons_zero, List.set_cons_succ]
        refine wpAnyH_take (i := 11) (oi := ⟨some 28, _, _, _, _, _⟩) (v := .agg C) rfl (by kernel_rfl) (by kernel_rfl) (by kernel_rfl) (fun _ _ _ h => h) (yieldsIf_load_row (by rfl) _ _ rfl (w.heap.size + 1) rfl C (fun w' h' => load_block (HCb.out w' h') hCs)) (by assumption) ?_
        try simp only [Act.put, List.setIfInBounds_toArray, List.set_cons_zero, List.set_cons_succ]
        refine wpAnyH_take (i := 12) (oi := ⟨some 29, _, _, _, _, _⟩) (v := ?_) rfl (by kernel_rfl) (by kernel_rfl) (by kernel_rfl) (fun _ _ _ h => h) (Or.inl ⟨by rfl, ?_⟩) (by assumption) ?_
        rotate_left
        · (intro w hSw; go_simp; try with_reducible rfl)
        try simp only [Act.put, List.setIfInBounds_toArray, List.set_cons_zero, List.set_cons_succ]
        refine wpAnyH_take (i := 13) (oi := ⟨some 30, _, _, _, _, _⟩) (v := .agg X) rfl (by kernel_rfl) (by kernel_rfl) (by kernel_rfl) (fun _ _ _ h => h) (yieldsIf_load_row (by rfl) _ _ rfl w4.heap.size rfl X (fun w' h' => load_super (HX.out w' h') hXs)) (by assumption) ?_
        try simp only [Act.put, List.setIfInBounds_toArray, List.set_cons_zero, List.set_cons_succ]
        refine wpAnyH_ready (rs := [14]) (by kernel_rfl) (by simp) ?_
        refine AllReadyH.cons (o := ⟨some 31, _, _, _, _, _⟩) rfl (fun K hK => ?_) AllReadyH.nil
        go_simp
        refine (HBlk.out _ hHeld).mono ?_
        rintro r w7 ⟨rfl, b7⟩
        have hb7 : Below w5.heap.size w5 w7 := hHeld.trans (b7.mono hHeld.size)
        clear b7
        refine hK.out _ _ hb7 (fun hHeld => ?_)
        clear hK K
        try simp only [Act.put, List.setIfInBounds_toArray, List.set_cons_zero, List.set_cons_succ]
        refine wpAnyH_take (i := 15) (oi := ⟨some 32, _, _, _, _, _⟩) (v := ?_) rfl (by kernel_rfl) (by kernel_rfl) (by kernel_rfl) (fun _ _ _ h => h) (Or.inl ⟨by rfl, ?_⟩) (by assumption) ?_
        rotate_left
        · (intro w hSw; have hq := HNe.out w; go_simp; try with_reducible rfl)
        try simp only [Act.put, List.setIfInBounds_toArray, List.set_cons_zero, List.set_cons_succ]
        refine wpAnyH_take (i := 16) (oi := ⟨some 33, _, _, _, _, _⟩) (v := ?_) rfl (by kernel_rfl) (by kernel_rfl) (by kernel_rfl) (fun _ _ _ h => h) (Or.inl ⟨by rfl, ?_⟩) (by assumption) ?_
        rotate_left
        · (intro w hSw; go_simp; try with_reducible rfl)
        try simp only [Act.put, List.setIfInBounds_toArray, List.set_cons_zero, List.set_cons_succ]
        refine wpAnyH_done (by kernel_rfl) ?_ _
        have HRf : Hid (w7.heap[w.heap.size]? = some (.cells spz 35 (0, 0)) ∧ Below w.heap.size w w7 ∧ w7.heap[w4.heap.size]? = some (.cells X 35 (0, 0))) := ⟨(hHeld.block _ (by omega)).trans H50.out, HB5.out.trans (hHeld.mono HB5.out.size), HX.out _ hHeld⟩
        clear hHeld
        go_wp2_with (first
          | refine wpList_load_row rfl _ _ rfl w4.heap.size rfl 35 X (0, 0) _ HRf.out.2.2 Tryz.underlying35 rfl (by rw [hXs]; exact infoSuper) ?_
          | refine wpList_store_row rfl _ _ _ rfl w.heap.size X rfl rfl 35 spz HRf.out.1 (by rw [hXs]; exact infoSuper) (by rw [hXs]; rfl) hX1 ?_)
        refine bodyPost_ret (v := .tuple #[.agg X, .int .i64 0]) ?_ rfl ⟨.inl ⟨HG.out, by rw [HXe.out]⟩, below_setRow HRf.out.2.1 (Nat.le_refl _) _⟩
        exact results_cr2 (p := 4) (u := 5) rfl _ _ w.heap.size X rfl (load_super (setRow_heap _ _ _ _ _ _ HRf.out.1) hXs)
      · have HG : Hid (¬ good T zs) := fun h => hbk (by rw [HF.out, HSb.out]; exact h.2.2.2)
        have HNe : Hid (∀ w', (Op.equalIn 10000 69 (.agg C) (.agg Pt)).run Tryz.prog w' = .ok false w') := fun w' => by rw [HEq.out w', decide_eq_false hbk]
        clear hok hsz hPt hbk HEq
        refine wp_region_held_drew (S := fun wX => Below w5.heap.size w5 wX) (by kernel_rfl) (Below.refl _ _).drew (fun hHeld => ?_)
        refine wpAnyH_take (i := 0) (oi := ⟨some 17, _, _, _, _, _⟩) (v := .agg X) rfl (by kernel_rfl) (by kernel_rfl) (by kernel_rfl) (fun _ _ _ h => h) (yieldsIf_load_row (by rfl) _ _ rfl w4.heap.size rfl X (fun w' h' => load_super (HX.out w' h') hXs)) (by assumption) ?_
        try simp only [Act.put, List.setIfInBounds_toArray, List.set_cons_zero, List.set_cons_succ]
        refine wpAnyH_ready (rs := [1]) (by kernel_rfl) (by simp) ?_
        refine AllReadyH.cons (o := ⟨some 18, _, _, _, _, _⟩) rfl (fun K hK => ?_) AllReadyH.nil
        go_simp
        refine (HMay.out _).mono ?_
        rintro r w6 ⟨rfl, b6⟩
        have hb6 : Below w5.heap.size w5 w6 := hHeld.trans (b6.mono hHeld.size)
        clear b6
        refine hK.out _ _ hb6 (fun hHeld => ?_)
        clear hK K
        try simp only [Act.put, List.setIfInBounds_toArray, List.set_cons_zero, List.set_cons_succ]
        refine wpAnyH_take (i := 2) (oi := ⟨some 19, _, _, _, _, _⟩) (v := ?_) rfl (by kernel_rfl) (by kernel_rfl) (by kernel_rfl) (fun _ _ _ h => h) (Or.inl ⟨by rfl, ?_⟩) (by assumption) ?_
        rotate_left
        · (intro w hSw; go_simp; try with_reducible rfl)
        try simp only [Act.put, List.setIfInBounds_toArray, List.set_cons_zero, List.set_cons_succ]
        refine wpAnyH_take (i := 3) (oi := ⟨some 20, _, _, _, _, _⟩) (v := ?_) rfl (by kernel_rfl) (by kernel_rfl) (by kernel_rfl) (fun _ _ _ h => h) (Or.inl ⟨by rfl, ?_⟩) (by assumption) ?_
        rotate_left
        · (intro w hSw; go_simp; try with_reducible rfl)
        try simp only [Act.put, List.setIfInBounds_toArray, List.set_cons_zero, List.set_cons_succ]
        refine wpAnyH_take (i := 4) (oi := ⟨some 21, _, _, _, _, _⟩) (v := ?_) rfl (by kernel_rfl) (by kernel_rfl) (by kernel_rfl) (fun _ _ _ h => h) (Or.inl ⟨by rfl, ?_⟩) (by assumption) ?_
        rotate_left
        · (intro w hSw; go_simp; try with_reducible rfl)
        try simp only [Act.put, List.setIfInBounds_toArray, List.set_cons_zero, List.set_cons_succ]
        refine wpAnyH_take (i := 5) (oi := ⟨some 22, _, _, _, _, _⟩) (v := ?_) rfl (by kernel_rfl) (by kernel_rfl) (by kernel_rfl) (fun _ _ _ h => h) (Or.inl ⟨by rfl, ?_⟩) (by assumption) ?_
        rotate_left
        · (intro w hSw; have c0 := HC0.out w hSw; go_simp; try with_reducible rfl)
        try simp only [Act.put, List.setIfInBounds_toArray, List.set_cons_zero, List.set_cons_succ]
        refine wpAnyH_take (i := 6) (oi := ⟨some 23, _, _, _, _, _⟩) (v := ?_) rfl (by kernel_rfl) (by kernel_rfl) (by kernel_rfl) (fun _ _ _ h => h) (Or.inl ⟨by rfl, ?_⟩) (by assumption) ?_
        rotate_left
        · (intro w hSw; go_simp; try with_reducible rfl)
        try simp only [Act.put, List.setIfInBounds_toArray, List.set_cons_zero, List.set_cons_succ]
        refine wpAnyH_take (i := 7) (oi := ⟨some 24, _, _, _, _, _⟩) (v := ?_) rfl (by kernel_rfl) (by kernel_rfl) (by kernel_rfl) (fun _ _ _ h => h) (Or.inl ⟨by rfl, ?_⟩) (by assumption) ?_
        rotate_left
        · (intro w hSw; go_simp; try with_reducible rfl)
        try simp only [Act.put, List.setIfInBounds_toArray, List.set_cons_zero, List.set_cons_succ]
        refine wpAnyH_take (i := 8) (oi := ⟨some 25, _, _, _, _, _⟩) (v := ?_) rfl (by kernel_rfl) (by kernel_rfl) (by kernel_rfl) (fun _ _ _ h => h) (Or.inl ⟨by rfl, ?_⟩) (by assumption) ?_
        rotate_left
        · (intro w hSw; go_simp; try with_reducible rfl)
        try simp only [Act.put, List.setIfInBounds_toArray, List.set_cons_zero, List.set_cons_succ]
        refine wpAnyH_take (i := 9) (oi := ⟨some 26, _, _, _, _, _⟩) (v := ?_) rfl (by kernel_rfl) (by kernel_rfl) (by kernel_rfl) (fun _ _ _ h => h) (Or.inl ⟨by rfl, ?_⟩) (by assumption) ?_
        rotate_left
        · (intro w hSw; go_simp; try with_reducible rfl)
        try simp only [Act.put, List.setIfInBounds_toArray, List.set_cons_zero, List.set_cons_succ]
        refine wpAnyH_take (i := 10) (oi := ⟨some 27, _, _, _, _, _⟩) (v := ?_) rfl (by kernel_rfl) (by kernel_rfl) (by kernel_rfl) (fun _ _ _ h => h) (Or.inl ⟨by rfl, ?_⟩) (by assumption) ?_
        rotate_left
        · (intro w hSw; go_simp; try with_reducible rfl)
        try simp only [Act.put, List.setIfInBounds_toArray, List.set_cons_zero, List.set_cons_succ]
        refine wpAnyH_take (i := 11) (oi := ⟨some 28, _, _, _, _, _⟩) (v := .agg C) rfl (by kernel_rfl) (by kernel_rfl) (by kernel_rfl) (fun _ _ _ h => h) (yieldsIf_load_row (by rfl) _ _ rfl (w.heap.size + 1) rfl C (fun w' h' => load_block (HCb.out w' h') hCs)) (by assumption) ?_
        try simp only [Act.put, List.setIfInBounds_toArray, List.set_cons_zero, List.set_cons_succ]
        refine wpAnyH_take (i := 12) (oi := ⟨some 29, _, _, _, _, _⟩) (v := ?_) rfl (by kernel_rfl) (by kernel_rfl) (by kernel_rfl) (fun _ _ _ h => h) (Or.inl ⟨by rfl, ?_⟩) (by assumption) ?_
        rotate_left
        · (intro w hSw; go_simp; try with_reducible rfl)
        try simp only [Act.put, List.setIfInBounds_toArray, List.set_cons_zero, List.set_cons_succ]
        refine wpAnyH_take (i := 13) (oi := ⟨some 30, _, _, _, _, _⟩) (v := .agg X) rfl (by kernel_rfl) (by kernel_rfl) (by kernel_rfl) (fun _ _ _ h => h) (yieldsIf_load_row (by rfl) _ _ rfl w4.heap.size rfl X (fun w' h' => load_super (HX.out w' h') hXs)) (by assumption) ?_
        try simp only [Act.put, List.setIfInBounds_toArray, List.set_cons_zero, List.set_cons_succ]
        refine wpAnyH_ready (rs := [14]) (by kernel_rfl) (by simp) ?_
        refine AllReadyH.cons (o := ⟨some 31, _, _, _, _, _⟩) rfl (fun K hK => ?_) AllReadyH.nil
        go_simp
        refine (HBlk.out _ hHeld).mono ?_
        rintro r w7 ⟨rfl, b7⟩
        have hb7 : Below w5.heap.size w5 w7 := hHeld.trans (b7.mono hHeld.size)
        clear b7
        refine hK.out _ _ hb7 (fun hHeld => ?_)
        clear hK K
        try simp only [Act.put, List.setIfInBounds_toArray, List.set_cons_zero, List.set_cons_succ]
        refine wpAnyH_take (i := 15) (oi := ⟨some 32, _, _, _, _, _⟩) (v := ?_) rfl (by kernel_rfl) (by kernel_rfl) (by kernel_rfl) (fun _ _ _ h => h) (Or.inl ⟨by rfl, ?_⟩) (by assumption) ?_
        rotate_left
        · (intro w hSw; have hq := HNe.out w; go_simp; try with_reducible rfl)
        try simp only [Act.put, List.setIfInBounds_toArray, List.set_cons_zero, List.set_cons_succ]
        refine wpAnyH_take (i := 16) (oi := ⟨some 33, _, _, _, _, _⟩) (v := ?_) rfl (by kernel_rfl) (by kernel_rfl) (by kernel_rfl) (fun _ _ _ h => h) (Or.inl ⟨by rfl, ?_⟩) (by assumption) ?_
        rotate_left
        · (intro w hSw; go_simp; try with_reducible rfl)
        try simp only [Act.put, List.setIfInBounds_toArray, List.set_cons_zero, List.set_cons_succ]
        refine wpAnyH_done (by kernel_rfl) ?_ _
        have HRf : Hid (w7.heap[w.heap.size]? = some (.cells spz 35 (0, 0)) ∧ Below w.heap.size w w7) := ⟨(hHeld.block _ (by omega)).trans H50.out, HB5.out.trans (hHeld.mono HB5.out.size)⟩
        clear hHeld
        go_wp2_with (refine wpList_store_row rfl _ _ _ rfl w.heap.size spz rfl rfl 35 spz HRf.out.1 infoSuper rfl zv_one ?_)
        refine bodyPost_ret (v := .tuple #[.agg spz, .int .i64 2]) ?_ rfl ⟨.inr ⟨HG.out, rfl⟩, below_setRow HRf.out.2 (Nat.le_refl _) _⟩
        exact results_cr2 (p := 4) (u := 5) rfl _ _ w.heap.size spz rfl (load_super (setRow_heap _ _ _ _ _ _ HRf.out.1) rfl)
    · have hne : (s.size != (len : Int)) = true := by simpa using hsz
      have HG : Hid (¬ good T zs) := fun h => hsz (by rw [HSb.out, h.2.2.1, hz])
      clear hok hsz
      refine wp_region_held_drew (S := fun wX => Below w5.heap.size w5 wX) (by kernel_rfl) (Below.refl _ _).drew (fun hHeld => ?_)
      refine wpAnyH_take (i := 0) (oi := ⟨some 17, _, _, _, _, _⟩) (v := .agg X) rfl (by kernel_rfl) (by kernel_rfl) (by kernel_rfl) (fun _ _ _ h => h) (yieldsIf_load_row (by rfl) _ _ rfl w4.heap.size rfl X (fun w' h' => load_super (HX.out w' h') hXs)) (by assumption) ?_
      try simp only [Act.put, List.setIfInBounds_toArray, List.set_cons_zero, List.set_cons_succ]
      refine wpAnyH_ready (rs := [1]) (by kernel_rfl) (by simp) ?_
      refine AllReadyH.cons (o := ⟨some 18, _, _, _, _, _⟩) rfl (fun K hK => ?_) AllReadyH.nil
      go_simp
      refine (HMay.out _).mono ?_
      rintro r w6 ⟨rfl, b6⟩
      have hb6 : Below w5.heap.size w5 w6 := hHeld.trans (b6.mono hHeld.size)
      clear b6
      refine hK.out _ _ hb6 (fun hHeld => ?_)
      clear hK K
      try simp only [Act.put, List.setIfInBounds_toArray, List.set_cons_zero, List.set_cons_succ]
      refine wpAnyH_take (i := 2) (oi := ⟨some 19, _, _, _, _, _⟩) (v := ?_) rfl (by kernel_rfl) (by kernel_rfl) (by kernel_rfl) (fun _ _ _ h => h) (Or.inl ⟨by rfl, ?_⟩) (by assumption) ?_
      rotate_left
      · (intro w hSw; go_simp; try with_reducible rfl)
      try simp only [Act.put, List.setIfInBounds_toArray, List.set_cons_zero, List.set_cons_succ]
      refine wpAnyH_take (i := 3) (oi := ⟨some 20, _, _, _, _, _⟩) (v := ?_) rfl (by kernel_rfl) (by kernel_rfl) (by kernel_rfl) (fun _ _ _ h => h) (Or.inl ⟨by rfl, ?_⟩) (by assumption) ?_
      rotate_left
      · (intro w hSw; go_simp; try with_reducible rfl)
      try simp only [Act.put, List.setIfInBounds_toArray, List.set_cons_zero, List.set_cons_succ]
      refine wpAnyH_take (i := 4) (oi := ⟨some 21, _, _, _, _, _⟩) (v := ?_) rfl (by kernel_rfl) (by kernel_rfl) (by kernel_rfl) (fun _ _ _ h => h) (Or.inl ⟨by rfl, ?_⟩) (by assumption) ?_
      rotate_left
      · (intro w hSw; go_simp; try with_reducible rfl)
      try simp only [Act.put, List.setIfInBounds_toArray, List.set_cons_zero, List.set_cons_succ]
      refine wpAnyH_take (i := 5) (oi := ⟨some 22, _, _, _, _, _⟩) (v := ?_) rfl (by kernel_rfl) (by kernel_rfl) (by kernel_rfl) (fun _ _ _ h => h) (Or.inl ⟨by rfl, ?_⟩) (by assumption) ?_
      rotate_left
      · (intro w hSw; have c0 := HC0.out w hSw; go_simp; try with_reducible rfl)
      try simp only [Act.put, List.setIfInBounds_toArray, List.set_cons_zero, List.set_cons_succ]
      refine wpAnyH_take (i := 6) (oi := ⟨some 23, _, _, _, _, _⟩) (v := ?_) rfl (by kernel_rfl) (by kernel_rfl) (by kernel_rfl) (fun _ _ _ h => h) (Or.inl ⟨by rfl, ?_⟩) (by assumption) ?_
      rotate_left
      · (intro w hSw; go_simp; try with_reducible rfl)
      try simp only [Act.put, List.setIfInBounds_toArray, List.set_cons_zero, List.set_cons_succ]
      refine wpAnyH_take (i := 7) (oi := ⟨some 24, _, _, _, _, _⟩) (v := ?_) rfl (by kernel_rfl) (by kernel_rfl) (by kernel_rfl) (fun _ _ _ h => h) (Or.inl ⟨by rfl, ?_⟩) (by assumption) ?_
      rotate_left
      · (intro w hSw; go_simp; try with_reducible rfl)
      try simp only [Act.put, List.setIfInBounds_toArray, List.set_cons_zero, List.set_cons_succ]
      refine wpAnyH_take (i := 8) (oi := ⟨some 25, _, _, _, _, _⟩) (v := ?_) rfl (by kernel_rfl) (by kernel_rfl) (by kernel_rfl) (fun _ _ _ h => h) (Or.inl ⟨by rfl, ?_⟩) (by assumption) ?_
      rotate_left
      · (intro w hSw; go_simp; try with_reducible rfl)
      try simp only [Act.put, List.setIfInBounds_toArray, List.set_cons_zero, List.set_cons_succ]
      refine wpAnyH_take (i := 9) (oi := ⟨some 26, _, _, _, _, _⟩) (v := ?_) rfl (by kernel_rfl) (by kernel_rfl) (by kernel_rfl) (fun _ _ _ h => h) (Or.inl ⟨by rfl, ?_⟩) (by assumption) ?_
      rotate_left
      · (intro w hSw; go_simp; try with_reducible rfl)
      try simp only [Act.put, List.setIfInBounds_toArray, List.set_cons_zero, List.set_cons_succ]
      refine wpAnyH_take (i := 10) (oi := ⟨some 27, _, _, _, _, _⟩) (v := ?_) rfl (by kernel_rfl) (by kernel_rfl) (by kernel_rfl) (fun _ _ _ h => h) (Or.inl ⟨by rfl, ?_⟩) (by assumption) ?_
      rotate_left
      · (intro w hSw; go_simp; try with_reducible rfl)
      try simp only [Act.put, List.setIfInBounds_toArray, List.set_cons_zero, List.set_cons_succ]
      refine wpAnyH_take (i := 11) (oi := ⟨some 28, _, _, _, _, _⟩) (v := undef) rfl (by kernel_rfl) (by kernel_rfl) (by kernel_rfl) (fun _ _ _ h => h) (Or.inr ⟨by rfl, rfl⟩) (by assumption) ?_
      try simp only [Act.put, List.setIfInBounds_toArray, List.set_cons_zero, List.set_cons_succ]
      refine wpAnyH_take (i := 12) (oi := ⟨some 29, _, _, _, _, _⟩) (v := undef) rfl (by kernel_rfl) (by kernel_rfl) (by kernel_rfl) (fun _ _ _ h => h) (Or.inr ⟨by rfl, rfl⟩) (by assumption) ?_
      try simp only [Act.put, List.setIfInBounds_toArray, List.set_cons_zero, List.set_cons_succ]
      refine wpAnyH_take (i := 13) (oi := ⟨some 30, _, _, _, _, _⟩) (v := undef) rfl (by kernel_rfl) (by kernel_rfl) (by kernel_rfl) (fun _ _ _ h => h) (Or.inr ⟨by rfl, rfl⟩) (by assumption) ?_
      try simp only [Act.put, List.setIfInBounds_toArray, List.set_cons_zero, List.set_cons_succ]
      refine wpAnyH_ready (rs := [14]) (by kernel_rfl) (by simp) ?_
      refine AllReadyH.cons (o := ⟨some 31, _, _, _, _, _⟩) rfl (fun K hK => ?_) AllReadyH.nil
      go_simp
      refine hK.out _ _ hHeld (fun hHeld => ?_)
      clear hK K
      try simp only [Act.put, List.setIfInBounds_toArray, List.set_cons_zero, List.set_cons_succ]
      refine wpAnyH_take (i := 15) (oi := ⟨some 32, _, _, _, _, _⟩) (v := undef) rfl (by kernel_rfl) (by kernel_rfl) (by kernel_rfl) (fun _ _ _ h => h) (Or.inr ⟨by rfl, rfl⟩) (by assumption) ?_
      try simp only [Act.put, List.setIfInBounds_toArray, List.set_cons_zero, List.set_cons_succ]
      refine wpAnyH_take (i := 16) (oi := ⟨some 33, _, _, _, _, _⟩) (v := ?_) rfl (by kernel_rfl) (by kernel_rfl) (by kernel_rfl) (fun _ _ _ h => h) (Or.inl ⟨by rfl, ?_⟩) (by assumption) ?_
      rotate_left
      · (intro w hSw; go_simp; try with_reducible rfl)
      try simp only [Act.put, List.setIfInBounds_toArray, List.set_cons_zero, List.set_cons_succ]
      refine wpAnyH_done (by kernel_rfl) ?_ _
      have HRf : Hid (w6.heap[w.heap.size]? = some (.cells spz 35 (0, 0)) ∧ Below w.heap.size w w6) := ⟨(hHeld.block _ (by omega)).trans H50.out, HB5.out.trans (hHeld.mono HB5.out.size)⟩
      clear hHeld
      go_wp2_with (refine wpList_store_row rfl _ _ _ rfl w.heap.size spz rfl rfl 35 spz HRf.out.1 infoSuper rfl zv_one ?_)
      refine bodyPost_ret (v := .tuple #[.agg spz, .int .i64 2]) ?_ rfl ⟨.inr ⟨HG.out, rfl⟩, below_setRow HRf.out.2 (Nat.le_refl _) _⟩
      exact results_cr2 (p := 4) (u := 5) rfl _ _ w.heap.size spz rfl (load_super (setRow_heap _ _ _ _ _ _ HRf.out.1) rfl)
/-- What Take answers, of any bytes. -/
theorem sTake_any (tb len cap : Nat) (T : Nat → Nat) (ao : Option Addr) (zs : List Int) (w : World) (hS : Small T) (hT : Tb w tb T) (htb : tb < w.heap.size) (hW : Wid w) (hB : Bs w ao len zs) (hl : len ≤ 1000000) :
    Calls Tryz.prog 11 #[.pointer (some ⟨tb, 0, none⟩), .slice ao len cap] w fun e w' => TakeAns T zs e ∧ Below w.heap.size w w' := by
  by_cases h : len < 64
  · exact Take_short tb len cap T ao zs w hB.1 h
  · exact Take_long tb len cap T ao zs w hS hT htb hW hB (by omega) hl
end Go.Proofs.YtoohanojfoichaaGreatDoor

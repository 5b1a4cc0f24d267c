/- Layer 9: InodeReads: at any ref of any row a record is read, or refused, as the document says. -/
import Derived.Test.YtmhgjilpgbkaaaaInoRefRead
import Derived.Test.YtmhgjilpgbkaaaaInoShown
import Derived.ProofKit
import Derived.Deep.SlicePairs
import Derived.Deep.CutBlock
import Derived.Deep.CutRange
import Derived.Stop.BytesEq
namespace Go.Proofs.Ytmhgjilpgbkaaaa
set_option linter.unusedVariables false
set_option maxRecDepth 100000
open Go.RowKit Go.Maps Go.ChangeShapes Go.WideShapes Go.ChangeAt
open Lz (g)
open Crc (ent)
open Cur
open Ino

/-- A slice of ints in memory. -/
def IntsB (w : World) (a : Option Addr) (len cap : Nat) (Z : Nat → Int) : Prop :=
  len ≤ 9223372036854775807 ∧ (len = 0 ∨ ∃ b off, a = some ⟨b, off, none⟩ ∧ b < w.heap.size ∧ ∀ i, i < len → w.cell? ⟨b, off + i, none⟩ = some (.int .i64 (Z i)) ∧ In64 (Z i))
theorem IntsB.below {w w' : World} {a : Option Addr} {len cap : Nat} {Z : Nat → Int} (h : IntsB w a len cap Z) (hb : Below w.heap.size w w') : IntsB w' a len cap Z := by
  refine ⟨h.1, ?_⟩
  rcases h.2 with h0 | ⟨b, off, h1, h2, h3⟩
  · exact .inl h0
  · exact .inr ⟨b, off, h1, Nat.lt_of_lt_of_le h2 hb.size, fun i hi => ⟨(hb.cell (by exact h2)).trans (h3 i hi).1, (h3 i hi).2⟩⟩
theorem open_ints' {H : Type} {enc : TypeId × Value → H} {W : World} {base : Nat} {v : Value} {d : DataW H} {p : List MemPlace} (hok : Value.okWide Try.prog W .any base 33 v)
    (h : DataW.Trod enc Try.prog W 0 (fun _ => true) true 33 v d p) : ∃ a len cap Z, v = .slice a len cap ∧ IntsB W a len cap Z := by
  obtain ⟨a, len, cap, rfl⟩ := okWide_slice Try.underlying33 hok
  obtain ⟨fuel, hf⟩ := h
  rcases open_ints Try.underlying33 Try.underlying3 (by kernel_rfl) hf with ⟨hcs, _⟩ | ⟨x, l, c, zs, hcs, _, hl, hm, hz, _, hcell, hwz⟩
  · simp [Value.cells] at hcs
    obtain ⟨rfl, rfl, rfl⟩ := hcs
    exact ⟨none, 0, 0, fun _ => 0, rfl, by omega, .inl rfl⟩
  · simp [Value.cells] at hcs
    obtain ⟨rfl, rfl, rfl⟩ := hcs
    have hz' : zs.length = cap := by simpa using hz
    refine ⟨_, len, cap, fun i => zs.getD i 0, rfl, by unfold maxLen at hm; omega, ?_⟩
    by_cases e : len = 0
    · exact .inl e
    · obtain ⟨b, off, spot⟩ := x
      have h00 := hcell 0 (by omega)
      have hspot : spot = none := by simpa [Addr.add] using World.cell?_spot h00
      subst hspot
      have hlt : b < W.heap.size := by
        have := World.block_lt_of_cell? W _ h00
        simpa [Addr.add] using this
      refine .inr ⟨b, off, rfl, hlt, fun i hi => ?_⟩
      have h1 := hcell i (by omega)
      rw [Addr.add_lit] at h1
      refine ⟨h1, wf_i64_bd (hwz _ ?_)⟩
      have hi2 : i < zs.length := by omega
      simp only [List.getD, List.getElem?_eq_getElem hi2, Option.getD_some]
      exact List.getElem_mem hi2
namespace Ino
set_option maxRecDepth 100000 in
theorem equal_rec (s : Rec) (w : World) : (Op.equalIn 10000 23 (.agg (iv s)) (.agg (iv s))).run Try.prog w = .ok true w := by
  unfold iv
  go_simp
end Ino
set_option maxRecDepth 100000 in
set_option maxHeartbeats 4000000 in
theorem reads_walk (a0 : Option Addr) (len0 cap0 : Nat) (z0 : List Int) (a1 : Option Addr) (len1 cap1 : Nat) (Z1 : Nat → Int) (w : World) (w0 : RowB w a0 len0 cap0 z0) (f1 : IntsB w a1 len1 cap1 Z1) :
    Calls Try.prog 5 #[.slice a0 len0 cap0, .slice a1 len1 cap1] w fun e w' => e = .returned (.bool true) ∧ Below w.heap.size w w' := by
  obtain ⟨hz, hi'⟩ := zero_of_info infoTable
  obtain ⟨hbs, hlc, hcm, hby, hnil⟩ := w0.bs (min len0 3000) (by omega)
  have HBS := hide hbs
  have HN := hide hnil
  have HI := hide f1
  have hl1 := f1.1
  clear w0 hbs hby hnil f1
  generalize z0.take (min len0 3000) = Im at HBS
  go_enter Try.func5, Try.ntmps5
  go_wp2_with fail
  refine (shown_any w).mono ?_
  rintro r ws ⟨rfl, bs0⟩
  have HB0 := hide bs0
  clear bs0
  go_upto_if 19 with fail
  go_cut [0] from 20 to 21 (fun s0 wx => s0 = .slice a0 (min len0 3000) cap0 ∧ wx = ws)
  case first =>
    by_cases h3 : 3000 < len0
    · have e3 : min len0 3000 = 3000 := by omega
      go_wp2_with fail
      go_meet
      case rel => exact ⟨by rw [e3], rfl⟩
    · have e3 : min len0 3000 = len0 := by omega
      go_wp2_with fail
      go_meet
      case rel => exact ⟨by rw [e3], rfl⟩
  case rest =>
  obtain ⟨rfl, hwc⟩ := hcut
  obtain rfl := hwc.symm
  have hm2 : min len0 3000 ≤ cap0 := by omega
  have hm1 : min len0 3000 ≤ 3000 := by omega
  generalize min len0 3000 = m at *
  have hk8 : 0 + m ≤ 100000000 := by omega
  go_wp2_with fail
  refine (New_any ws).mono ?_
  rintro r w2 ⟨rfl, b2⟩
  obtain ⟨C, hC⟩ : ∃ C, C = Go.Proofs.Ytmhgjilpgbkaaaa.tab ent := ⟨_, rfl⟩
  rw [← hC]
  have HC := hide hC
  clear hC
  go_wp2_with (first
    | (refine wpList_store_table rfl _ _ rfl ent C HC.out rfl rfl _ (by simp) ?_; intro w3 ht3 hT3 hlt3 hb3; have b3 : Below w.heap.size w w3 := (HB0.out.trans (b2.mono HB0.out.size)).trans (hb3.mono (Nat.le_trans HB0.out.size b2.size)); have HB3 := hide b3; have HT3 := hide hT3; have HS3 := hide (HBS.out.below b3); have ho := emptyB (w := w3) (Nat.le_refl _); have hsrc : Bs (w3.alloc (.cells #[] 5)) a0 m Im := HS3.out.alloc _; clear ht3 hT3 hb3 b2 HB0 b3)
    | (at_builtin
       refine wpList_append_bs _ (by rfl) (.tmp 23) (.tmp 24) (by rfl) w3.heap.size _ 0 0 [] (by rfl) ho a0 m cap0 Im (by rfl) hsrc HN.out hk8 (by simp) ?_
       intro ao c w4 ho1 hg1
       have HB34 : Hid (Below w3.heap.size w3 w4) := ((Below.refl _ w3).alloc (Nat.le_refl _) _).grown hg1 (by simp) (fun kk e => (ho.lt kk e).1)
       have HO1 : Hid (w4.ownsRow w3.heap.size 5 1 (.slice ao m c) m (bv Im)) := by rw [Nat.zero_add, List.nil_append] at ho1; exact ho1
       clear ho1 hg1))
  have HS4 := hide (bs_of_owns HO1.out HS3.out.bytes)
  have hoc := cap_of_owns HO1.out
  have hom := max_of_owns HO1.out
  have HOn := hide (nil_cap HO1.out)
  clear ho hsrc HO1
  refine (Open_any w2.heap.size m c ao Im ent w4 0 m HS4.out hoc hom HOn.out (by omega) (by omega) (by omega) (by omega)).mono ?_
  rintro r wO ⟨p, rfl, hRd, bO⟩
  have eIm : (Im.take ((m : Int)).toNat).drop ((0 : Int)).toNat = Im := by
    rw [Int.toNat_natCast, show ((0 : Int)).toNat = 0 from rfl, List.drop_zero, List.take_of_length_le (by rw [HBS.out.1]; omega)]
  rw [eIm] at hRd
  have HRd := hide hRd
  have hbO : Below w3.heap.size w3 wO := HB34.out.trans (bO.mono HB34.out.size)
  have HBO := hide hbO
  have hsO := hbO.size
  have hs34 := HB34.out.size
  have hs4O := bO.size
  clear hRd bO hbO eIm HS4 HB34
  obtain ⟨wY, hwY⟩ : ∃ wY, wY = wO.alloc (.cells #[.slice a0 m cap0, .int .i64 0, .int .i64 m] 43) := ⟨_, rfl⟩
  have hbY : Below wO.heap.size wO wY := by rw [hwY]; exact below_one _ _
  have hsY : wY.heap.size = wO.heap.size + 1 := by rw [hwY]; simp
  have hpY : wY.heap[wO.heap.size]? = some (.cells #[.slice a0 m cap0, .int .i64 0, .int .i64 m] 43 (0, 0)) := by rw [hwY]; exact heap_new rfl
  have HwY := hide hwY
  have hb3Y : Below w3.heap.size w3 wY := HBO.out.trans (hbY.mono HBO.out.size)
  have hbwY : Below w.heap.size w wY := HB3.out.trans (hb3Y.mono HB3.out.size)
  have hw3 := HB3.out.size
  have HW : Hid (∀ wq, Fr (fun k => w3.heap.size ≤ k ∧ k ≠ wO.heap.size) wY wq → Below w.heap.size w wq) := fun wq hf => hbwY.trans (hf.below w.heap.size hbwY.size (fun t ht => Nat.le_trans hw3 ht.1))
  have HRY : Hid (∀ wq, Fr (fun k => w3.heap.size ≤ k ∧ k ≠ wO.heap.size) wY wq → RdY wq wO.heap.size Im 0 m a0 m cap0) := fun wq hf =>
    ⟨(hf.block _ (by omega) (fun h => h.2 rfl)).trans hpY, HBS.out.below (HW.out wq hf), hm2, hcm, HN.out, by omega⟩
  have HTY : Hid (∀ wq, Fr (fun k => w3.heap.size ≤ k ∧ k ≠ wO.heap.size) wY wq → Tb wq w2.heap.size ent) := fun wq hf => (HT3.out.below hb3Y hlt3).fr hf (by omega) (fun h => by omega)
  have HRdY := hide (HRd.out.below hbY)
  clear hbY hpY hb3Y hbwY HRd HBO HT3 HB3 hwY HS3
  go_wp2_with fail
  rw [← HwY.out]
  clear hz hi' hwc HC hoc hom HOn HwY
  go_loopw [9] (fun s9 wr => ∃ (i : Nat) (O : Nat → Prop), s9 = .int .i64 i ∧ i ≤ 20 ∧ RdM wr p O w2.heap.size ent Im (2000 * i) ∧ Fr (fun k => w3.heap.size ≤ k ∧ k ≠ wO.heap.size) wY wr ∧ (∀ t, O t → w3.heap.size ≤ t ∧ t ≠ wO.heap.size)) (fun s9 _ => 20 - (intOf s9).toNat)
  case atStart => exact ⟨0, _, rfl, by omega, HRdY.out, Fr.refl _ _, fun t ht => ⟨by omega, by omega⟩⟩
  case round =>
    clear HRdY
    obtain ⟨i, O, rfl, hi20, hS, hF, hO⟩ := hrel
    have hsr := hF.size
    by_cases hgo : i < len1 ∧ i < 20
    · obtain ⟨b, off, rfl, hbw, hcell, hr⟩ : ∃ b off, a1 = some ⟨b, off, none⟩ ∧ b < w.heap.size ∧ (∀ wq, Fr (fun k => w3.heap.size ≤ k ∧ k ≠ wO.heap.size) wY wq → wq.cell? ⟨b, off + i, none⟩ = some (.int .i64 (Z1 i))) ∧ In64 (Z1 i) := by
        rcases HI.out.2 with h | ⟨b, off, h1, h2, h3⟩
        · omega
        · exact ⟨b, off, h1, h2, fun wq hf => ((HW.out wq hf).cell (p := ⟨b, off + i, none⟩) h2).trans (h3 i hgo.1).1, (h3 i hgo.1).2⟩
      unfold In64 at hr
      have e1 := hcell wr hF
      have HCe := hide hcell
      generalize Z1 i = ref at *
      have hOt : ¬ O w2.heap.size := fun hx => by have := (hO _ hx).1; omega
      have HC1 := hide (iRead_any p w2.heap.size (2000 * i) O Im ref wr hS (HTY.out wr hF) (by omega) hOt HBS.out.bytes hr (by rw [HBS.out.1]; omega) (by omega))
      have HF := hide hF
      have HO := hide hO
      have i1 : (i : Int) < (len1 : Int) := by omega
      have i2 : (i : Int) < 20 := by omega
      have i3 : (0 : Int) ≤ (i : Int) := by omega
      have HRf := hide (fun wq hf => refIRead_any wO.heap.size m cap0 Im a0 ref wq (HRY.out wq hf) hr)
      generalize readA Im ref = RA at HC1 HRf
      obtain ⟨A, nx, er⟩ := RA
      unfold IReads at HC1
      simp only at HC1 HRf
      have hEq := equal_rec A
      have hgd : Try.prog.eqGuardType Try.prog.depth 23 = false := by kernel_rfl
      have hgd2 : ∀ (w : World) (x y : Operand) (a b : Array Value), (eqGuard .neq 23 x y (.agg a) (.agg b)).run Try.prog w = .ok () w := fun w x y a b => by simp [eqGuard, hgd]
      have q1 : (nx != nx) = false := by simp
      have q2 : (er != er) = false := by simp
      clear hS hF hO hOt hcell
      go_wp2_with fail
      refine HC1.out.mono ?_
      rintro r w5 ⟨rfl, O5, hS5, hF5, hG5⟩
      have f5 := HF.out.trans hF5 (fun t _ ht => HO.out t ht)
      have o5 : ∀ t, O5 t → w3.heap.size ≤ t ∧ t ≠ wO.heap.size := fun t ht => by
        rcases hG5 t ht with h | h
        · exact HO.out t h
        · omega
      obtain ⟨w6, hw6⟩ : ∃ w6, w6 = w5.alloc (.cells (iv A) 23) := ⟨_, rfl⟩
      have b56 : Below w5.heap.size w5 w6 := by rw [hw6]; exact below_one _ _
      have f6 := f5.then (Fr.of_below b56)
      have hx6 : w6.heap[w5.heap.size]? = some (.cells (iv A) 23 (0, 0)) := by rw [hw6]; exact heap_new rfl
      have e6 := HCe.out w6 f6
      have HS6 := hide (hS5.below b56)
      have HF6 := hide f6
      have HO5 := hide o5
      have HW6 := hide hw6
      have hlt6 := heap_lt hx6
      clear f5 o5 hS5 hF5 hG5 HC1 HF HO e1 b56 f6 hw6
      go_wp2_with (refine wpList_store_row rfl _ _ _ rfl w5.heap.size (iv A) rfl rfl 23 _ (heap_alloc_new w5 _) infoRec rfl (iv_one _) ?_; rw [World.setRow_alloc_new, ← HW6.out])
      refine (HRf.out w6 HF6.out).mono ?_
      rintro r w7 ⟨rfl, b7⟩
      obtain ⟨w8, hw8⟩ : ∃ w8, w8 = w7.alloc (.cells (iv A) 23) := ⟨_, rfl⟩
      have b68 : Below w6.heap.size w6 w8 := by rw [hw8]; exact b7.alloc b7.size _
      have HF8 := hide (HF6.out.then (Fr.of_below b68))
      have HS8 := hide (HS6.out.below b68)
      have hx8 : w8.heap[w5.heap.size]? = some (.cells (iv A) 23 (0, 0)) := (b68.block _ hlt6).trans hx6
      have hy8 : w8.heap[w7.heap.size]? = some (.cells (iv A) 23 (0, 0)) := by rw [hw8]; exact heap_new rfl
      have HW8 := hide hw8
      clear b7 b68 hw8 hx6 HF6 HS6 HRf e6
      go_wp2_with (first
        | (refine wpList_store_row rfl _ _ _ rfl w7.heap.size (iv A) rfl rfl 23 _ (heap_alloc_new w7 _) infoRec rfl (iv_one _) ?_; rw [World.setRow_alloc_new, ← HW8.out])
        | refine wpList_load_rec (by rfl) _ rfl w5.heap.size rfl 23 (iv A) (0, 0) hx8 rfl ?_
        | refine wpList_load_rec (by rfl) _ rfl w7.heap.size rfl 23 (iv A) (0, 0) hy8 rfl ?_)
      go_roundw
      case rel => exact ⟨i + 1, O5, by go_num, by omega, by rw [Nat.mul_add]; exact HS8.out, HF8.out, HO5.out⟩
      case measure => simp [intOf]; omega
    · have HWr := hide (HW.out wr hF)
      clear hS hF hO
      by_cases h1 : i < len1
      · have i1 : (i : Int) < (len1 : Int) := by omega
        have i2 : (20 : Int) ≤ (i : Int) := by omega
        have i3 : decide ((i : Int) < 20) = false := by simp; omega
        clear hgo
        go_wp2
        go_ret
        exact ⟨rfl, HWr.out⟩
      · have i1 : decide ((i : Int) < (len1 : Int)) = false := by simp; omega
        clear hgo
        go_wp2
        go_ret
        exact ⟨rfl, HWr.out⟩
end Go.Proofs.Ytmhgjilpgbkaaaa

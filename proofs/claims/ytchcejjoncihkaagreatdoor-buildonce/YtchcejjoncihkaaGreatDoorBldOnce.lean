/- What the proof stands on: BldOnce, with what the proof reaches of it. -/
import Derived.Test.YtchcejjoncihkaaGreatDoorBldOnceP
import Derived.Deep.CutRange

/- Layer 14: the statement BuildOnce, walked. -/
namespace Go.Proofs.YtchcejjoncihkaaGreatDoor
set_option linter.unusedVariables false
open Go.RowKit Go.Maps
open Lz (g)
open Crc (ent)
open Frm Mtr Tre Nam Tab Bld

/-- The worlds behind five boxes. -/
theorem five_boxes (w : World) (a b c d e : Obj) : Below w.heap.size w (((((w.alloc a).alloc b).alloc c).alloc d).alloc e) ∧ (((((w.alloc a).alloc b).alloc c).alloc d).alloc e).heap.size = w.heap.size + 5 ∧ (((((w.alloc a).alloc b).alloc c).alloc d).alloc e).heap[w.heap.size]? = some a ∧
    (((((w.alloc a).alloc b).alloc c).alloc d).alloc e).heap[w.heap.size + 1]? = some b ∧ (((((w.alloc a).alloc b).alloc c).alloc d).alloc e).heap[w.heap.size + 1 + 1]? = some c ∧ (((((w.alloc a).alloc b).alloc c).alloc d).alloc e).heap[w.heap.size + 1 + 1 + 1]? = some d ∧ (((((w.alloc a).alloc b).alloc c).alloc d).alloc e).heap[w.heap.size + 1 + 1 + 1 + 1]? = some e := by
  have h1 : Below w.heap.size w (w.alloc a) := (Below.refl _ w).alloc (Nat.le_refl _) a
  have h2 := h1.alloc h1.size b
  have h3 := h2.alloc h2.size c
  have h4 := h3.alloc h3.size d
  have h5 := h4.alloc h4.size e
  refine ⟨h5, by simp, ?_, ?_, ?_, ?_, heap_new (by simp)⟩
  · exact (Below.heap_alloc _ _ _ (by first | (simp; omega) | simp)).trans ((Below.heap_alloc _ _ _ (by first | (simp; omega) | simp)).trans ((Below.heap_alloc _ _ _ (by first | (simp; omega) | simp)).trans ((Below.heap_alloc _ _ _ (by simp)).trans (heap_new (by simp)))))
  · exact (Below.heap_alloc _ _ _ (by first | (simp; omega) | simp)).trans ((Below.heap_alloc _ _ _ (by first | (simp; omega) | simp)).trans ((Below.heap_alloc _ _ _ (by simp)).trans (heap_new (by simp))))
  · exact (Below.heap_alloc _ _ _ (by first | (simp; omega) | simp)).trans ((Below.heap_alloc _ _ _ (by simp)).trans (heap_new (by simp)))
  · exact (Below.heap_alloc _ _ _ (by simp)).trans (heap_new (by simp))
/-- A file's node in memory. -/
def Bld.vf (nb : Nat) (i : Int) (a0 : Option Addr) (K cap0 : Nat) : Nv := ⟨some ⟨nb, 0, none⟩, 1, 1, i, 2, 0, 0, 0, a0, K, cap0, ⟨#[]⟩, none, 0, 0, false⟩
theorem vf_rep {w : World} {nb K cap0 : Nat} {i : Int} {a0 : Option Addr} {b : List Int} {c : UInt8} (hi : (Lit.int .i64 i).wf = true) (hn : w.heap[nb]? = some (.cells #[.string ⟨#[c]⟩] 9 (0, 0))) (hB : Bs w a0 K b) (hK : K ≤ cap0) (hc : cap0 ≤ 9223372036854775807) (hnil : a0 = none → cap0 = 0) : Rep w (vf nb i a0 K cap0) (fa c i b) where
  names := by
    refine ⟨rfl, .inr ⟨nb, 0, rfl, heap_lt hn, fun j (hj : j < 1) => ?_⟩⟩
    obtain rfl : j = 0 := by omega
    show w.cell? ⟨nb, 0, none⟩ = some (.string ⟨#[c]⟩)
    simp [World.cell?, hn]
  nc := Nat.le_refl _
  ncm := by show (1 : Nat) ≤ 9223372036854775807; omega
  nnil := fun h => by simp [vf] at h
  ino := rfl
  in64 := hi
  kind := rfl
  mode := rfl
  uid := rfl
  gid := rfl
  data := hB
  dc := hK
  dcm := hc
  dnil := hnil
  tg := rfl
  tgm := by show (0 : Nat) ≤ 9223372036854775807; omega
  xs := ⟨rfl, .inl rfl⟩
  xc := Nat.le_refl _
  xcm := by show (0 : Nat) ≤ 9223372036854775807; omega
  xnil := fun _ => rfl
  op := rfl
theorem nod_at {w : World} {ab o : Nat} {v : Nv} {P S : List Value} (h : w.heap[ab]? = some (.cells (P ++ (v.cells.toList ++ S)).toArray 37 (0, 0))) (ho : P.length = o) : NodAt w ab o v := by
  subst ho
  have hc : ∀ j, w.cell? ⟨ab, P.length + j, none⟩ = (v.cells.toList ++ S)[j]? := fun j => by
    simp only [World.cell?, h]
    rw [List.getElem?_toArray, List.getElem?_append_right (by omega), Nat.add_sub_cancel_left]
    rfl
  exact ⟨hc 0, hc 1, hc 2, hc 3, hc 4, hc 5, hc 6, hc 7, hc 8, hc 9⟩
set_option maxRecDepth 100000 in
set_option maxHeartbeats 2000000 in
theorem once_walk (a0 : Option Addr) (len0 cap0 : Nat) (z0 : List Int) (w : World) (f0 : RowB w a0 len0 cap0 z0) (hW : Wid w) :
    Calls Tryz.prog 6 #[.slice a0 len0 cap0] w fun e w' => e = .returned (.bool true) ∧ Below w.heap.size w w' := by
  obtain ⟨m, hm⟩ : ∃ m, m = min len0 1500 := ⟨_, rfl⟩
  obtain ⟨q, hq⟩ : ∃ q, q = m / 128 := ⟨_, rfl⟩
  obtain ⟨K, hK⟩ : ∃ K, K = 128 * q := ⟨_, rfl⟩
  obtain ⟨hbs, hlc, hcm, hby, hnil⟩ := f0.bs K (by omega)
  have hbl := hbs.1
  obtain ⟨b, hb⟩ : ∃ b, b = z0.take K := ⟨_, rfl⟩
  rw [← hb] at hbs hbl
  have HBs := hide hbs
  have HNil := hide hnil
  have HMod : Hid (b.length % 128 = 0) := by show _ = _; omega
  have HM := hide hm
  have v1q : (m : Int) / 128 = (q : Int) := by omega
  have v2q : (m : Int).tdiv 128 = (q : Int) := by rw [Int.tdiv_eq_ediv_of_nonneg (by omega)]; exact v1q
  have v3 : IntKind.i64.wrap (q : Int) = (q : Int) := by rw [IntKind.wrap_i64]; omega
  have v4 : IntKind.i64.wrap ((q : Int) * 128) = (K : Int) := by rw [IntKind.wrap_i64]; omega
  have v5 : (0 : Int) ≤ (K : Int) := by omega
  have v6 : (K : Int) ≤ (m : Int) := by omega
  have v7 : (K : Int) ≤ (cap0 : Int) := by omega
  have v8 : (m : Int) ≤ (cap0 : Int) := by omega
  have hK15 : K ≤ 1500 := by omega
  have HKc : Hid (K ≤ cap0 ∧ cap0 ≤ 9223372036854775807) := ⟨by omega, hcm⟩
  have HW := hide hW
  have h1500 : min len0 1500 ≤ 1500 := by omega
  clear f0 hbs hnil hby hb hbl hK hq hW
  go_enter Tryz.func6, Tryz.ntmps6
  go_wp2_with fail
  refine (shown_any w HW.out).mono ?_
  rintro r ws ⟨rfl, bs0⟩
  have HB0 := hide bs0
  clear bs0
  go_upto_if 19 with fail
  go_cut [0] from 20 to 21 (fun s0 wx => s0 = .slice a0 m cap0 ∧ wx = ws)
  case first =>
    by_cases h3 : 1500 < len0
    · have e3 : m = 1500 := by omega
      clear hm
      go_wp2_with fail
      go_meet
      case rel => exact ⟨by rw [e3], rfl⟩
    · have e3 : m = len0 := by omega
      clear hm
      go_wp2_with fail
      go_meet
      case rel => exact ⟨by rw [e3], rfl⟩
  case rest =>
  obtain ⟨rfl, hwc⟩ := hcut
  obtain rfl := hwc.symm
  clear hwc hm
  go_wp2_with fail
  obtain ⟨t0, t1, t2, t3, t4, t5, t6⟩ := five_boxes ws (.cells v1.cells 37) (.cells #[.string ⟨#[97]⟩] 9) (.cells (vf (ws.heap.size + 1) 2 a0 K cap0).cells 37) (.cells #[.string ⟨#[98]⟩] 9) (.cells (vf (ws.heap.size + 1 + 1 + 1) 3 a0 K cap0).cells 37)
  obtain ⟨w5, hw5⟩ : ∃ w5, w5 = (((((ws.alloc (.cells v1.cells 37)).alloc (.cells #[.string ⟨#[97]⟩] 9)).alloc (.cells (vf (ws.heap.size + 1) 2 a0 K cap0).cells 37)).alloc (.cells #[.string ⟨#[98]⟩] 9)).alloc (.cells (vf (ws.heap.size + 1 + 1 + 1) 3 a0 K cap0).cells 37)) := ⟨_, rfl⟩
  rw [← hw5] at t0 t1 t2 t3 t4 t5 t6
  have e5 : (((((ws.alloc (Obj.cells #[.slice none 0 0, .int .i64 1, .int .i64 1, .int .i64 0, .int .i64 0, .int .i64 0, .slice none 0 0, .string ⟨#[]⟩, .slice none 0 0, .bool false] 37)).alloc (Obj.cells #[.string ⟨#[97]⟩] 9)).alloc (Obj.cells #[.slice (some ⟨ws.heap.size + 1, 0, none⟩) 1 1, .int .i64 2, .int .i64 2, .int .i64 0, .int .i64 0, .int .i64 0, .slice a0 K cap0, .string ⟨#[]⟩, .slice none 0 0, .bool false] 37)).alloc (Obj.cells #[.string ⟨#[98]⟩] 9)).alloc (Obj.cells #[.slice (some ⟨ws.heap.size + 1 + 1 + 1, 0, none⟩) 1 1, .int .i64 3, .int .i64 2, .int .i64 0, .int .i64 0, .int .i64 0, .slice a0 K cap0, .string ⟨#[]⟩, .slice none 0 0, .bool false] 37)) = w5 := by rw [hw5]; rfl
  rw [e5]
  obtain ⟨w6, hw6⟩ : ∃ w6, w6 = w5.alloc (.cells (v1.cells.toList ++ ((vf (ws.heap.size + 1) 2 a0 K cap0).cells.toList ++ [])).toArray 37) := ⟨_, rfl⟩
  have e6 : w5.alloc (Obj.cells #[.slice none 0 0, .int .i64 1, .int .i64 1, .int .i64 0, .int .i64 0, .int .i64 0, .slice none 0 0, .string ⟨#[]⟩, .slice none 0 0, .bool false, .slice (some ⟨ws.heap.size + 1, 0, none⟩) 1 1, .int .i64 2, .int .i64 2, .int .i64 0, .int .i64 0, .int .i64 0, .slice a0 K cap0, .string ⟨#[]⟩, .slice none 0 0, .bool false] 37) = w6 := by rw [hw6]; rfl
  rw [e6]
  have hb6 : Below w5.heap.size w5 w6 := by rw [hw6]; exact (Below.refl _ w5).alloc (Nat.le_refl _) _
  have hp6 : w6.heap[w5.heap.size]? = some (.cells (v1.cells.toList ++ ((vf (ws.heap.size + 1) 2 a0 K cap0).cells.toList ++ [])).toArray 37 (0, 0)) := by rw [hw6]; exact heap_alloc_new _ _
  have hz5 : ws.heap.size + 1 + 1 + 1 + 1 + 1 = w5.heap.size := by rw [t1]
  rw [hz5]
  obtain ⟨r0, hr0⟩ : ∃ r, r = ws.heap.size := ⟨_, rfl⟩
  obtain ⟨r1, hr1⟩ : ∃ r, r = ws.heap.size + 1 := ⟨_, rfl⟩
  obtain ⟨r2, hr2⟩ : ∃ r, r = ws.heap.size + 1 + 1 := ⟨_, rfl⟩
  obtain ⟨r3, hr3⟩ : ∃ r, r = ws.heap.size + 1 + 1 + 1 := ⟨_, rfl⟩
  obtain ⟨r4, hr4⟩ : ∃ r, r = ws.heap.size + 1 + 1 + 1 + 1 := ⟨_, rfl⟩
  rw [← hr4, ← hr3] at t6
  rw [← hr3] at t5
  rw [← hr2, ← hr1] at t4
  rw [← hr1] at t3
  rw [← hr0] at t2
  rw [← hr1] at hp6
  rw [← hr4, ← hr3, ← hr2, ← hr1, ← hr0]
  have b05 : Below w.heap.size w w5 := HB0.out.trans (t0.mono HB0.out.size)
  have b06 : Below w.heap.size w w6 := b05.trans (hb6.mono b05.size)
  have hN2 : Ns w6 (some ⟨w5.heap.size, 0, none⟩) 2 [(v1, n1), (vf r1 2 a0 K cap0, fa 97 2 b)] := by
    refine ⟨rfl, fun p hp => ?_, .inr ⟨w5.heap.size, 0, rfl, heap_lt hp6, fun i hi => ?_⟩⟩
    · simp only [List.mem_cons, List.not_mem_nil, or_false] at hp
      rcases hp with rfl | rfl
      · exact n1_rep w6
      · exact vf_rep (by decide) ((hb6.block _ (heap_lt t3)).trans t3) (HBs.out.below b06) HKc.out.1 HKc.out.2 HNil.out
    · match i, hi with
      | 0, _ => exact nod_at (P := []) hp6 rfl
      | 1, _ => exact nod_at (P := v1.cells.toList) hp6 rfl
  have hbl : b.length = K := HBs.out.1
  have HBd1 := hide (Build_few (some ⟨w5.heap.size, 0, none⟩) 2 2 [(v1, n1), (vf r1 2 a0 K cap0, fa 97 2 b)] w6 hN2 (Nat.le_refl _) (by omega) (by omega) (HW.out.below b06 HW.out.pos))
  have HT2 := hide ((hb6.block _ (heap_lt t2)).trans t2)
  have HT3 := hide ((hb6.block _ (heap_lt t3)).trans t3)
  have HT4 := hide ((hb6.block _ (heap_lt t4)).trans t4)
  have HT5 := hide ((hb6.block _ (heap_lt t5)).trans t5)
  have HT6 := hide ((hb6.block _ (heap_lt t6)).trans t6)
  have HB06 := hide b06
  have HLen : Hid (b.length ≤ 4096) := by show _ ≤ _; omega
  clear hw5 hw6 e5 e6 hp6 hb6 hN2 t0 t1 t2 t3 t4 t5 t6 hz5 hr0 hr1 hr2 hr3 hr4 b05 b06 hbl
  refine HBd1.out.mono ?_
  rintro r w7 ⟨hb7, ⟨h, _⟩ | ⟨h0, l, o2, ib, hc, ho, ht, rfl, hib, hB⟩⟩
  · exact absurd (l2_check HLen.out) h
  have hl : l = l2 b := l2_canon HLen.out hc
  subst hl
  have HG2 := hide (ht.good ho)
  have hz2 := ht.size ho
  have HBx := hide hB
  have HB07 := hide (HB06.out.trans (hb7.mono HB06.out.size))
  have HT2 := hide ((hb7.block _ (heap_lt HT2.out)).trans HT2.out)
  have HT3 := hide ((hb7.block _ (heap_lt HT3.out)).trans HT3.out)
  have HT4 := hide ((hb7.block _ (heap_lt HT4.out)).trans HT4.out)
  have HT5 := hide ((hb7.block _ (heap_lt HT5.out)).trans HT5.out)
  have HT6 := hide ((hb7.block _ (heap_lt HT6.out)).trans HT6.out)
  obtain ⟨_, a0', a1, a2, a3, a4, a5, a6, a7, a8, a9⟩ := (show Bk w7 r0 v1 from HT2.out).box
  obtain ⟨_, b0, b1, b2, b3, b4, b5, b6, b7, b8, b9⟩ := (show Bk w7 r2 (vf r1 2 a0 K cap0) from HT4.out).box
  obtain ⟨_, c0, c1, c2, c3, c4, c5, c6, c7, c8, c9⟩ := (show Bk w7 r4 (vf r3 3 a0 K cap0) from HT6.out).box
  generalize hsz2 : isz (l2 b) o2 = sz2 at *
  generalize hI2 : im (l2 b) o2 = I2 at *
  obtain ⟨w8, hw8⟩ : ∃ w8, w8 = w7.alloc (.cells (v1.cells.toList ++ ((vf r1 2 a0 K cap0).cells.toList ++ ((vf r3 3 a0 K cap0).cells.toList ++ []))).toArray 37) := ⟨_, rfl⟩
  have hb8 : Below w7.heap.size w7 w8 := by rw [hw8]; exact (Below.refl _ w7).alloc (Nat.le_refl _) _
  have hp8 : w8.heap[w7.heap.size]? = some (.cells (v1.cells.toList ++ ((vf r1 2 a0 K cap0).cells.toList ++ ((vf r3 3 a0 K cap0).cells.toList ++ []))).toArray 37 (0, 0)) := by rw [hw8]; exact heap_alloc_new _ _
  have b08 : Below w.heap.size w w8 := HB07.out.trans (hb8.mono HB07.out.size)
  have hN3 : Ns w8 (some ⟨w7.heap.size, 0, none⟩) 3 [(v1, n1), (vf r1 2 a0 K cap0, fa 97 2 b), (vf r3 3 a0 K cap0, fa 98 3 b)] := by
    refine ⟨rfl, fun p hp => ?_, .inr ⟨w7.heap.size, 0, rfl, heap_lt hp8, fun i hi => ?_⟩⟩
    · simp only [List.mem_cons, List.not_mem_nil, or_false] at hp
      rcases hp with rfl | rfl | rfl
      · exact n1_rep w8
      · exact vf_rep (by decide) ((hb8.block _ (heap_lt HT3.out)).trans HT3.out) (HBs.out.below b08) HKc.out.1 HKc.out.2 HNil.out
      · exact vf_rep (by decide) ((hb8.block _ (heap_lt HT5.out)).trans HT5.out) (HBs.out.below b08) HKc.out.1 HKc.out.2 HNil.out
    · match i, hi with
      | 0, _ => exact nod_at (P := []) hp8 rfl
      | 1, _ => exact nod_at (P := v1.cells.toList) hp8 rfl
      | 2, _ => exact nod_at (P := v1.cells.toList ++ (vf r1 2 a0 K cap0).cells.toList) (by rw [List.append_assoc]; exact hp8) rfl
  have HBd2 := hide (Build_few (some ⟨w7.heap.size, 0, none⟩) 3 3 [(v1, n1), (vf r1 2 a0 K cap0, fa 97 2 b), (vf r3 3 a0 K cap0, fa 98 3 b)] w8 hN3 (Nat.le_refl _) (by omega) (by omega) (HW.out.below b08 HW.out.pos))
  have HB08 := hide b08
  have HBx8 := hide (HBx.out.below hb8)
  rw [hw8] at HBd2
  clear hB hb7 hc ho ht h0 hib HBd1 hN3 hp8 hb8 b08 HBx HT2 HT3 HT4 HT5 HT6
  go_wp2_with fail
  refine HBd2.out.mono ?_
  rw [← hw8]
  rintro r w9 ⟨hb9, ⟨h, _⟩ | ⟨h0, l, o3, ib3, hc, ho, ht, rfl, hib, hB⟩⟩
  · exact absurd (l3_check HLen.out) h
  have hl : l = l3 b := l3_canon HLen.out hc
  subst hl
  have HG3 := hide (ht.good ho)
  have hz3 := ht.size ho
  have HBy := hide hB
  have HBx9 := hide (HBx8.out.below hb9)
  have HB09 := hide (HB08.out.trans (hb9.mono HB08.out.size))
  obtain ⟨i1, i2, i3⟩ := two_isb (b := b) (o2 := o2) (o3 := o3) HMod.out
  generalize isz (l3 b) o3 = sz3 at *
  generalize im (l3 b) o3 = I3 at *
  generalize isb (l2 b) o2 = S2 at *
  generalize isb (l3 b) o3 = S3 at *
  clear hB hb9 hc ho ht h0 hib HBd2 hw8 HBx8 a0' a1 a2 a3 a4 a5 a6 a7 a8 a9 b0 b1 b2 b3 b4 b5 b6 b7 b8 b9 c0 c1 c2 c3 c4 c5 c6 c7 c8 c9 hsz2 hI2
  go_wp2_with fail
  refine (New_any w9).mono ?_
  rintro r w10 ⟨rfl, hb10⟩
  obtain ⟨C, hC⟩ : ∃ C, C = tab ent := ⟨_, rfl⟩
  rw [← hC]
  have HCt := hide hC
  have HB10 := hide hb10
  clear hC hb10
  go_wp2_with (refine wpList_store_table rfl _ _ rfl ent C HCt.out rfl rfl _ (by simp) ?_; intro w11 ht11 hT11 hlt11 hb11)
  have b911 : Below w9.heap.size w9 w11 := HB10.out.trans (hb11.mono HB10.out.size)
  have b011 : Below w.heap.size w w11 := HB09.out.trans (b911.mono HB09.out.size)
  have HTk := hide (sTake_any w10.heap.size sz2 sz2 ent (some ⟨ib, 0, none⟩) I2 w11 small_ent hT11 hlt11 (HW.out.below b011 HW.out.pos) (HBx9.out.below b911) (by omega))
  have HT11 := hide hT11
  have HB011 := hide b011
  have HBy11 := hide (HBy.out.below b911)
  obtain ⟨tb, htb⟩ : ∃ tb, tb = w10.heap.size := ⟨_, rfl⟩
  rw [← htb] at HTk HT11 hlt11 ⊢
  clear ht11 hT11 hb11 b911 b011 HCt HB10 htb HBx9 HBy
  refine HTk.out.mono ?_
  rintro r w12 ⟨⟨_, rfl⟩ | ⟨hng, _⟩, hb12⟩
  · rw [HG2.out.2]
    have b012 : Below w.heap.size w w12 := HB011.out.trans (hb12.mono HB011.out.size)
    have HB012 := hide b012
    have HTa := hide (HT11.out.below hb12 hlt11)
    have hlt12 : tb < w12.heap.size := Nat.lt_of_lt_of_le hlt11 hb12.size
    have HBy12 := hide (HBy11.out.below hb12)
    unfold sbv
    have hb13 : ∀ o, Below w12.heap.size w12 (w12.alloc o) := fun o => (Below.refl _ w12).alloc (Nat.le_refl _) o
    have HTk2 := hide (fun o => sTake_any tb sz3 sz3 ent (some ⟨ib3, 0, none⟩) I3 (w12.alloc o) small_ent (HTa.out.below (hb13 o) hlt12) (Nat.lt_of_lt_of_le hlt12 (hb13 o).size) (HW.out.below (HB012.out.trans ((hb13 o).mono HB012.out.size)) HW.out.pos) (HBy12.out.below (hb13 o)) (by omega))
    clear hb12 b012 HTk HT11
    rw [i1, i3]
    clear i1 i3
    obtain ⟨xa, hxa⟩ : ∃ xa, xa = S3.inodeAt := ⟨_, rfl⟩
    rw [← hxa]
    have HXa := hide hxa
    clear hxa
    go_wp2_with fail
    refine (HTk2.out _).mono ?_
    rintro r w14 ⟨⟨_, rfl⟩ | ⟨hng, _⟩, hb14⟩
    · rw [HG3.out.2]
      have HBf : Hid (Below w.heap.size w w14) := (HB012.out.trans ((hb13 _).mono HB012.out.size)).trans (hb14.mono (Nat.le_trans HB012.out.size (hb13 _).size))
      have hcp : w14.cell? ⟨w12.heap.size, 2, none⟩ = some (.int .i64 xa) := by
        rw [hb14.cell (by show w12.heap.size < (World.alloc _ _).heap.size; rw [World.size_alloc]; omega), World.cell?_alloc_at _ _ _ _ (by simp)]
        rfl
      have hcp2 : ∀ o, (w14.alloc o).cell? ⟨w12.heap.size, 2, none⟩ = some (.int .i64 xa) := fun o => by
        rw [World.cell?_alloc_lt _ _ _ (Nat.lt_of_lt_of_le (by show w12.heap.size < (World.alloc _ _).heap.size; rw [World.size_alloc]; omega) hb14.size)]
        exact hcp
      have hdp : w14.cell? ⟨w12.heap.size, 1, none⟩ = some (.int .i64 2) := by
        rw [hb14.cell (by show w12.heap.size < (World.alloc _ _).heap.size; rw [World.size_alloc]; omega), World.cell?_alloc_at _ _ _ _ (by simp)]
        rfl
      have hdp2 : ∀ o, (w14.alloc o).cell? ⟨w12.heap.size, 1, none⟩ = some (.int .i64 2) := fun o => by
        rw [World.cell?_alloc_lt _ _ _ (Nat.lt_of_lt_of_le (by show w12.heap.size < (World.alloc _ _).heap.size; rw [World.size_alloc]; omega) hb14.size)]
        exact hdp
      unfold sbv
      rw [i2, ← HXa.out]
      have hxx : (xa == xa) = true := by simp
      clear i2 hb14 HTk2 hb13 HXa HG2 HG3 HTa HBy12 HBy11
      go_wp2
      go_ret
      exact ⟨rfl, HBf.out.alloc HBf.out.size _⟩
    · exact absurd HG3.out.1 hng
  · exact absurd HG2.out.1 hng
end Go.Proofs.YtchcejjoncihkaaGreatDoor

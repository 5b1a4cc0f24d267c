/- Layer 11: TableTakes: of any row numbers, and attributes at any ref, are taken, or refused, as the document says. -/
import Derived.Test.YtgkclldiphcogaaTabRefTakeN
import Derived.Test.YtgkclldiphcogaaTabNumsSame
import Derived.Test.YtgkclldiphcogaaTabShown
import Derived.Test.YtgkclldiphcogaaTabAsk
import Derived.ProofKit
import Derived.Deep.CutBlock
import Derived.Deep.CutRange
import Derived.Stop.BytesEq
namespace Go.Proofs.Ytgkclldiphcogaa
set_option linter.unusedVariables false
set_option maxRecDepth 100000
open Go.RowKit Go.Maps Go.ChangeShapes Go.WideShapes Go.ChangeAt
open Lz (g)
open Crc (ent)
open Cur
open Frm Mtr Tre Tab

theorem Zs.fr {S : Nat → Prop} {w w' : World} {ao : Option Addr} {n : Nat} {l : List Int} (h : Zs w ao n l) (hf : Fr S w w') (hn : ∀ a, ao = some a → ¬ S a.block) : Zs w' ao n l := by
  refine ⟨h.1, ?_⟩
  rcases h.2 with h0 | ⟨b, off, h1, h2, h3⟩
  · exact .inl h0
  · exact .inr ⟨b, off, h1, Nat.lt_of_lt_of_le h2 hf.size, fun i hi => (hf.cell (q := ⟨b, off + i, none⟩) h2 (hn ⟨b, off, none⟩ h1)).trans (h3 i hi)⟩
theorem takN_len {X : List Int} (hX : Bytes X) (hl : X.length ≤ 5000) (many wide : Int) : (takN X many wide).1.length ≤ 1000000 := by
  unfold takN
  split
  · simp
  · rename_i hok
    rw [not_or, Decidable.not_not] at hok
    cases hs : sq X wide.toNat many.toNat 0 with
    | none => simp
    | some q =>
      obtain ⟨l, nx⟩ := q
      rw [sq_rdO hX _ _ 0 (Int.le_refl _)] at hs
      cases hr : rdO X 0 (many.toNat * wide.toNat) with
      | none => rw [hr] at hs; cases hs
      | some q =>
        rw [hr] at hs
        simp only [Option.map_some, Option.some.injEq, Prod.mk.injEq] at hs
        have hn : ¬ 700000 < many.toNat * wide.toNat := fun h => by rw [rdO_short hX hl h 0] at hr; cases hr
        have hll : l.length = many.toNat := by rw [← hs.1, nums_length]
        have hb : many.toNat ≤ 700000 := by
          rcases hok.2 with h | h
          · rw [h] at hn; simp at hn; omega
          · rw [h] at hn; simp at hn; omega
        simp only []
        split
        · simp
        · simp only []; omega
theorem txA_len {X : List Int} {ref : Int} {xs : List (ByteArray × List Int)} (h : txA X ref = some xs) : xs.length ≤ 8 := by
  unfold txA at h
  cases hr : rdO X ref 1 with
  | none => rw [hr] at h; cases h
  | some q =>
    rw [hr] at h
    simp only [] at h
    split at h
    · rename_i hc
      cases h
      exact (xsOk_mem hc.2.2).1
    · cases h
/-- Where many orders come to one place: what follows is shown once. -/
theorem joinW {F G : World → Option Addr → Nat → Nat → Prop} {T : Prop} (h : (∀ w a m c, F w a m c → G w a m c) → T) (h2 : ∀ w a m c, F w a m c → G w a m c) : T := h h2
set_option maxRecDepth 100000 in
set_option maxHeartbeats 4000000 in
theorem takes_walk (a0 : Option Addr) (len0 cap0 : Nat) (z0 : List Int) (a1 : Option Addr) (len1 cap1 : Nat) (K : Nat → Int × Int × Int) (w : World) (f0 : RowB w a0 len0 cap0 z0) (f1 : AsksC w a1 len1 cap1 K) :
    Calls Try.prog 5 #[.slice a0 len0 cap0, .slice a1 len1 cap1] w fun e w' => e = .returned (.bool true) ∧ Below w.heap.size w w' := by
  obtain ⟨hz, hi'⟩ := zero_of_info infoTable
  obtain ⟨hbs, hlc, hcm, hby, hnil⟩ := f0.bs (min len0 3000) (by omega)
  have HBS := hide hbs
  have HN := hide hnil
  have HAs := hide f1
  clear f0 hbs hby hnil f1
  generalize z0.take (min len0 3000) = Im at HBS
  go_enter Try.func5, Try.ntmps5
  go_wp2_with fail
  refine (shown_any w).mono ?_
  rintro r ws ⟨rfl, bs0⟩
  have HB0 := hide bs0
  clear bs0
  go_upto_if 23 with fail
  go_cut [0] from 24 to 25 (fun s0 wx => s0 = .slice a0 (min len0 3000) cap0 ∧ wx = ws)
  case first =>
    by_cases h3 : 3000 < len0
    · have e3 : min len0 3000 = 3000 := by omega
      go_wp2_with fail
      go_meet
      case rel => exact ⟨by rw [e3], rfl⟩
    · have e3 : min len0 3000 = len0 := by omega
      go_wp2_with fail
      go_meet
      case rel => exact ⟨by rw [e3], rfl⟩
  case rest =>
  obtain ⟨rfl, hwc⟩ := hcut
  obtain rfl := hwc.symm
  have hm2 : min len0 3000 ≤ cap0 := by omega
  have hm1 : min len0 3000 ≤ 3000 := by omega
  generalize min len0 3000 = m at *
  have hk8 : 0 + m ≤ 100000000 := by omega
  go_wp2_with fail
  refine (New_any ws).mono ?_
  rintro r w2 ⟨rfl, b2⟩
  obtain ⟨C, hC⟩ : ∃ C, C = Go.Proofs.Ytgkclldiphcogaa.tab ent := ⟨_, rfl⟩
  rw [← hC]
  have HC := hide hC
  clear hC
  go_wp2_with (first
    | (refine wpList_store_table rfl _ _ rfl ent C HC.out rfl rfl _ (by simp) ?_; intro w3 ht3 hT3 hlt3 hb3; have b3 : Below w.heap.size w w3 := (HB0.out.trans (b2.mono HB0.out.size)).trans (hb3.mono (Nat.le_trans HB0.out.size b2.size)); have HB3 := hide b3; have HT3 := hide hT3; have HS3 := hide (HBS.out.below b3); have ho := emptyB (w := w3) (Nat.le_refl _); have hsrc : Bs (w3.alloc (.cells #[] 5)) a0 m Im := HS3.out.alloc _; clear ht3 hT3 hb3 b2 HB0 b3)
    | (at_builtin
       refine wpList_append_bs _ (by rfl) (.tmp 27) (.tmp 28) (by rfl) w3.heap.size _ 0 0 [] (by rfl) ho a0 m cap0 Im (by rfl) hsrc HN.out hk8 (by simp) ?_
       intro ao c w4 ho1 hg1
       have HB34 : Hid (Below w3.heap.size w3 w4) := ((Below.refl _ w3).alloc (Nat.le_refl _) _).grown hg1 (by simp) (fun kk e => (ho.lt kk e).1)
       have HO1 : Hid (w4.ownsRow w3.heap.size 5 1 (.slice ao m c) m (bv Im)) := by rw [Nat.zero_add, List.nil_append] at ho1; exact ho1
       clear ho1 hg1))
  have HS4 := hide (bs_of_owns HO1.out HS3.out.bytes)
  have hoc := cap_of_owns HO1.out
  have hom := max_of_owns HO1.out
  have HOn := hide (nil_cap HO1.out)
  clear ho hsrc HO1
  refine (Open_any w2.heap.size m c ao Im ent w4 0 m HS4.out hoc hom HOn.out (by omega) (by omega) (by omega) (by omega)).mono ?_
  rintro r wO ⟨p, rfl, hRd, bO⟩
  have eIm : (Im.take ((m : Int)).toNat).drop ((0 : Int)).toNat = Im := by
    rw [Int.toNat_natCast, show ((0 : Int)).toNat = 0 from rfl, List.drop_zero, List.take_of_length_le (by rw [HBS.out.1]; omega)]
  rw [eIm] at hRd
  have HRd := hide hRd
  have hbO : Below w3.heap.size w3 wO := HB34.out.trans (bO.mono HB34.out.size)
  have HBO := hide hbO
  have hsO := hbO.size
  have hs34 := HB34.out.size
  have hs4O := bO.size
  clear hRd bO hbO eIm HS4 HB34
  obtain ⟨wY, hwY⟩ : ∃ wY, wY = wO.alloc (.cells #[.slice a0 m cap0, .int .i64 0, .int .i64 m] 46) := ⟨_, rfl⟩
  have hbY : Below wO.heap.size wO wY := by rw [hwY]; exact below_one _ _
  have hsY : wY.heap.size = wO.heap.size + 1 := by rw [hwY]; simp
  have hpY : wY.heap[wO.heap.size]? = some (.cells #[.slice a0 m cap0, .int .i64 0, .int .i64 m] 46 (0, 0)) := by rw [hwY]; exact heap_new rfl
  have HwY := hide hwY
  have hb3Y : Below w3.heap.size w3 wY := HBO.out.trans (hbY.mono HBO.out.size)
  have hbwY : Below w.heap.size w wY := HB3.out.trans (hb3Y.mono HB3.out.size)
  have hw3 := HB3.out.size
  have HW : Hid (∀ wq, Fr (fun k => w3.heap.size ≤ k ∧ k ≠ wO.heap.size) wY wq → Below w.heap.size w wq) := fun wq hf => hbwY.trans (hf.below w.heap.size hbwY.size (fun t ht => Nat.le_trans hw3 ht.1))
  have HRY : Hid (∀ wq, Fr (fun k => w3.heap.size ≤ k ∧ k ≠ wO.heap.size) wY wq → RdY wq wO.heap.size Im 0 m a0 m cap0) := fun wq hf =>
    ⟨(hf.block _ (by omega) (fun h => h.2 rfl)).trans hpY, HBS.out.below (HW.out wq hf), hm2, hcm, HN.out, by omega⟩
  have HTY : Hid (∀ wq, Fr (fun k => w3.heap.size ≤ k ∧ k ≠ wO.heap.size) wY wq → Tb wq w2.heap.size ent) := fun wq hf => (HT3.out.below hb3Y hlt3).fr hf (by omega) (fun h => by omega)
  have HRdY := hide (HRd.out.below hbY)
  clear hbY hpY hb3Y hbwY HRd HBO HT3 HB3 hwY HS3
  go_wp2_with fail
  rw [← HwY.out]
  clear hz hi' hwc HC hoc hom HOn HwY
  go_loopw [9] (fun s9 wr => ∃ (i : Nat) (O : Nat → Prop), s9 = .int .i64 i ∧ i ≤ 12 ∧ RdM wr p O w2.heap.size ent Im (2000000 * i) ∧ Fr (fun k => w3.heap.size ≤ k ∧ k ≠ wO.heap.size) wY wr ∧ (∀ t, O t → w3.heap.size ≤ t ∧ t ≠ wO.heap.size)) (fun s9 _ => 12 - (intOf s9).toNat)
  case atStart => exact ⟨0, _, rfl, by omega, HRdY.out, Fr.refl _ _, fun t ht => ⟨by omega, by omega⟩⟩
  case round =>
    clear HRdY
    obtain ⟨i, O, rfl, hi12, hS, hF, hO⟩ := hrel
    have hsr := hF.size
    by_cases hgo : i < len1 ∧ i < 12
    · obtain ⟨b, off, rfl, hbw, hcell, hr1, hr2, hr3⟩ : ∃ b off, a1 = some ⟨b, off, none⟩ ∧ b < w.heap.size ∧ (∀ wq, Fr (fun k => w3.heap.size ≤ k ∧ k ≠ wO.heap.size) wY wq → wq.cell? ⟨b, off + i * 3, none⟩ = some (.int .i64 (K i).1) ∧ wq.cell? ⟨b, off + i * 3 + 1, none⟩ = some (.int .i64 (K i).2.1) ∧ wq.cell? ⟨b, off + i * 3 + 2, none⟩ = some (.int .i64 (K i).2.2)) ∧ In64 (K i).1 ∧ In64 (K i).2.1 ∧ In64 (K i).2.2 := by
        rcases HAs.out.2 with h | ⟨b, off, h1, h2, h3⟩
        · omega
        · obtain ⟨q1, q2, q3, q4⟩ := h3 i hgo.1
          exact ⟨b, off, h1, h2, fun wq hf => ⟨((HW.out wq hf).cell (p := ⟨b, off + i * 3, none⟩) h2).trans q1, ((HW.out wq hf).cell (p := ⟨b, off + i * 3 + 1, none⟩) h2).trans q2, ((HW.out wq hf).cell (p := ⟨b, off + i * 3 + 2, none⟩) h2).trans q3⟩, q4⟩
      obtain ⟨e1, e2, e3⟩ := hcell wr hF
      have HCe := hide hcell
      generalize (K i).1 = mn at *
      generalize (K i).2.1 = wd at *
      generalize (K i).2.2 = rf at *
      have hOt : ¬ O w2.heap.size := fun hx => by have := (hO _ hx).1; omega
      have hIl : Im.length ≤ 3000 := by rw [HBS.out.1]; omega
      have HIb := hide HBS.out.bytes
      have bd : Below wr.heap.size wr wr.drew := (Below.refl _ _).drew
      have HC1 := hide (TakeNums_any p w2.heap.size (2000000 * i) O Im mn wd wr.drew (hS.below bd) ((HTY.out wr hF).below bd (by omega)) (Nat.lt_of_lt_of_le (by omega) bd.size) hOt HIb.out (by omega) (by omega) hr1 hr2)
      have HF := hide hF
      have HO := hide hO
      have i1 : (i : Int) < (len1 : Int) := by omega
      have i2 : (i : Int) < 12 := by omega
      have i3 : (0 : Int) ≤ (i : Int) := by omega
      clear hS hF hO hOt hcell
      go_wp2_with fail
      apply joinW (F := fun w5 ao m c => ∃ O5, RdM w5 p O5 w2.heap.size ent Im (2000000 * i + 1000255) ∧ Fr O wr w5 ∧ Gr O O5 wr ∧ Zs w5 ao m (takN Im mn wd).1 ∧ ∀ x, ao = some x → ¬ O5 x.block)
      · intro hall
        have HAll := hide hall
        clear hall
        go_region_with (go_at_call 19; refine HC1.out.mono ?_; rintro r w5 ⟨O5, hM5, ao5, m5, c5, rfl, hZ5, hx5⟩; have HM5 := hide hM5; have HZ5 := hide hZ5; have HX5 := hide hx5; clear hM5 hZ5 hx5)
        all_goals exact HAll.out w5 ao5 m5 c5 ⟨O5, HM5.out.rdm, HM5.out.fr.undrew, HM5.out.gr, HZ5.out, HX5.out⟩
      · rintro w5 ao5 m5 c5 ⟨O5, hR5, hF5, hG5, hZ5, hx5⟩
        have f5 := HF.out.trans hF5 (fun t _ ht => HO.out t ht)
        have o5 : ∀ t, O5 t → w3.heap.size ≤ t ∧ t ≠ wO.heap.size := fun t ht => by
          rcases hG5 t ht with h | h
          · exact HO.out t h
          · omega
        obtain ⟨e15, e25, e35⟩ := HCe.out w5 f5
        have bd5 : Below w5.heap.size w5 w5.drew := (Below.refl _ _).drew
        have HC2 := hide (refTakeNums_any wO.heap.size m cap0 Im a0 mn wd w5.drew ((HRY.out w5 f5).below bd5) HIb.out (by omega) hr1 hr2)
        have HF5 := hide f5
        have HO5 := hide o5
        have HZ5 := hide hZ5
        have HR5 := hide hR5
        have HX5 := hide hx5
        have hs5 := f5.size
        clear f5 o5 hZ5 hR5 hF5 hG5 hx5 HC1 HF HO e1 e2 e3 bd bd5
        go_wp2_with fail
        apply joinW (F := fun w6 ao m c => Below w5.heap.size w5 w6 ∧ Zs w6 ao m (takN Im mn wd).1 ∧ ∀ x, ao = some x → w5.heap.size ≤ x.block)
        · intro hall
          have HAll := hide hall
          clear hall
          go_region_with (go_at_call 20; refine HC2.out.mono ?_; rintro r w6 ⟨hb6, ao6, m6, c6, rfl, hZ6, hx6⟩; have HB6 := hide hb6; have HZ6 := hide hZ6; have HX6 := hide hx6; clear hb6 hZ6 hx6)
          all_goals exact HAll.out w6 ao6 m6 c6 ⟨⟨HB6.out.os, HB6.out.tape, HB6.out.output, HB6.out.size, HB6.out.block⟩, HZ6.out, HX6.out⟩
        · rintro w6 ao6 m6 c6 ⟨hb6, hZ6, hx6⟩
          have f6 := HF5.out.then (Fr.of_below hb6)
          obtain ⟨e16, e26, e36⟩ := HCe.out w6 f6
          have hs6 := f6.size
          have HC3 := hide (TakeXattrs_any p w2.heap.size (2000000 * i + 1000255) O5 Im rf w6 (HR5.out.below hb6) (HTY.out w6 f6) (by omega) (fun hx => by have := (HO5.out _ hx).1; omega) HIb.out hr3 (by omega) (by omega))
          have HZZ : Hid (∀ w7, Fr O5 w6 w7 → Zs w7 ao5 m5 (takN Im mn wd).1 ∧ Zs w7 ao6 m6 (takN Im mn wd).1) := fun w7 hF7 =>
            ⟨(HZ5.out.below hb6).fr hF7 (fun x hx => HX5.out x hx), hZ6.fr hF7 (fun x hx ho => by have h1 := hx6 x hx; have h2 := HR5.out.olt _ ho; omega)⟩
          have HF6 := hide f6
          have hl5 : m5 ≤ 1000000 ∧ m6 ≤ 1000000 := by
            have h1 := takN_len HIb.out (by omega : Im.length ≤ 5000) mn wd
            have h2 := HZ5.out.1
            have h3 := hZ6.1
            omega
          clear f6 hb6 hZ6 hx6 HC2 HF5 HZ5 HR5 HX5 e15 e25 e35
          go_wp2_with fail
          refine HC3.out.mono ?_
          rintro r w7 ⟨⟨O7, hM7⟩, hT7⟩
          have f7 := HF6.out.trans hM7.fr (fun t _ ht => HO5.out t ht)
          have o7 : ∀ t, O7 t → w3.heap.size ≤ t ∧ t ≠ wO.heap.size := fun t ht => by
            rcases hM7.gr t ht with h | h
            · exact HO5.out t h
            · omega
          obtain ⟨e17, e27, e37⟩ := HCe.out w7 f7
          have hs7 := f7.size
          obtain ⟨z5, z6⟩ := HZZ.out w7 hM7.fr
          have HC4 := hide (refTakeXattrs_any wO.heap.size m cap0 Im a0 rf w7 (HRY.out w7 f7) HIb.out hr3)
          obtain ⟨xsv, hxsv⟩ : ∃ A : List (ByteArray × List Int) × Int, A = (match txA Im rf with | none => ([], 2) | some xs => (xs, 0)) := ⟨_, rfl⟩
          have hT7' : ∃ ao c, r = .returned (.tuple #[.slice ao xsv.1.length c, .int .i64 xsv.2]) ∧ XsR w7 ao xsv.1.length xsv.1 := by
            rcases hT7 with ⟨hn, rfl⟩ | ⟨xs, ao, c, hs, rfl, hx⟩
            · rw [hn] at hxsv; subst hxsv; exact ⟨none, 0, rfl, XsR.nil _ _⟩
            · rw [hs] at hxsv; subst hxsv; exact ⟨ao, c, rfl, hx⟩
          obtain ⟨ao7, c7, rfl, hx7⟩ := hT7'
          have hxl : xsv.1.length ≤ 255 := by
            rw [hxsv]
            split
            · simp
            · rename_i xs hs
              have := txA_len hs
              simp only []
              omega
          have HF7 := hide f7
          have HO7 := hide o7
          have HM7 := hide hM7.rdm
          have HZ57 := hide z5
          have HZ67 := hide z6
          have HX7 := hide hx7
          have HXV := hide hxsv
          clear f7 o7 hM7 z5 z6 hx7 hT7 hxsv HC3 HZZ HF6 HO5 e16 e26 e36
          go_wp2_with fail
          refine HC4.out.mono ?_
          rintro r w8 ⟨hb8, hT8⟩
          have hT8' : ∃ ao c, r = .returned (.tuple #[.slice ao xsv.1.length c, .int .i64 xsv.2]) ∧ XsR w8 ao xsv.1.length xsv.1 := by
            have hxsv := HXV.out
            rcases hT8 with ⟨hn, rfl⟩ | ⟨xs, ao, c, hs, rfl, hx⟩
            · rw [hn] at hxsv; subst hxsv; exact ⟨none, 0, rfl, XsR.nil _ _⟩
            · rw [hs] at hxsv; subst hxsv; exact ⟨ao, c, rfl, hx⟩
          obtain ⟨ao8, c8, rfl, hx8⟩ := hT8'
          have HF8 := hide (HF7.out.then (Fr.of_below hb8))
          have HS8 := hide (HM7.out.below hb8)
          have HX78 := hide (HX7.out.below hb8)
          have HX8 := hide hx8
          have HZ58 := hide (HZ57.out.below hb8)
          have HZ68 := hide (HZ67.out.below hb8)
          clear hb8 hx8 hT8 HF7 HM7 HX7 HZ57 HZ67 HC4 e17 e27 e37 HXV HCe
          go_wp2_with fail
          refine (numsSame_any ao5 ao6 m5 m6 c5 c6 _ _ w8 HZ58.out HZ68.out hl5.1 hl5.2 true (by simp)).mono ?_
          rintro r w9 ⟨rfl, j9, hw9⟩
          have b9 : Below w8.heap.size w8 w9 := by rw [hw9]; exact below_drewN (Below.refl _ _) j9
          have HF9 := hide (HF8.out.then (Fr.of_below b9))
          have HS9 := hide (HS8.out.below b9)
          have HX79 := hide (HX78.out.below b9)
          have HX89 := hide (HX8.out.below b9)
          clear b9 hw9 HF8 HS8 HX78 HX8 HZ58 HZ68
          go_wp2_with fail
          refine (xsSame_any ao7 ao8 xsv.1.length xsv.1.length c7 c8 _ _ w9 HX79.out HX89.out (by omega) (by omega) true (by simp)).mono ?_
          rintro r w10 ⟨rfl, j10, hw10⟩
          have b10 : Below w9.heap.size w9 w10 := by rw [hw10]; exact below_drewN (Below.refl _ _) j10
          have HF10 := hide (HF9.out.then (Fr.of_below b10))
          have HS10 := hide (HS9.out.below b10)
          clear b10 hw10 HF9 HS9 HX79 HX89
          generalize (takN Im mn wd).2 = e5 at *
          have q1 : (e5 != e5) = false := by simp
          have q2 : (xsv.2 != xsv.2) = false := by simp
          go_wp2_with fail
          exact ⟨⟨i + 1, O7, by go_num, by omega, HS10.out.mono (by omega), HF10.out, HO7.out⟩, by simp [intOf]; omega⟩
    · have HBf := hide (HW.out wr hF)
      by_cases h1 : i < len1
      · obtain rfl : i = 12 := by omega
        have i1 : ((12 : Nat) : Int) < (len1 : Int) := by omega
        clear hS hF hO
        go_wp2_with fail
        go_ret
        exact ⟨rfl, HBf.out⟩
      · have i1 : ¬ (i : Int) < (len1 : Int) := by omega
        clear hS hF hO
        go_wp2_with fail
        go_ret
        exact ⟨rfl, HBf.out⟩
end Go.Proofs.Ytgkclldiphcogaa

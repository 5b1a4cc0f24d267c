/- The walk of MetaReads: of any image, between any two places, any bytes are read, and any frame is passed, or refused, as the reference does. -/
import Derived.Test.YtahbgebnmgnmoaaMetEach
import Derived.Test.YtahbgebnmgnmoaaMetShown
import Derived.Test.YtahbgebnmgnmoaaMetAsk
namespace Go.Proofs.Ytahbgebnmgnmoaa
set_option linter.unusedVariables false
open Go.RowKit Go.Maps
open Lz (g)
open Crc (ent)
open Frm Mtr

/-- Where many orders come to one place: what follows is shown once. -/
theorem join4 {F G : Option Addr → Nat → World → Nat → Prop} {T : Prop} (h : (∀ a k w p, F a k w p → G a k w p) → T) (h2 : ∀ a k w p, F a k w p → G a k w p) : T := h h2

set_option maxRecDepth 100000 in
set_option maxHeartbeats 4000000 in
theorem reads_walk (a0 : Option Addr) (len0 cap0 : Nat) (z0 : List Int) (x y : Int) (a2 : Option Addr) (len2 cap2 : Nat) (K : Nat → Int × Int) (w : World) (w0 : RowB w a0 len0 cap0 z0) (hx : In64 x) (hy : In64 y) (w2 : AsksB w a2 len2 cap2 K) :
    Calls Try.prog 4 #[.slice a0 len0 cap0, .agg #[.int .i64 x, .int .i64 y], .slice a2 len2 cap2] w fun e w' => e = .returned (.bool true) ∧ Below w.heap.size w w' := by
  obtain ⟨hz, hi'⟩ := zero_of_info infoTable
  obtain ⟨hbs1, hlc1, hcm1, hby1, hnil1⟩ := w0.bs (min len0 3000) (by omega)
  obtain ⟨la, hla⟩ : ∃ la, min len0 3000 = la := ⟨_, rfl⟩
  rw [hla] at hbs1
  have HAh := hide hbs1
  have HAn := hide hnil1
  generalize z0.take la = Im at *
  have hcaseA : (len0 ≤ 3000 ∧ (len0 : Int) ≤ 3000 ∧ decide ((3000 : Int) < (len0 : Int)) = false ∧ la = len0) ∨ ((3000 : Int) < (len0 : Int) ∧ (3000 : Int) ≤ (cap0 : Int) ∧ la = 3000) := by
    by_cases h : len0 ≤ 3000
    · exact .inl ⟨h, by omega, by simp; omega, by omega⟩
    · exact .inr ⟨by omega, by omega, by omega⟩
  have hla2 : la ≤ 3000 := by omega
  have HCA := hide hcaseA
  have HAsk := hide w2
  clear w0 w2 hbs1 hnil1 hcaseA hla hby1
  unfold In64 at hx hy
  go_enter Try.func4, Try.ntmps4
  go_wp2_with fail
  obtain ⟨wA, hwA⟩ : ∃ wA, wA = w.alloc (.cells #[.int .i64 x, .int .i64 y] 39) := ⟨_, rfl⟩
  rw [← hwA]
  have hbA : Below w.heap.size w wA := by rw [hwA]; exact (Below.refl _ _).alloc (Nat.le_refl _) _
  have hsA : wA.heap.size = w.heap.size + 1 := by rw [hwA]; simp
  have hhA : wA.heap[w.heap.size]? = some (.cells #[.int .i64 x, .int .i64 y] 39 (0, 0)) := by rw [hwA]; exact heap_alloc_new w _
  have HhA := hide hhA
  clear hhA hwA
  refine (mShown_any wA).mono ?_
  rintro r wl ⟨rfl, hbl⟩
  have HBl := hide (hbA.trans (hbl.mono hbA.size))
  have HPl : Hid (∀ wq, Below wl.heap.size wl wq → wq.heap[w.heap.size]? = some (.cells #[.int .i64 x, .int .i64 y] 39 (0, 0))) := fun wq hq => by
    rw [hq.block _ (show w.heap.size < wl.heap.size by have := hbl.size; omega), hbl.block _ (by omega)]; exact HhA.out
  have hsl := hbl.size
  clear hbl hbA HhA
  rcases HCA.out with ⟨q1, q2, q3, q4⟩ | ⟨q1, q2, q4⟩
  all_goals (
    subst q4
    clear HCA
    go_wp2_with fail
    refine (New_any wl).mono ?_
    rintro r w2 ⟨rfl, hbn⟩
    obtain ⟨C, hC⟩ : ∃ C, C = tab ent := ⟨_, rfl⟩
    rw [← hC]
    have HC : Hid (C = tab ent) := hC
    clear hC
    go_wp2_with (refine wpList_store_table rfl _ _ rfl ent C HC.out rfl rfl _ (by simp) ?_; intro w3 ht3 hT3 hlt3 hb3)
    have hb23 : Below wl.heap.size wl w3 := hbn.trans (hb3.mono hbn.size)
    have hbw3 : Below w.heap.size w w3 := HBl.out.trans (hb23.mono HBl.out.size)
    have HBw3 := hide hbw3
    have hP3 := HPl.out w3 hb23
    have c0 : w3.cell? ⟨w.heap.size, 0, none⟩ = some (.int .i64 x) := by rw [cell_of_row _ _ 0 _ _ _ hP3]; rfl
    have c1 : w3.cell? ⟨w.heap.size, 1, none⟩ = some (.int .i64 y) := by rw [cell_of_row _ _ 1 _ _ _ hP3]; rfl
    have HT3 := hide hT3
    have HB23 := hide hb23
    clear hbn hb3 hT3 ht3 hb23 HC hz hi' hP3
    have HRe := hide (Rw.of_owns (zs := []) (emptyB (w := w3) (B := w3.heap.size) (Nat.le_refl _)).drew Bytes.nil)
    have HSe := hide (((HAh.out.below hbw3).alloc (.cells #[] 5)).below (below_drewN (Below.refl _ _) 1))
    have hw3 := hbw3.size
    have HCs : Hid (∀ wq, Below w3.heap.size w3 wq → wq.cell? ⟨w.heap.size, 0, none⟩ = some (.int .i64 x) ∧ wq.cell? ⟨w.heap.size, 1, none⟩ = some (.int .i64 y)) := fun wq hq =>
      ⟨(hq.cell (p := ⟨w.heap.size, 0, none⟩) (show w.heap.size < w3.heap.size by have := HB23.out.size; omega)).trans c0, (hq.cell (p := ⟨w.heap.size, 1, none⟩) (show w.heap.size < w3.heap.size by have := HB23.out.size; omega)).trans c1⟩
    clear hbw3
    have cA0 : (w3.alloc (.cells #[] 5)).drew.cell? ⟨w.heap.size, 0, none⟩ = some (.int .i64 x) := (HCs.out _ (((Below.refl _ w3).alloc (Nat.le_refl _) _).drew)).1
    have cA1 : (w3.alloc (.cells #[] 5)).drew.cell? ⟨w.heap.size, 1, none⟩ = some (.int .i64 y) := (HCs.out _ (((Below.refl _ w3).alloc (Nat.le_refl _) _).drew)).2
    apply join4 (F := fun _ _ wO p => ∃ O : Nat → Prop, RdS wO p O w2.heap.size Im x y 0 ∧ (∀ t, O t → w3.heap.size ≤ t ∧ t < wO.heap.size) ∧ Below w3.heap.size w3 wO)
    · intro hall
      have HAll := hide hall
      clear hall
      go_region_law ((first
        | (refine step_append_rw (w3.alloc (.cells #[] 5)).drew (by rfl) (.tmp 30) (.tmp 31) (by rfl) w3.heap.size _ _ _ [] (by rfl) HRe.out _ _ _ Im (by rfl) HSe.out HAn.out (by omega) (by simp) ?_; intro ao4 k4 w4 hA hg hl; rw [Nat.zero_add] at hA ⊢; rw [List.nil_append] at hA; have b4 : Below w3.heap.size w3 w4 := ((((Below.refl _ w3).alloc (Nat.le_refl _) _).drew).grown hg (by simp) (fun k e => (HRe.out.own e).1)); have c04 := (HCs.out w4 b4).1; have c14 := (HCs.out w4 b4).2; have HRw := hide hA; have HB4 := hide b4; clear hA hg hl b4)
        | (go_simp; go_at_call 16; refine (Open_each w2.heap.size _ k4 ao4 Im x y w4 HRw.out.bs HRw.out.2.2.1 HRw.out.2.2.2.1 HRw.out.nil (by omega) hx hy).mono ?_; rintro r wO ⟨p, rfl, hS, hbO⟩; have HS := hide hS; have HBO := hide hbO; clear hS hbO; dsimp only)))
      all_goals exact HAll.out ao4 k4 wO p ⟨_, HS.out, fun t ht => ⟨Nat.le_trans HB4.out.size ht.1, ht.2⟩, HB4.out.trans (HBO.out.mono HB4.out.size)⟩
    rintro ao4 k4 wO p ⟨O0, hS, hO0, hbO⟩
    have cO0 := (HCs.out wO hbO).1
    have cO1 := (HCs.out wO hbO).2
    have HS := hide hS
    have HO0 := hide hO0
    have HBO := hide hbO
    have hsO := hbO.size
    clear hS hO0 hbO HCs cA0 cA1 HRe HSe c0 c1 HPl
    go_wp2_with fail
    have hnl := HAh.out.1
    obtain ⟨wY, hwY⟩ : ∃ wY, wY = wO.alloc (.cells #[.slice a0 Im.length cap0, .int .i64 x, .int .i64 y] 45) := ⟨_, rfl⟩
    have hbY : Below wO.heap.size wO wY := by rw [hwY]; exact (Below.refl _ _).alloc (Nat.le_refl _) _
    have hsY : wY.heap.size = wO.heap.size + 1 := by rw [hwY]; simp
    have hpY : wY.heap[wO.heap.size]? = some (.cells #[.slice a0 Im.length cap0, .int .i64 x, .int .i64 y] 45 (0, 0)) := by rw [hwY]; exact heap_alloc_new wO _
    rw [hnl] at hwY
    have HwY := hide hwY
    have hb3Y : Below w3.heap.size w3 wY := HBO.out.trans (hbY.mono HBO.out.size)
    have hbwY : Below w.heap.size w wY := HBw3.out.trans (hb3Y.mono HBw3.out.size)
    have HW : Hid (∀ wq, Fr (fun k => w3.heap.size ≤ k ∧ k ≠ wO.heap.size) wY wq → Below w.heap.size w wq) := fun wq hf => hbwY.trans (hf.below w.heap.size hbwY.size (fun t ht => Nat.le_trans hw3 ht.1))
    have HRY : Hid (∀ wq, Fr (fun k => w3.heap.size ≤ k ∧ k ≠ wO.heap.size) wY wq → RdY wq wO.heap.size Im x y a0 Im.length cap0) := fun wq hf =>
      ⟨(hf.block _ (by omega) (fun h => h.2 rfl)).trans hpY, (by rw [hnl]; exact HAh.out.below (HW.out wq hf)), by omega, by omega, HAn.out, by omega⟩
    have HTY : Hid (∀ wq, Fr (fun k => w3.heap.size ≤ k ∧ k ≠ wO.heap.size) wY wq → Tb wq w2.heap.size ent) := fun wq hf => (HT3.out.below hb3Y hlt3).fr hf (by omega) (fun h => by omega)
    have HSY := hide (HS.out.below hbY)
    have hLen := HAsk.out.1
    clear hbY hpY hb3Y hbwY HS HBO HT3 HBw3 HB23 hwY cO0 cO1
    rw [← HwY.out]
    go_loopw [11] (fun s11 wr => ∃ (i : Nat) (O : Nat → Prop), s11 = .int .i64 i ∧ i ≤ 20 ∧ RdS wr p O w2.heap.size Im x y (1000 * i) ∧ Fr (fun k => w3.heap.size ≤ k ∧ k ≠ wO.heap.size) wY wr ∧ (∀ t, O t → w3.heap.size ≤ t ∧ t ≠ wO.heap.size)) (fun s11 _ => 20 - (intOf s11).toNat)
    case atStart => exact ⟨0, O0, rfl, by omega, HSY.out, Fr.refl _ _, fun t ht => ⟨(HO0.out t ht).1, by have := (HO0.out t ht).2; omega⟩⟩
    case round =>
      clear HSY HO0
      obtain ⟨i, O, rfl, hi20, hS, hF, hO⟩ := hrel
      have hsr := hF.size
      by_cases hgo : i < len2 ∧ i < 20
      · obtain ⟨b, off, rfl, hbw, hcell⟩ : ∃ b off, a2 = some ⟨b, off, none⟩ ∧ b < w.heap.size ∧ ∀ wq, Fr (fun k => w3.heap.size ≤ k ∧ k ≠ wO.heap.size) wY wq → wq.cell? ⟨b, off + i * 2, none⟩ = some (.int .i64 (K i).1) ∧ wq.cell? ⟨b, off + i * 2 + 1, none⟩ = some (.int .i64 (K i).2) := by
          rcases HAsk.out.2 with h | ⟨b, off, h1, h2, h3⟩
          · omega
          · exact ⟨b, off, h1, h2, fun wq hf => ⟨((HW.out wq hf).cell (p := ⟨b, off + i * 2, none⟩) h2).trans (h3 i hgo.1).1, ((HW.out wq hf).cell (p := ⟨b, off + i * 2 + 1, none⟩) h2).trans (h3 i hgo.1).2.1⟩⟩
        obtain ⟨hr, hn⟩ : In64 (K i).1 ∧ In64 (K i).2 := by
          rcases HAsk.out.2 with h | ⟨b, off, h1, h2, h3⟩
          · omega
          · exact (h3 i hgo.1).2.2
        unfold In64 at hr hn
        obtain ⟨e1, e2⟩ := hcell wr hF
        have HCe := hide hcell
        clear hcell
        generalize (K i).1 = ref at *
        generalize (K i).2 = N at *
        obtain ⟨nn, hnn, hnb⟩ : ∃ nn, N.tmod 1000 = nn ∧ (-999 ≤ nn ∧ nn ≤ 999) := by
          have t1 := Int.tmod_lt_of_pos N (show (0 : Int) < 1000 by omega)
          have t2 := Int.neg_tmod N 1000
          have t3 := Int.tmod_lt_of_pos (-N) (show (0 : Int) < 1000 by omega)
          exact ⟨_, rfl, by omega⟩
        have hOt : ¬ O w2.heap.size := fun hx => by have := (hO _ hx).1; omega
        have HC1 := hide (mRead_each p w2.heap.size (1000 * i) O Im x y ref nn wr hS (HTY.out wr hF) (by omega) hOt HAh.out.bytes (by omega) (by omega) hr hnb)
        have HF := hide hF
        have HO := hide hO
        have i1 : (i : Int) < (len2 : Int) := by omega
        have i2 : (i : Int) < 20 := by omega
        have i3 : (0 : Int) ≤ (i : Int) := by omega
        clear hS hF hO hOt
        go_wp2_with fail
        refine HC1.out.mono ?_
        rintro r w5 ⟨O5, ao5, m5, c5, rfl, hB5, hS5, hF5, hG5, hA5⟩
        have f5 := HF.out.trans hF5 (fun t _ ht => HO.out t ht)
        have o5 : ∀ t, O5 t → w3.heap.size ≤ t ∧ t ≠ wO.heap.size := fun t ht => by
          rcases hG5 t ht with h | h
          · exact HO.out t h
          · omega
        obtain ⟨e15, e25⟩ := HCe.out w5 f5
        have HC2 := hide (yRead_each wO.heap.size Im.length cap0 a0 Im x y ref nn w5 (HRY.out w5 f5) hx hy hr hnb)
        have HF5 := hide f5
        have HO5 := hide o5
        have HB5 := hide hB5
        have HS5 := hide hS5
        have HA5 := hide hA5
        have hs5 := f5.size
        clear f5 o5 hB5 hS5 hF5 hG5 hA5 HC1 HF HO e1 e2
        go_wp2_with fail
        refine HC2.out.mono ?_
        rintro r w6 ⟨ao6, m6, c6, rfl, hB6, hb6, hA6⟩
        have f6 := HF5.out.then (Fr.of_below hb6)
        obtain ⟨e16, e26⟩ := HCe.out w6 f6
        have hs6 := f6.size
        have HC3 := hide (mNext_each p w2.heap.size (1000 * i + 1000) O5 Im x y ref w6 (HS5.out.below hb6) (HTY.out w6 f6) (by omega) (fun hx => by have := (HO5.out _ hx).1; omega) HAh.out.bytes (by omega) (by omega) hr)
        have HBB : Hid (∀ w7, Fr O5 w6 w7 → Bs w7 ao5 m5 (ansR Im x y ref nn).1 ∧ Bs w7 ao6 m6 (ansR Im x y ref nn).1) := fun w7 hF7 =>
          ⟨(HB5.out.below hb6).fr hF7 (fun z hz _ => HA5.out z hz), hB6.fr hF7 (fun z hz _ hO => by have h1 := hA6 z hz; have h2 := HS5.out.olt _ hO; omega)⟩
        have HF6 := hide f6
        clear f6 hB6 hb6 hA6 HC2 HF5 HB5 HS5 HA5 e15 e25
        go_wp2_with fail
        refine HC3.out.mono ?_
        rintro r w7 ⟨O7, rfl, hS7, hF7, hG7⟩
        have f7 := HF6.out.trans hF7 (fun t _ ht => HO5.out t ht)
        have o7 : ∀ t, O7 t → w3.heap.size ≤ t ∧ t ≠ wO.heap.size := fun t ht => by
          rcases hG7 t ht with h | h
          · exact HO5.out t h
          · omega
        obtain ⟨e17, e27⟩ := HCe.out w7 f7
        have HC4 := hide (yNext_each wO.heap.size Im.length cap0 a0 Im x y ref w7 (HRY.out w7 f7) hx hy hr)
        have HBB7 := hide (HBB.out w7 hF7)
        have HF7 := hide f7
        have HO7 := hide o7
        have HS7 := hide hS7
        clear f7 o7 hS7 hF7 hG7 HBB HC3 HF6 HO5 e16 e26
        go_wp2_with fail
        refine HC4.out.mono ?_
        rintro r w8 ⟨rfl, hb8⟩
        have HF8 := hide (HF7.out.then (Fr.of_below hb8))
        have HS8 := hide (HS7.out.below hb8)
        have s1 := str_any (HBB7.out.1.below hb8) c5
        have s2 := str_any (HBB7.out.2.below hb8) c6
        clear hb8 HBB7 HF7 HS7 HC4 e17 e27 HCe
        generalize ansR Im x y ref nn = A at *
        generalize ansN Im x y ref = A2 at *
        obtain ⟨za, nx, er⟩ := A
        obtain ⟨ka, ea⟩ := A2
        dsimp only at s1 s2
        go_wp2_with fail
        refine ⟨⟨i + 1, O7, by go_num, by omega, HS8.out.mono (by omega), HF8.out, HO7.out⟩, by simp only [intOf]; omega⟩
      · have HFin := hide (HW.out wr hF)
        clear hS hF hO
        by_cases hl : i < len2
        · have k1 : (20 : Int) ≤ (i : Int) := by omega
          have k2 : (i : Int) < (len2 : Int) := by omega
          have k3 : decide ((i : Int) < 20) = false := by simp; omega
          go_wp2
          go_ret
          exact ⟨rfl, HFin.out⟩
        · have k1 : (len2 : Int) ≤ (i : Int) := by omega
          have k2 : decide ((i : Int) < (len2 : Int)) = false := by simp; omega
          go_wp2
          go_ret
          exact ⟨rfl, HFin.out⟩)
end Go.Proofs.Ytahbgebnmgnmoaa

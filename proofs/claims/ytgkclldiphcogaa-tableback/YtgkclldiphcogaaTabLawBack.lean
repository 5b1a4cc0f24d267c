/- Layer 11: TableBack: numbers, and attributes by their refs, are taken as they were put; with another count they are refused. -/
import Derived.Test.YtgkclldiphcogaaTabBackJ
import Derived.Test.YtgkclldiphcogaaTabNumsSame
import Derived.Test.YtgkclldiphcogaaTabRefXat
import Derived.Test.YtgkclldiphcogaaTabShown
import Derived.ProofKit
import Derived.Deep.CutBlock
import Derived.Stop.BytesEq
namespace Go.Proofs.Ytgkclldiphcogaa
set_option linter.unusedVariables false
set_option maxRecDepth 100000
open Go.RowKit Go.Maps Go.ChangeShapes Go.WideShapes Go.ChangeAt
open Lz (g)
open Crc (ent)
open Cur
open Frm Mtr Tre Tab

namespace Tab
/-- The numbers' low halves. -/
def lows (Z : Nat → Int) (n : Nat) : List Int := (List.range n).map fun k => Z k % 65536
theorem lows_length (Z : Nat → Int) (n : Nat) : (lows Z n).length = n := by simp [lows]
theorem lows_succ (Z : Nat → Int) (n : Nat) : lows Z (n + 1) = lows Z n ++ [Z n % 65536] := by simp [lows, List.range_succ]
theorem lows_small (Z : Nat → Int) (n : Nat) : ∀ x ∈ lows Z n, 0 ≤ x ∧ x < 65536 := by
  intro x hx
  simp only [lows, List.mem_map] at hx
  obtain ⟨k, _, rfl⟩ := hx
  omega
end Tab
theorem Zs.fr2 {S : Nat → Prop} {w w' : World} {ao : Option Addr} {n : Nat} {l : List Int} (h : Zs w ao n l) (hf : Fr S w w') (hn : ∀ a, ao = some a → a.block < w.heap.size → ¬ S a.block) : Zs w' ao n l := by
  refine ⟨h.1, ?_⟩
  rcases h.2 with h0 | ⟨b, off, h1, h2, h3⟩
  · exact .inl h0
  · exact .inr ⟨b, off, h1, Nat.lt_of_lt_of_le h2 hf.size, fun i hi => (hf.cell (q := ⟨b, off + i, none⟩) h2 (hn ⟨b, off, none⟩ h1 h2)).trans (h3 i hi)⟩
theorem owns_row {w : World} {B n c : Nat} {ao : Option Addr} {L : List XRow} (h : w.ownsRow B 28 1 (.slice ao n c) n (rvs L)) (j : Nat) (hj : j < L.length) : ∃ gb, ao = some ⟨gb, 0, none⟩ ∧ gb < w.heap.size ∧ w.cell? ⟨gb, j, none⟩ = some (.slice L[j].a L[j].n L[j].c) := by
  have hl : L.length = n := by have := h.1; simpa [rvs] using this
  obtain ⟨gb, c', hv, _, hlt⟩ := h.form (by omega)
  obtain ⟨rfl, _, rfl⟩ : ao = some ⟨gb, 0, none⟩ ∧ n = n ∧ c = c' := by simpa using hv
  refine ⟨gb, rfl, hlt, ?_⟩
  rw [h.cellAt j (by omega)]
  simp [rvs, hj]
set_option maxRecDepth 100000 in
set_option maxHeartbeats 4000000 in
theorem back_walk (a0 : Option Addr) (len0 cap0 : Nat) (Z : Nat → Int) (a1 : Option Addr) (len1 cap1 : Nat) (R1 : Nat → XRow) (w : World) (f0 : IntsB w a0 len0 cap0 Z) (fc0 : len0 ≤ cap0) (fm0 : cap0 ≤ 9223372036854775807) (f1 : XRows w a1 len1 cap1 R1) :
    Calls Try.prog 6 #[.slice a0 len0 cap0, .slice a1 len1 cap1] w fun e w' => e = .returned (.bool true) ∧ Below w.heap.size w w' := by
  obtain ⟨hz, hi'⟩ := zero_of_info infoTable
  have HZ0 := hide f0
  have HX1 := hide f1
  have hl1 := f1.1
  clear f0 f1 fc0 fm0
  go_enter Try.func6, Try.ntmps6
  go_wp2_with fail
  refine (shown_any w).mono ?_
  rintro r ws ⟨rfl, bs0⟩
  have HB0 := hide bs0
  clear bs0
  go_wp2_with fail
  refine (New_any ws).mono ?_
  rintro r w2 ⟨rfl, b2⟩
  obtain ⟨C, hC⟩ : ∃ C, C = Go.Proofs.Ytgkclldiphcogaa.tab ent := ⟨_, rfl⟩
  rw [← hC]
  have HC := hide hC
  clear hC
  go_wp2_with (refine wpList_store_table rfl _ _ rfl ent C HC.out rfl rfl _ (by simp) ?_; intro w3 ht3 hT3 hlt3 hb3; have b3 : Below w.heap.size w w3 := (HB0.out.trans (b2.mono HB0.out.size)).trans (hb3.mono (Nat.le_trans HB0.out.size b2.size)); have HB3 := hide b3; have HT3 := hide hT3; have hww := b3.size; clear ht3 hT3 hb3 b2 HB0 b3)
  clear HC hz hi'
  refine (metaNew_any w2.heap.size w3).mono ?_
  rintro r w4 ⟨rfl, hW4, hb4, hs4⟩
  have HW4 := hide hW4
  have HB4 := hide hb4
  clear hW4 hb4
  go_wp2_with fail
  refine (metaNew_any w2.heap.size w4).mono ?_
  rintro r w5 ⟨rfl, hW5, hb5, hs5⟩
  have HW5 := hide hW5
  have HW45 := hide (HW4.out.below hb5)
  have hb35 := HB4.out.trans (hb5.mono HB4.out.size)
  have HB35 := hide hb35
  obtain ⟨w6, hw6⟩ : ∃ w6, w6 = w5.alloc (.cells #[] 3) := ⟨_, rfl⟩
  have HO6 : Hid (w6.ownsRow w5.heap.size 3 1 (.slice (some ⟨w5.heap.size, 0, none⟩) 0 0) 0 (zv (lows Z 0))) := by rw [hw6]; exact emptyR (Nat.le_refl _)
  have HB56 : Hid (Below w5.heap.size w5 w6) := by rw [hw6]; exact below_one _ _
  have HWq := hide hw6
  have HBw5 := hide (HB3.out.trans (hb35.mono HB3.out.size))
  have HT5 := hide (HT3.out.below hb35 hlt3)
  have h34 : w3.heap.size < w4.heap.size := by omega
  have h45 : w4.heap.size < w5.heap.size := by omega
  clear hW5 HW4 HB4 hb35 hb5 hw6 HB3 HT3 HB35 hs4 hs5
  go_upto_block 0 with fail
  rw [← HWq.out]
  go_cut [9, 10] from 48 to 65 (fun s9 s10 wx => ∃ (n : Nat) (ao : Option Addr) (c : Nat), s9 = .slice ao n c ∧ n ≤ 200 ∧ wx.ownsRow w5.heap.size 3 1 (.slice ao n c) n (zv (lows Z n)) ∧ Below w5.heap.size w5 wx)
  case first =>
    go_wp2_with fail
    go_loopw [9, 10] (fun s9 s10 wr => ∃ (i : Nat) (ao : Option Addr) (c : Nat), s9 = .slice ao i c ∧ s10 = .int .i64 i ∧ i ≤ 200 ∧ i ≤ len0 ∧ wr.ownsRow w5.heap.size 3 1 (.slice ao i c) i (zv (lows Z i)) ∧ Below w5.heap.size w5 wr) (fun _ s10 _ => 200 - (intOf s10).toNat)
    case atStart => exact ⟨0, _, 0, rfl, rfl, by omega, by omega, HO6.out, HB56.out⟩
    case round =>
      clear HO6 HB56 HWq
      obtain ⟨i, ao, c, rfl, rfl, hi200, hil, hown, hbr⟩ := hrel
      have HOr := hide hown
      have HBr := hide hbr
      have hsr := hbr.size
      clear hown hbr
      by_cases hgo : i < len0 ∧ i < 200
      · obtain ⟨b, off, rfl, hbw, hcell⟩ : ∃ b off, a0 = some ⟨b, off, none⟩ ∧ b < w.heap.size ∧ w.cell? ⟨b, off + i, none⟩ = some (.int .i64 (Z i)) := by
          rcases HZ0.out.2 with h | ⟨b, off, h1, h2, h3⟩
          · omega
          · exact ⟨b, off, h1, h2, (h3 i hgo.1).1⟩
        have hcr : wr.cell? ⟨b, off + i, none⟩ = some (.int .i64 (Z i)) := ((HBw5.out.trans (HBr.out.mono HBw5.out.size)).cell (p := ⟨b, off + i, none⟩) hbw).trans hcell
        have hand := and_low (Z i)
        have HSu := hide (lows_succ Z i)
        obtain ⟨y, hy⟩ : ∃ y, y = Z i % 65536 := ⟨_, rfl⟩
        rw [← hy] at hand HSu
        obtain ⟨wA, hwA⟩ : ∃ wA, wA = wr.alloc (.cells #[.int .i64 y] 3) := ⟨_, rfl⟩
        have HBA : Hid (Below wr.heap.size wr wA) := by rw [hwA]; exact below_one _ _
        have hsA : wr.heap.size ≤ wA.heap.size := HBA.out.size
        have hpA : wA.cell? ⟨wr.heap.size, 0, none⟩ = some (.int .i64 y) := by rw [hwA, cell_of_row _ _ _ _ _ _ (heap_new rfl)]; rfl
        have HWA := hide hwA
        have HoA := hide (owns_below HOr.out HBA.out)
        have i1 : (i : Int) < (len0 : Int) := by omega
        have i2 : (i : Int) < 200 := by omega
        have i3 : (0 : Int) ≤ (i : Int) := by omega
        have hBase : w5.heap.size ≤ wA.heap.size := by omega
        clear hwA hy hcell
        go_wp2_with (at_builtin
                     rw [← HWA.out]
                     refine wpList_append_num_at _ (by rfl) (.tmp 58) (.tmp 64) (by rfl) w5.heap.size ao i c (lows Z i) (by rfl) HoA.out wr.heap.size y (by rfl) hpA (by omega) hBase ?_
                     intro b' c' wB hoB hgB _
                     have HoB := hide hoB
                     have HBB : Hid (Below w5.heap.size w5 wB) := (HBr.out.trans (HBA.out.mono HBr.out.size)).trans (grown_below hBase HoA.out hgB)
                     clear hoB hgB)
        refine ⟨⟨i + 1, _, c', rfl, by go_num, by omega, by omega, ?_, HBB.out⟩, by simp [intOf]; omega⟩
        rw [HSu.out]
        exact HoB.out
      · have hexit : ¬ (i : Int) < (len0 : Int) ∨ ((i : Int) < (len0 : Int) ∧ (i : Int) = 200) := by omega
        rcases hexit with i1 | ⟨i1, i2⟩
        · go_wp2_with fail
          go_meet
          case rel => exact ⟨i, ao, c, rfl, hi200, HOr.out, HBr.out⟩
        · obtain rfl : i = 200 := by omega
          go_wp2_with fail
          go_meet
          case rel => exact ⟨200, ao, c, rfl, hi200, HOr.out, HBr.out⟩
  case rest =>
  obtain ⟨n, aoN, cN, rfl, hn200, hoN, hbN⟩ := hcut
  clear HO6 HB56 HWq
  have HRs := hide (lows_small Z n)
  have hRl := lows_length Z n
  generalize lows Z n = R at *
  have HoN := hide hoN
  have HBN := hide hbN
  have hsN := hbN.size
  have HPN := hide (PutNums_any aoN n cN R 2 wc (Zs.of hoN) (by omega) (fun x hx => by have := HRs.out x hx; unfold In64; omega) (by unfold In64; omega))
  rw [putN_ok HRs.out] at HPN
  have hbl := b2_length R
  have HbB := hide (b2_bytes R)
  obtain ⟨zN, hzN⟩ : ∃ zN, zN = b2 R := ⟨_, rfl⟩
  rw [← hzN] at HPN hbl HbB
  have HzN := hide hzN
  have hzl : zN.length ≤ 400 := by omega
  clear hoN hbN hzN hbl
  go_wp2_with fail
  refine HPN.out.mono ?_
  rintro r w7 ⟨aoP, cP, rfl, hN⟩
  have hW7 := (HW45.out.below HBN.out).below hN.bel
  have HAdd := hide (Add_any w3.heap.size w2.heap.size zN.length cP (fun k => k = w3.heap.size) aoP ent [] zN w7 hW7 ((HT5.out.below HBN.out (by omega)).below hN.bel (by omega)) (by have := hN.bel.size; omega) (fun h => by have h' : w2.heap.size = w3.heap.size := h; omega) small_ent hN.bs hN.nil (by simp) (by omega))
  have HN7 := hide hN.bel
  have hs7 := hN.bel.size
  have HO7 := hide (owns_below HoN.out hN.bel)
  have HV7 := hide ((HW5.out.below HBN.out).below hN.bel)
  obtain ⟨m, hm⟩ : ∃ m, m = zN.length := ⟨_, rfl⟩
  rw [← hm] at HAdd
  rw [← hm]
  have Hm := hide hm
  simp only [List.nil_append] at HAdd
  clear hW7 hN HPN hm HoN HW45 HW5
  go_wp2_with fail
  refine HAdd.out.mono ?_
  rintro r w8 ⟨rfl, OW, hW8, hF8, hG8⟩
  have HW8 := hide hW8
  have HG8 := hide hG8
  have hs8 := hF8.size
  have hV8 := HV7.out.fr hF8 (fun k hk hx => by omega)
  have HO8 := hide (owns_fr HO7.out hF8 (fun k hk hx => by have := (HO7.out.lt k hk).1; omega))
  have hB58 : Below w5.heap.size w5 w7 := HBN.out.trans (HN7.out.mono HBN.out.size)
  have HT8 := hide ((HT5.out.below hB58 (by omega)).fr hF8 (by omega) (fun h => by omega))
  have HBw8 := hide ((HBw5.out.trans (hB58.mono HBw5.out.size)).trans (hF8.below w.heap.size (by omega) (fun k hk => by omega)))
  obtain ⟨w10, hw10⟩ : ∃ w10, w10 = (w8.alloc (.cells #[] 3)).alloc (.cells #[] 28) := ⟨_, rfl⟩
  have HX0 : Hid (BX w8 w4.heap.size w2.heap.size (zL []) (refL []) [] (.slice (some ⟨w8.heap.size, 0, none⟩) 0 0) (.slice (some ⟨w8.heap.size + 1, 0, none⟩) 0 0) (fun k => k = w4.heap.size) w10) := by
    have hbA : Below w8.heap.size w8 (w8.alloc (.cells #[] 3)) := below_one _ _
    have hbS : Below (w8.alloc (.cells #[] 3)).heap.size (w8.alloc (.cells #[] 3)) w10 := by rw [hw10]; exact below_one _ _
    have hbB := hbA.trans (hbS.mono hbA.size)
    refine ⟨hV8.below hbB, owns_below (emptyR (w := w8) (Nat.le_refl _)) hbS, ?_, fun j hj hx => ?_, fun j hj hx => ?_, fun t ht => .inl ht, Fr.of_below hbB⟩
    · have := emptyR (w := w8.alloc (.cells #[] 3)) (B := w8.heap.size) (t := 28) (size := 1) (by simp)
      rw [← hw10, show (w8.alloc (.cells #[] 3)).heap.size = w8.heap.size + 1 by simp] at this
      exact this
    · simp [Value.ownBlock] at hj
      omega
    · simp [Value.ownBlock] at hj
      omega
  have Hw10 := hide hw10
  clear hW8 hG8 hV8 hw10 hB58 HO7 HV7 HAdd HBN HN7 HBw5 hF8 HT5
  go_upto_block 2 with fail
  rw [← Hw10.out]
  clear Hw10
  go_cut [13, 14, 15, 16, 17] from 76 to 108 (fun s13 s14 s15 s16 s17 wx => ∃ (k : Nat) (L : List XRow) (O : Nat → Prop) (ao13 ao14 : Option Addr) (c13 c14 : Nat), s13 = .slice ao13 k c13 ∧ s14 = .slice ao14 k c14 ∧ k ≤ 12 ∧ L.length = k ∧ (∀ r ∈ L, r.xs ≠ [] ∧ xsOk r.xs = true ∧ r.Ok w) ∧ BX w8 w4.heap.size w2.heap.size (zL L) (refL L) L (.slice ao13 k c13) (.slice ao14 k c14) O wx)
  case first =>
    go_wp2_with fail
    go_loopw [13, 14, 15, 16, 17] (fun s13 s14 s15 s16 s17 wr => ∃ (i k : Nat) (L : List XRow) (O : Nat → Prop) (ao13 ao14 : Option Addr) (c13 c14 : Nat), s13 = .slice ao13 k c13 ∧ s14 = .slice ao14 k c14 ∧ s15 = .int .i64 i ∧ i ≤ 12 ∧ k ≤ i ∧ L.length = k ∧ (∀ r ∈ L, r.xs ≠ [] ∧ xsOk r.xs = true ∧ r.Ok w) ∧ BX w8 w4.heap.size w2.heap.size (zL L) (refL L) L (.slice ao13 k c13) (.slice ao14 k c14) O wr) (fun _ _ s15 _ _ _ => 12 - (intOf s15).toNat)
    case atStart => exact ⟨0, 0, [], _, _, _, 0, 0, rfl, rfl, rfl, by omega, by omega, rfl, fun r hr => by simp at hr, HX0.out⟩
    case round =>
      clear HX0
      obtain ⟨i, k, L, O, ao13, ao14, c13, c14, rfl, rfl, rfl, hi12, hki, hLk, hLs, hX⟩ := hrel
      have HX := hide hX
      have HLs := hide hLs
      have HLk := hide hLk
      have hsr := hX.fr.size
      have HBr := hide (HBw8.out.trans (hX.fr.below w.heap.size (by omega) (fun k hk => by omega)))
      clear hX hLs hLk
      by_cases hgo : i < len1 ∧ i < 12
      · obtain ⟨b, off, rfl, hbw, hcell, hOk⟩ : ∃ b off, a1 = some ⟨b, off, none⟩ ∧ b < w.heap.size ∧ (∀ wq, Below w.heap.size w wq → wq.cell? ⟨b, off + i, none⟩ = some (.slice (R1 i).a (R1 i).n (R1 i).c)) ∧ (R1 i).Ok w := by
          rcases HX1.out.2 with h | ⟨b, off, h1, h2, h3⟩
          · omega
          · exact ⟨b, off, h1, h2, fun wq hq => (hq.cell (p := ⟨b, off + i, none⟩) h2).trans (h3 i hgo.1).1, (h3 i hgo.1).2⟩
        obtain ⟨t, ht⟩ : ∃ t, t = R1 i := ⟨_, rfl⟩
        rw [← ht] at hcell hOk
        have e1 := hcell wr HBr.out
        have HCe := hide hcell
        have HOk := hide hOk
        have hxr : XsR wr t.a t.n t.xs := hOk.xr.below HBr.out
        have HPX := hide (PutXattrs_any t.a t.n t.c t.xs wr hxr hOk.cap hOk.max hOk.nil)
        have i1 : (i : Int) < (len1 : Int) := by omega
        have i2 : (i : Int) < 12 := by omega
        have i3 : (0 : Int) ≤ (i : Int) := by omega
        clear hcell hOk hxr ht
        by_cases hok : t.xs ≠ [] ∧ xsOk t.xs = true
        · rw [show putX t.xs = (xsB t.xs.length t.xs, 0) by unfold putX; rw [if_pos hok]] at HPX
          have Hok := hide hok
          obtain ⟨zX, hzX⟩ : ∃ zX, zX = xsB t.xs.length t.xs := ⟨_, rfl⟩
          have hzXl : zX.length ≤ 2000 := by rw [hzX]; exact xsB_length hok.2
          rw [← hzX] at HPX
          have HzX := hide hzX
          clear hok hzX
          go_wp2_with fail
          refine HPX.out.mono ?_
          rintro r w9 ⟨aoC, cC, rfl, hN⟩
          have hX9 := HX.out.below hN.bel
          have hs9 := hN.bel.size
          have hzLl := zL_length (L := L) (fun r hr => (HLs.out r hr).2.1)
          have hLk := HLk.out
          have HAdd := hide (Add_any w4.heap.size w2.heap.size zX.length cC O aoC ent (zL L) zX w9 hX9.wr (HT8.out.fr hX9.fr (by omega) (fun h => by omega)) (by omega) (fun h => by have := hX9.up _ h; omega) small_ent hN.bs hN.nil (by omega) (by omega))
          have HX9 := hide hX9
          obtain ⟨mX, hmX⟩ : ∃ mX, mX = zX.length := ⟨_, rfl⟩
          rw [← hmX] at HAdd
          rw [← hmX]
          clear hX9 hN HPX HX hmX hzLl hLk e1
          go_wp2_with fail
          refine HAdd.out.mono ?_
          rintro r wD ⟨rfl, O2, hWD, hFD, hGD⟩
          have hXD := HX9.out.add hWD hFD hGD
          obtain ⟨rn, hrn⟩ : ∃ rn, rn = rf ent (zL L) (zL L).length := ⟨_, rfl⟩
          have HRn := hide hrn
          rw [← hrn]
          obtain ⟨wE, hwE⟩ : ∃ wE, wE = wD.alloc (.cells #[.int .i64 rn] 3) := ⟨_, rfl⟩
          have hbE : Below wD.heap.size wD wE := by rw [hwE]; exact below_one _ _
          have hpE : wE.cell? ⟨wD.heap.size, 0, none⟩ = some (.int .i64 rn) := by rw [hwE, cell_of_row _ _ _ _ _ _ (heap_new rfl)]; rfl
          have HwE := hide hwE
          have hXE := hXD.below hbE
          have HXE := hide hXE
          have hsE := hXE.fr.size
          have HrE : Hid (wE.ownsRow w8.heap.size 3 1 (.slice ao13 k c13) k (zv (refL L))) := by
            have := hXE.r6
            rw [refL_length, HLk.out] at this
            exact this
          have hk1 : k + 1 ≤ 100000000 := by omega
          clear hWD hFD hGD hXD hrn hwE hbE hXE HAdd HX9
          go_wp2_with (first
            | (at_builtin
               rw [← HwE.out]
               refine wpList_append_num_at _ (by rfl) (.tmp 96) (.tmp 100) (by rfl) w8.heap.size ao13 k c13 (refL L) (by rfl) HrE.out wD.heap.size rn (by rfl) hpE hk1 hsE ?_
               intro b13 c13' wF hoF hgF hlF
               have hrl : (refL L).length = k := by rw [refL_length]; exact HLk.out
               have hXF := HXE.out.ref (b := b13) (c := c13') rn hgF (by rw [hrl]; exact hoF) hlF
               rw [hrl] at hXF
               have eF := HCe.out wF (HBw8.out.trans (hXF.fr.below w.heap.size (by omega) (fun k hk => by omega)))
               obtain ⟨wG, hwG⟩ : ∃ wG, wG = wF.alloc (.cells #[.slice t.a t.n t.c] 28) := ⟨_, rfl⟩
               have hbG : Below wF.heap.size wF wG := by rw [hwG]; exact below_one _ _
               have hpG : wG.cell? ⟨wF.heap.size, 0, none⟩ = some (.slice t.a t.n t.c) := by rw [hwG, cell_of_row _ _ _ _ _ _ (heap_new rfl)]; rfl
               have HwG := hide hwG
               have hXG := hXF.below hbG
               have HXG := hide hXG
               have hsG := hXG.fr.size
               have HrG : Hid (wG.ownsRow w8.heap.size 28 1 (.slice ao14 k c14) k (rvs L)) := by
                 have := hXG.r7
                 rw [HLk.out] at this
                 exact this
               have hk2 : k + 1 ≤ 1000000 := by omega
               clear hoF hgF hlF hrl hXF hwG hbG hXG HXE HwE HrE hpE)
            | (at_builtin
               rw [← HwG.out]
               refine wpList_append_xrow _ (by rfl) (.tmp 102) (.tmp 107) (by rfl) w8.heap.size ao14 k c14 L (by rfl) HrG.out wF.heap.size t (by rfl) hpG hk2 hsG ?_
               intro b14 c14' wH hoH hgH hlH
               have hXH := HXG.out.row (b := b14) (c := c14') t hgH (by rw [HLk.out]; exact hoH) hlH
               rw [HLk.out] at hXH
               have HXH := hide hXH
               clear hoH hgH hlH hXH HXG HwG HrG hpG))
          refine ⟨⟨i + 1, k + 1, L ++ [t], O2, _, _, c13', c14', rfl, rfl, by go_num, by omega, by omega, by simp [HLk.out], fun r hr => ?_, ?_⟩, by simp [intOf]; omega⟩
          · rcases List.mem_append.1 hr with h | h
            · exact HLs.out r h
            · simp at h
              subst h
              exact ⟨Hok.out.1, Hok.out.2, HOk.out⟩
          · rw [zL_append, zL_one, refL_snoc, ← HRn.out, ← HzX.out]
            exact HXH.out
        · rw [show putX t.xs = ([], 1) by unfold putX; rw [if_neg hok]] at HPX
          clear hok
          go_wp2_with fail
          refine HPX.out.mono ?_
          rintro r w9 ⟨aoC, cC, rfl, hN⟩
          have HX9 := hide (HX.out.below hN.bel)
          clear hN HPX
          go_wp2_with fail
          exact ⟨⟨i + 1, k, L, O, ao13, ao14, c13, c14, rfl, rfl, by go_num, by omega, by omega, HLk.out, HLs.out, HX9.out⟩, by simp [intOf]; omega⟩
      · have hexit : ¬ (i : Int) < (len1 : Int) ∨ ((i : Int) < (len1 : Int) ∧ (i : Int) = 12) := by omega
        rcases hexit with i1 | ⟨i1, i2⟩
        · go_wp2_with fail
          go_meet
          case rel => exact ⟨k, L, O, ao13, ao14, c13, c14, rfl, rfl, by omega, HLk.out, HLs.out, HX.out⟩
        · obtain rfl : i = 12 := by omega
          go_wp2_with fail
          go_meet
          case rel => exact ⟨k, L, O, ao13, ao14, c13, c14, rfl, rfl, by omega, HLk.out, HLs.out, HX.out⟩
  case rest =>
  obtain ⟨k, L, O, ao13, ao14, c13, c14, rfl, rfl, hk12, hLk, hLs, hX⟩ := hcut
  have hsX := hX.fr.size
  have HLs := hide hLs
  have HLk := hide hLk
  have hWW := HW8.out.fr hX.fr (fun k hk hx => by
    have h1 := HW8.out.olt k hk
    rcases HG8.out k hk with h | h
    · have h' : k = w3.heap.size := h
      omega
    · omega)
  have hON := owns_fr HO8.out hX.fr (fun k hk hx => by have := HO8.out.lt k hk; omega)
  have hTX := HT8.out.fr hX.fr (by omega) (fun h => by omega)
  have hBX := HBw8.out.trans (hX.fr.below w.heap.size (by omega) (fun k hk => by omega))
  have hzLl := zL_length (L := L) (fun r hr => (hLs r hr).2.1)
  have HD1 := hide (metaDone_any w3.heap.size w2.heap.size OW ent zN wc hWW hTX (by omega) small_ent (by omega))
  have HX := hide hX
  have HON := hide hON
  have HTX := hide hTX
  have HBX := hide hBX
  have HYb := hide (done_bytes ent (zL_bytes (L := L) (fun r hr => (hLs r hr).2.1) (fun r hr => xs_bytes (hLs r hr).2.2.xr)))
  have hYl := done_length ent (zL L)
  have HXb := hide (done_bytes ent HbB.out)
  have hXl := done_length ent zN
  obtain ⟨X, hXe⟩ : ∃ X, X = done ent zN := ⟨_, rfl⟩
  obtain ⟨Y, hYe⟩ : ∃ Y, Y = done ent (zL L) := ⟨_, rfl⟩
  have HDY : Hid (∀ wq, Below wc.heap.size wc wq → Calls Try.prog 26 #[.pointer (some ⟨w4.heap.size, 0, none⟩)] wq fun r w' => ∃ ao c, r = .returned (.slice ao Y.length c) ∧ Fresh wq w' ao Y.length c Y) := fun wq hq => by
    have := hq.size
    rw [hYe]
    exact metaDone_any w4.heap.size w2.heap.size O ent (zL L) wq (HX.out.wr.below hq) (HTX.out.below hq (by omega)) (by omega) small_ent (by omega)
  have HB1 : Hid (takN X (n : Int) 2 = (R, 0)) := by rw [hXe, HzN.out, ← hRl]; exact back_nums HRs.out
  have HB2 : Hid (takN X ((n : Int) + 1) 2 = ([], 2)) := by rw [hXe, HzN.out, ← hRl]; exact back_more R
  have HB3 : Hid (0 < n → takN X ((n : Int) - 1) 2 = ([], 2)) := fun h => by rw [hXe, HzN.out, ← hRl]; exact back_less (by omega)
  have HBk : Hid (∀ i (h : i < L.length), txA Y (g (refL L) i) = some L[i].xs ∧ In64 (g (refL L) i)) := fun i h => by
    have h1 := hLs _ (List.getElem_mem h)
    refine ⟨by rw [hYe]; exact back_row L i h h1.1 h1.2.1, ?_⟩
    rw [refL_get L i h]
    have h2 := rf_bd ent (zL L) (pL L i)
    have h3 := pL_le L i
    unfold In64
    omega
  rw [← hXe] at HD1 HXb hXl
  rw [← hYe] at HYb hYl
  obtain ⟨nX, hnX⟩ : ∃ nX, nX = X.length := ⟨_, rfl⟩
  obtain ⟨nY, hnY⟩ : ∃ nY, nY = Y.length := ⟨_, rfl⟩
  rw [← hnX] at HD1 hXl
  rw [← hnY] at HDY hYl
  have HnX := hide hnX
  have HnY := hide hnY
  have hnX1 : nX ≤ 5000 := by omega
  have hnY1 : nY ≤ 100000 := by omega
  clear HX0 hX hLs hLk hWW hON hTX hBX hXe hYe hnX hnY hXl hYl hzLl HW8 HG8 HO8 HT8 HBw8 HX1 HZ0
  go_wp2_with fail
  refine HD1.out.mono ?_
  rintro r w12 ⟨aoD, cD, rfl, hFD⟩
  have HFD := hide hFD
  have hs12 := hFD.bel.size
  have HD2 := hide (HDY.out w12 hFD.bel)
  clear hFD HD1 HDY
  go_wp2_with fail
  refine HD2.out.mono ?_
  rintro r w13 ⟨aoE, cE, rfl, hFE⟩
  have hFD3 := HFD.out.on hFE.bel
  have hs13 := hFE.bel.size
  have hbX3 := hFD3.bel
  have HON3 := hide (Zs.of (owns_below HON.out hbX3))
  have HX3 := hide (HX.out.below hbX3)
  have HT3 := hide (HTX.out.below hbX3 (by omega))
  have HBw := hide (HBX.out.trans (hbX3.mono HBX.out.size))
  have HOp1 := hide (Open_any w2.heap.size nX cD aoD X ent w13 0 nX hFD3.bs hFD3.cap hFD3.max hFD3.nil (by omega) (by omega) (by omega) (by omega))
  have HFE := hide hFE
  clear hFD3 hFE hbX3 HFD HON HTX HX HBX HD2
  go_wp2_with fail
  refine HOp1.out.mono ?_
  rintro r w14 ⟨pr, rfl, hRr, b14⟩
  have eX : (X.take ((nX : Int)).toNat).drop ((0 : Int)).toNat = X := by
    rw [Int.toNat_natCast, show ((0 : Int)).toNat = 0 from rfl, List.drop_zero, List.take_of_length_le (by rw [HnX.out]; omega)]
  rw [eX] at hRr
  have hFE4 := HFE.out.on b14
  have HOp2 := hide (Open_any w2.heap.size nY cE aoE Y ent w14 0 nY hFE4.bs hFE4.cap hFE4.max hFE4.nil (by omega) (by omega) (by omega) (by omega))
  have HRr := hide hRr
  have HB14 := hide b14
  have hs14 := b14.size
  clear eX hRr b14 hFE4 HFE HOp1
  go_wp2_with fail
  refine HOp2.out.mono ?_
  rintro r w15 ⟨ps, rfl, hRs, b15⟩
  have eY : (Y.take ((nY : Int)).toNat).drop ((0 : Int)).toNat = Y := by
    rw [Int.toNat_natCast, show ((0 : Int)).toNat = 0 from rfl, List.drop_zero, List.take_of_length_le (by rw [HnY.out]; omega)]
  rw [eY] at hRs
  have hR15 := HRr.out.below b15
  have hb15 := HB14.out.trans (b15.mono HB14.out.size)
  have hs15 := b15.size
  have hXl5 : X.length ≤ 5000 := by rw [← HnX.out]; exact hnX1
  have HT1 := hide (TakeNums_any pr w2.heap.size 0 _ X (n : Int) 2 w15 hR15 (HT3.out.below hb15 (by omega)) (by omega) (fun h => by omega) HXb.out hXl5 (by omega) (by unfold In64; omega) (by unfold In64; omega))
  rw [HB1.out] at HT1
  have HRs15 := hide hRs
  have HB15 := hide hb15
  have HXl5 := hide hXl5
  clear eY hRs hR15 b15 hb15 HRr HOp2 HB14 HB1 hXl5
  go_wp2_with fail
  refine HT1.out.mono ?_
  rintro r w16 ⟨O1, hM1, ao1, m1, c1, rfl, hZ1, hx1⟩
  have hO1 : ∀ t, O1 t → w13.heap.size ≤ t ∧ ¬ (w14.heap.size ≤ t ∧ t < w15.heap.size) := fun t ht => by
    rcases hM1.gr t ht with h | h
    · have h' : w13.heap.size ≤ t ∧ t < w14.heap.size := h
      omega
    · omega
  have f1 : Fr (fun t => w13.heap.size ≤ t ∧ ¬ (w14.heap.size ≤ t ∧ t < w15.heap.size)) w15 w16 := hM1.fr.mono (fun t _ ht => by
    have h' : w13.heap.size ≤ t ∧ t < w14.heap.size := ht
    omega)
  have HT2 := hide (TakeNums_any pr w2.heap.size (0 + 1000255) O1 X ((n : Int) + 1) 2 w16 hM1.rdm hM1.tbl hM1.lt hM1.nt HXb.out HXl5.out (by omega) (by unfold In64; omega) (by unfold In64; omega))
  rw [HB2.out] at HT2
  have HF1 := hide f1
  have HO1 := hide hO1
  have HZ1 := hide hZ1
  have Hx1 := hide hx1
  have hs16 := f1.size
  clear hM1 hO1 f1 hZ1 hx1 HT1 HB2
  go_wp2_with fail
  refine HT2.out.mono ?_
  rintro r w17 ⟨O2, hM2, ao2, m2, c2, rfl, hZ2, hx2⟩
  have hO2 : ∀ t, O2 t → w13.heap.size ≤ t ∧ ¬ (w14.heap.size ≤ t ∧ t < w15.heap.size) := fun t ht => by
    rcases hM2.gr t ht with h | h
    · exact HO1.out t h
    · omega
  have f2 := HF1.out.trans hM2.fr (fun t _ ht => HO1.out t ht)
  have HT3' := hide (TakeNums_any pr w2.heap.size (0 + 1000255 + 1000255) O2 X ((n : Int) - 1) 2 w17 hM2.rdm hM2.tbl hM2.lt hM2.nt HXb.out HXl5.out (by omega) (by unfold In64; omega) (by unfold In64; omega))
  have HZ2 := hide (HZ1.out.fr2 hM2.fr (fun x hx _ => Hx1.out x hx))
  have Hx2 : Hid (∀ x, ao1 = some x → x.block < w16.heap.size → ¬ O2 x.block) := fun x hx hl h => by
    rcases hM2.gr _ h with h | h
    · exact Hx1.out x hx h
    · omega
  have HZ1f : Hid (∀ w18, Fr O2 w17 w18 → Zs w18 ao1 m1 R) := fun w18 hf => by
    refine ⟨HZ1.out.1, ?_⟩
    rcases HZ1.out.2 with h0 | ⟨b, off, h1, h2, h3⟩
    · exact .inl h0
    · refine .inr ⟨b, off, h1, Nat.lt_of_lt_of_le h2 (Nat.le_trans hM2.fr.size hf.size), fun i hi => ?_⟩
      exact (hf.cell (q := ⟨b, off + i, none⟩) (Nat.lt_of_lt_of_le h2 hM2.fr.size) (Hx2.out ⟨b, off, none⟩ h1 h2)).trans ((hM2.fr.cell (q := ⟨b, off + i, none⟩) h2 (Hx1.out ⟨b, off, none⟩ h1)).trans (h3 i hi))
  obtain ⟨e3, he3⟩ : ∃ e3, e3 = (takN X ((n : Int) - 1) 2).2 := ⟨_, rfl⟩
  rw [← he3] at HT3'
  have He3 : Hid (0 < n → e3 = 2) := fun h => by rw [he3, HB3.out h]
  have HF2 := hide f2
  have HO2 := hide hO2
  have hs17 := f2.size
  clear hM2 hO2 f2 hZ2 hx2 he3 HT2 HZ1 HZ2 Hx1 Hx2 HF1 HO1 HB3
  go_wp2_with fail
  refine HT3'.out.mono ?_
  rintro r w18 ⟨O3, hM3, ao3, m3, c3, rfl, hZ3, hx3⟩
  have f3 := HF2.out.trans hM3.fr (fun t _ ht => HO2.out t ht)
  have HZ18 := hide (HZ1f.out w18 hM3.fr)
  have HB18 := hide (HB15.out.trans (f3.below w13.heap.size (by omega) (fun t ht => ht.1)))
  have HR18 := hide (HRs15.out.fr f3 (fun t ht hx => hx.2 ht))
  have hs18 := f3.size
  have hm1 : m1 ≤ 1000000 := by have := HZ18.out.1; omega
  clear hM3 f3 hZ3 hx3 HT3' HZ1f HF2 HO2 HRs15 HB15
  go_wp2_with fail
  refine (numsSame_any ao1 aoN m1 n c1 cN R R w18 HZ18.out (HON3.out.below HB18.out) hm1 (by omega) true (by simp)).mono ?_
  rintro r w19 ⟨rfl, j19, hw19⟩
  have b19 : Below w18.heap.size w18 w19 := by rw [hw19]; exact below_drewN (Below.refl _ _) j19
  have HB19 := hide (HB18.out.trans (b19.mono HB18.out.size))
  have HR19 := hide (HR18.out.below b19)
  clear b19 hw19 HZ18 HB18 HR18
  have hcases : ¬ (0 : Int) < (n : Int) ∨ ((0 : Int) < (n : Int) ∧ e3 = 2) := by
    by_cases h : 0 < n
    · exact .inr ⟨by omega, He3.out h⟩
    · exact .inl (by omega)
  clear He3
  rcases hcases with hn0 | ⟨hn0, rfl⟩
  all_goals (
    go_wp2_with fail
    go_loopw [29, 30, 31, 32] (fun s29 _ _ _ wr => ∃ (i : Nat) (O : Nat → Prop), s29 = .int .i64 i ∧ i ≤ k ∧ RdM wr ps O w2.heap.size ent Y (400000 * i) ∧ Below w13.heap.size w13 wr ∧ (∀ t, O t → w13.heap.size ≤ t)) (fun s29 _ _ _ _ => k - (intOf s29).toNat)
    case atStart => exact ⟨0, _, rfl, by omega, HR19.out, HB19.out, fun t ht => by have h' : w14.heap.size ≤ t ∧ t < w15.heap.size := ht; omega⟩
    case round =>
      clear HR19 HB19
      obtain ⟨i, O4, rfl, hik, hS, hBq, hO4⟩ := hrel
      have HBq := hide hBq
      have HBwq := hide (HBw.out.trans (hBq.mono HBw.out.size))
      have hsq := hBq.size
      by_cases hgo : i < k
      · have hLk := HLk.out
        have hiL : i < L.length := by omega
        obtain ⟨htx, hrn⟩ := HBk.out i hiL
        obtain ⟨hne, hok, hOk⟩ := HLs.out _ (List.getElem_mem hiL)
        have hr6 : w13.ownsRow w8.heap.size 3 1 (.slice ao13 k c13) k (zv (refL L)) := by
          have := HX3.out.r6
          rw [refL_length, HLk.out] at this
          exact this
        have hr7 : w13.ownsRow w8.heap.size 28 1 (.slice ao14 k c14) k (rvs L) := by
          have := HX3.out.r7
          rw [HLk.out] at this
          exact this
        obtain ⟨g13, off13, rfl, hg13, hc13⟩ := (Zs.of hr6).at (by omega)
        obtain ⟨g14, rfl, hg14, hc14⟩ := owns_row hr7 i hiL
        have e13 := (hBq.cell (p := ⟨g13, off13 + i, none⟩) hg13).trans (hc13 i hgo)
        have HC14 : Hid (∀ wq, Below w13.heap.size w13 wq → wq.cell? ⟨g14, i, none⟩ = some (.slice L[i].a L[i].n L[i].c)) := fun wq hq => (hq.cell (p := ⟨g14, i, none⟩) hg14).trans hc14
        have hYl : Y.length ≤ 1000000 := by have := HnY.out; omega
        have HTk := hide (TakeXattrs_any ps w2.heap.size (400000 * i) O4 Y (g (refL L) i) wr hS (HT3.out.below hBq (by omega)) (by omega) (fun h => by have := hO4 _ h; omega) HYb.out hrn hYl (by omega))
        have HO4 := hide hO4
        have Htx := hide htx
        have HOk := hide hOk
        have hln : L[i].xs.length ≤ 8 := (xsOk_mem hok).1
        have hnn : L[i].n = L[i].xs.length := hOk.xr.1.symm
        generalize g (refL L) i = rn at *
        generalize L[i] = t at *
        obtain ⟨xs, hxs⟩ : ∃ xs, xs = t.xs := ⟨_, rfl⟩
        have Hxs := hide hxs
        have hln' : xs.length ≤ 8 := by rw [hxs]; exact hln
        have hnn' : t.n ≤ 8 := by omega
        have i1 : (i : Int) < (k : Int) := by omega
        have i3 : (0 : Int) ≤ (i : Int) := by omega
        clear hS hBq hO4 htx hrn hne hok hOk hr6 hr7 hc13 hc14 hYl hln hnn hxs hLk hiL
        go_wp2_with fail
        refine HTk.out.mono ?_
        rintro r w20 ⟨⟨O5, hM5⟩, hT5⟩
        have hT5' : ∃ ao c, r = .returned (.tuple #[.slice ao xs.length c, .int .i64 0]) ∧ XsR w20 ao xs.length xs := by
          rw [Hxs.out]
          rcases hT5 with ⟨hn, _⟩ | ⟨ys, ao, c, hs, rfl, hx⟩
          · rw [Htx.out] at hn; cases hn
          · rw [Htx.out] at hs; cases hs; exact ⟨ao, c, rfl, hx⟩
        obtain ⟨ao5, c5, rfl, hx5⟩ := hT5'
        have b20 := hM5.fr.below w13.heap.size hsq (fun t ht => HO4.out t ht)
        have HB20 := hide (HBq.out.trans b20)
        have e14 := HC14.out w20 HB20.out
        have HO5 : Hid (∀ t, O5 t → w13.heap.size ≤ t) := fun t ht => by
          rcases hM5.gr t ht with h | h
          · exact HO4.out t h
          · omega
        have HR20 := hide hM5.rdm
        have HSm := hide (xsSame_any ao5 t.a xs.length t.n c5 t.c xs t.xs w20 hx5 (HOk.out.xr.below (HBw.out.trans (HB20.out.mono HBw.out.size))) (by omega) (by omega) true (by rw [Hxs.out]; simp))
        clear hM5 hT5 hx5 b20 HTk e13 HC14 HO4 Htx
        go_wp2_with fail
        refine HSm.out.mono ?_
        rintro r w21 ⟨rfl, j21, hw21⟩
        have b21 : Below w20.heap.size w20 w21 := by rw [hw21]; exact below_drewN (Below.refl _ _) j21
        have HR21 := hide (HR20.out.below b21)
        have HB21 := hide (HB20.out.trans (b21.mono HB20.out.size))
        clear b21 hw21 HR20 HB20 HSm
        go_wp2_with fail
        exact ⟨⟨i + 1, O5, by go_num, by omega, HR21.out.mono (by omega), HB21.out, HO5.out⟩, by simp [intOf]; omega⟩
      · have i1 : ¬ (i : Int) < (k : Int) := by omega
        clear hS hBq hO4
        go_wp2_with fail
        go_ret
        exact ⟨rfl, HBwq.out⟩)
end Go.Proofs.Ytgkclldiphcogaa

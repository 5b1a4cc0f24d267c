/- Layer 9: InodeRows: records that stand in a row, one behind the other, are read by their refs as they were, each leading to the next one. -/
import Derived.Test.YtmhgjilpgbkaaaaInoRowP
import Derived.Test.YtmhgjilpgbkaaaaInoPut
import Derived.Deep.RegionHeld3
import Derived.Deep.AppendLies
import Derived.Maps.AppendAt
import Derived.Stop.BytesEq
import Derived.OwnWalk
namespace Go.Proofs.Ytmhgjilpgbkaaaa
set_option linter.unusedVariables false
set_option maxRecDepth 100000
open Go.RowKit Go.Maps
open Lz (g)
open Crc (ent)
open Cur
open Ino
open Mtr (rd rf done fr rest rf_bd)

namespace Ino
theorem equal_rec (s : Rec) (w : World) : (Op.equalIn 10000 23 (.agg (iv s)) (.agg (iv s))).run Try.prog w = .ok true w := by
  unfold iv
  go_simp
theorem fold_iv (K : Rec) : Array.foldl (fun (cs : Array Value) (x : Value × Nat) => cs.setIfInBounds x.snd x.fst) #[.int .i64 0, .int .i64 0, .int .i64 0, .int .i64 0, .int .i64 0, .int .i64 0, .int .i64 0, .int .i64 0, .int .i64 0, .int .i64 0, .string ⟨#[]⟩] (iv K).zipIdx 0 11 = iv K := by
  unfold iv
  simp
theorem owns_obj {w : World} {B e size n k : Nat} {v : Value} {xs : List Value} (h : w.ownsRow B e size v n xs) (hk : v.ownBlock = some k) : ∃ cur, w.heap[k]? = some (.cells cur e (0, 0)) := by
  rcases h.2 with ⟨rfl, _⟩ | ⟨g, cap, cur, rfl, _, hgg, _⟩
  · simp [Value.ownBlock] at hk
  · simp [Value.ownBlock] at hk
    subst hk
    exact ⟨cur, hgg⟩
/-- The writer at p, the row of records, the row of refs, since w3. -/
structure RW (w3 : World) (p tb : Nat) (z : List Int) (K6 : List Rec) (R7 : List Int) (v6 v7 : Value) (O : Nat → Prop) (w : World) : Prop where
  wr : WrM w p O tb (fr ent z (z.length / 128)) (rest z)
  r6 : w.ownsRow w3.heap.size 23 11 v6 K6.length (ivs K6)
  r7 : w.ownsRow w3.heap.size 3 1 v7 R7.length (R7.map (Value.int .i64))
  n6 : ∀ j, v6.ownBlock = some j → ¬ O j
  n7 : ∀ j, v7.ownBlock = some j → ¬ O j
  up : ∀ t, O t → w3.heap.size ≤ t
  bel : Below w3.heap.size w3 w
section
variable {w3 w w' : World} {p tb : Nat} {z zs R7 : List Int} {K6 : List Rec} {v6 v7 v' : Value} {O O' : Nat → Prop}
theorem RW.below (h : RW w3 p tb z K6 R7 v6 v7 O w) (hb : Below w.heap.size w w') : RW w3 p tb z K6 R7 v6 v7 O w' :=
  ⟨h.wr.below hb, owns_below h.r6 hb, owns_below h.r7 hb, h.n6, h.n7, h.up, h.bel.trans (hb.mono h.bel.size)⟩
theorem RW.apart (h : RW w3 p tb z K6 R7 v6 v7 O w) (k : Nat) (h6 : v6.ownBlock = some k) : v7.ownBlock ≠ some k := fun h7 => by
  obtain ⟨c6, e6⟩ := owns_obj h.r6 h6
  obtain ⟨c7, e7⟩ := owns_obj h.r7 h7
  rw [e6] at e7
  injection e7 with e8
  injection e8 with _ e9 _
  exact absurd e9 (by decide)
theorem RW.one (h : RW w3 p tb z K6 R7 v6 v7 O w) (K : Rec) (hg : w.grownBy w' v6.ownBlock) (ho : w'.ownsRow w3.heap.size 23 11 v' (K6.length + 1) (ivs K6 ++ (iv K).toList)) (hl : v'.ownBlock = v6.ownBlock ∨ v'.ownBlock = some w.heap.size) :
    RW w3 p tb z (K6 ++ [K]) R7 v' v7 O w' := by
  have f : Fr (fun j => v6.ownBlock = some j) w w' := Fr.of_grown hg (fun k hk => hk)
  refine ⟨h.wr.fr f (fun k hk hx => h.n6 k hx hk), ?_, owns_fr h.r7 f (fun k hk hx => h.apart k hx hk), fun j hj hx => ?_, h.n7, h.up, h.bel.trans (grown_below h.bel.size h.r6 hg)⟩
  · rw [ivs_append, ivs_one, List.length_append]; exact ho
  · rcases hl with hl | hl
    · rw [hl] at hj; exact h.n6 j hj hx
    · rw [hl] at hj
      have := h.wr.olt j hx
      cases hj; omega
theorem RW.add (h : RW w3 p tb z K6 R7 v6 v7 O w) (hW : WrM w' p O' tb (fr ent (z ++ zs) ((z ++ zs).length / 128)) (rest (z ++ zs))) (hF : Fr O w w') (hG : Gr O O' w) : RW w3 p tb (z ++ zs) K6 R7 v6 v7 O' w' := by
  refine ⟨hW, owns_fr h.r6 hF h.n6, owns_fr h.r7 hF h.n7, fun j hj hx => ?_, fun j hj hx => ?_, fun t ht => ?_, h.bel.trans (hF.below _ h.bel.size h.up)⟩
  · rcases hG j hx with hx | hx
    · exact h.n6 j hj hx
    · have := (h.r6.lt j hj).2; omega
  · rcases hG j hx with hx | hx
    · exact h.n7 j hj hx
    · have := (h.r7.lt j hj).2; omega
  · rcases hG t ht with hx | hx
    · exact h.up t hx
    · have := h.bel.size; omega
theorem RW.ref (h : RW w3 p tb z K6 R7 v6 v7 O w) (x : Int) (hg : w.grownBy w' v7.ownBlock) (ho : w'.ownsRow w3.heap.size 3 1 v' (R7.length + 1) (R7.map (Value.int .i64) ++ [.int .i64 x])) (hl : v'.ownBlock = v7.ownBlock ∨ v'.ownBlock = some w.heap.size) :
    RW w3 p tb z K6 (R7 ++ [x]) v6 v' O w' := by
  have f : Fr (fun j => v7.ownBlock = some j) w w' := Fr.of_grown hg (fun k hk => hk)
  refine ⟨h.wr.fr f (fun k hk hx => h.n7 k hx hk), owns_fr h.r6 f (fun k hk hx => h.apart k hk hx), ?_, h.n6, fun j hj hx => ?_, h.up, h.bel.trans (grown_below h.bel.size h.r7 hg)⟩
  · rw [List.map_append, List.length_append]; exact ho
  · rcases hl with hl | hl
    · rw [hl] at hj; exact h.n7 j hj hx
    · rw [hl] at hj
      have := h.wr.olt j hx
      cases hj; omega
end
end Ino
set_option maxHeartbeats 4000000 in
theorem rows_walk (a0 : Option Addr) (len0 cap0 : Nat) (O0 : Nat → Rec) (w : World) (f0 : InosB w a0 len0 cap0 O0) :
    Calls Try.prog 7 #[.slice a0 len0 cap0] w fun e w' => e = .returned (.bool true) ∧ Below w.heap.size w w' := by
  obtain ⟨hz, hi'⟩ := zero_of_info infoTable
  obtain ⟨i0, hi, hz0, hz1, hz2⟩ := info_parts infoByte
  obtain ⟨ii, hii, hx0, hx1, hx2⟩ := info_parts infoInts
  obtain ⟨ir, hir, hy0, hy1, hy2⟩ := info_parts infoRecs
  have HI := hide f0
  have hl0 := f0.1
  clear f0
  go_enter Try.func7, Try.ntmps7
  go_wp2_with fail
  refine (shown_any w).mono ?_
  rintro r ws ⟨rfl, bs0⟩
  go_wp2_with fail
  refine (New_any ws).mono ?_
  rintro r w2 ⟨rfl, b2⟩
  obtain ⟨C, hC⟩ : ∃ C, C = Go.Proofs.Ytmhgjilpgbkaaaa.tab ent := ⟨_, rfl⟩
  rw [← hC]
  have HC := hide hC
  clear hC
  go_wp2_with (refine wpList_store_table rfl _ _ rfl ent C HC.out rfl rfl _ (by simp) ?_; intro w3 ht3 hT3 hlt3 hb3)
  have b3 : Below w.heap.size w w3 := (bs0.trans (b2.mono bs0.size)).trans (hb3.mono (Nat.le_trans bs0.size b2.size))
  have HB3 := hide b3
  have HT3 := hide hT3
  clear ht3 hT3 hb3 b2 bs0 b3 HC
  refine (metaNew_any w2.heap.size w3).mono ?_
  rintro r w4 ⟨rfl, hW4, hb4, hs4⟩
  obtain ⟨wS, hwS⟩ : ∃ wS, wS = (w4.alloc (.cells #[] 23)).alloc (.cells #[] 3) := ⟨_, rfl⟩
  have hbA : Below w4.heap.size w4 (w4.alloc (.cells #[] 23)) := below_one _ _
  have hbS : Below (w4.alloc (.cells #[] 23)).heap.size (w4.alloc (.cells #[] 23)) wS := by rw [hwS]; exact below_one _ _
  have hb4S : Below w4.heap.size w4 wS := hbA.trans (hbS.mono hbA.size)
  have HR0 : Hid (RW w3 w3.heap.size w2.heap.size (zsK []) [] (refK []) (.slice (some ⟨w4.heap.size, 0, none⟩) 0 0) (.slice (some ⟨w4.heap.size + 1, 0, none⟩) 0 0) (fun k => k = w3.heap.size) wS) := by
    refine ⟨hW4.below hb4S, owns_below (emptyR (w := w4) (by omega)) hbS, ?_, fun j hj hx => ?_, fun j hj hx => ?_, fun t ht => Nat.le_of_eq (Eq.symm ht), hb4.trans (hb4S.mono hb4.size)⟩
    · have := emptyR (w := w4.alloc (.cells #[] 23)) (B := w3.heap.size) (t := 3) (size := 1) (by simp; omega)
      rw [← hwS, show (w4.alloc (.cells #[] 23)).heap.size = w4.heap.size + 1 by simp] at this
      exact this
    · simp [Value.ownBlock] at hj
      have : j = w3.heap.size := hx
      omega
    · simp [Value.ownBlock] at hj
      have : j = w3.heap.size := hx
      omega
  have HwS := hide hwS
  have h34 : w3.heap.size < w4.heap.size := by omega
  clear hW4 hb4 hbA hbS hb4S hwS hz hi' hs4
  go_wp2_with fail
  rw [← HwS.out]
  go_loopw [6, 7, 8] (fun s6 s7 s8 wr => ∃ (i : Nat) (Ks : List Rec) (O : Nat → Prop) (ao6 ao7 : Option Addr) (c6 c7 : Nat), s6 = .slice ao6 Ks.length c6 ∧ s7 = .slice ao7 Ks.length c7 ∧ s8 = .int .i64 i ∧ i ≤ 20 ∧ Ks.length ≤ i ∧ (∀ K ∈ Ks, K.may = true) ∧ RW w3 w3.heap.size w2.heap.size (zsK Ks) Ks (refK Ks) (.slice ao6 Ks.length c6) (.slice ao7 Ks.length c7) O wr) (fun _ _ s8 _ => 20 - (intOf s8).toNat)
  case atStart => exact ⟨0, [], _, _, _, 0, 0, rfl, rfl, rfl, by omega, by simp, fun K hK => by simp at hK, HR0.out⟩
  case round =>
    clear HR0 HwS
    obtain ⟨i, Ks, O, ao6, ao7, c6, c7, rfl, rfl, rfl, hi20, hKi, hMs, hR⟩ := hrel
    have HR := hide hR
    have HMs := hide hMs
    have HTr := hide (HT3.out.below hR.bel hlt3)
    have hsr := hR.bel.size
    have hOt : ¬ O w2.heap.size := fun hx => by have := hR.up _ hx; omega
    have HOt := hide hOt
    have HBr := hide (HB3.out.trans (hR.bel.mono HB3.out.size))
    clear hR hMs hOt
    by_cases hgo : i < len0 ∧ i < 20
    · obtain ⟨b, off, rfl, hbw, hcell, hIn⟩ : ∃ b off, a0 = some ⟨b, off, none⟩ ∧ b < w.heap.size ∧ (∀ wq, Below w.heap.size w wq → wq.rangeAt b (off + i * 11) (iv (O0 i)).toList) ∧ (O0 i).In := by
        rcases HI.out.2 with h | ⟨b, off, h1, h2, h3⟩
        · omega
        · exact ⟨b, off, h1, h2, fun wq hq => range_cell (h3 i hgo.1).1 hq h2, (h3 i hgo.1).2.1⟩
      have e1 := hcell wr HBr.out
      have HCe := hide hcell
      generalize O0 i = K at *
      have HP := hide (iPut_any K wr)
      have i1 : (i : Int) < (len0 : Int) := by omega
      have i2 : (i : Int) < 20 := by omega
      have i3 : (0 : Int) ≤ (i : Int) := by omega
      clear hcell hIn
      go_wp2_with (refine wpList_load_rec_at (by rfl) _ rfl b (off + i * 11) rfl K e1 ?_)
      refine HP.out.mono ?_
      rintro r w5 (⟨hm, aoP, cP, rfl, hN⟩ | ⟨hm, rfl, b5⟩)
      rotate_left
      · have HR5 := hide (HR.out.below b5)
        clear hm b5 HP
        go_wp2
        go_roundw
        case rel => exact ⟨i + 1, Ks, O, ao6, ao7, c6, c7, rfl, rfl, by go_num, by omega, by omega, HMs.out, HR5.out⟩
        case measure => simp [intOf]; omega
      · have hb5 := hN.bel
        have hR5 := HR.out.below hb5
        obtain ⟨m, hm2⟩ : ∃ m, m = (putB K).length := ⟨_, rfl⟩
        have hml := putB_least hm
        rw [← hm2] at hN hml
        rw [← hm2]
        have HMm := hide hm
        have HPl := hide hm2
        have HN := hide hN
        have e5 := HCe.out w5 (HBr.out.trans (hb5.mono HBr.out.size))
        obtain ⟨wA, hwA⟩ : ∃ wA, wA = w5.alloc (.cells (iv K) 23) := ⟨_, rfl⟩
        have hbA : Below w5.heap.size w5 wA := by rw [hwA]; exact below_one _ _
        have hRA := hR5.below hbA
        have hA : wA.heap[w5.heap.size]? = some (.cells (iv K) 23 (0, 0)) := by rw [hwA]; exact heap_new rfl
        have HRA := hide hRA
        have HNews : Hid (∀ j u, (iv K).toList[j]? = some u → wA.cell? ((⟨w5.heap.size, 0, none⟩ : Addr).add j) = some u) := fun j u hu => by
          rw [Addr.add_lit, Nat.zero_add, cell_of_row _ _ _ _ _ _ hA]
          simpa using hu
        have HBA : Hid (Bs wA aoP m (putB K)) := hN.bs.below hbA
        have HOne : Hid (∀ u ∈ (iv K).toList, u.oneCell' = true) := by
          have := ivs_ones [K]
          rw [ivs_one] at this
          exact this
        have HWA := hide hwA
        have hAs := hRA.bel.size
        have hwr5 := hb5.size
        have hszK : (iv K).size = 11 := rfl
        have hk6 : (Ks.length + 1) * 96 ≤ 140737488355328 := by omega
        have hk7 : (Ks.length + 1) * 8 ≤ 140737488355328 := by omega
        clear hm hm2 hN hb5 hR5 hbA hRA hA hwA HP e1
        go_wp2_with (first
          | refine wpList_load_rec_at (by rfl) _ rfl b (off + i * 11) rfl K e5 ?_
          | (at_builtin
             rw [fold_iv, ← HWA.out]
             refine wpList_append_own_at _ (by rfl) (.tmp 48) (.tmp 53) 48 (by rfl) w3.heap.size 23 ir (.agg (iv zr)) 11 96 Try.underlying48 hir hy0 hy1 hy2 rfl (by decide) _ Ks.length (ivs Ks) (by rfl) HRA.out.r6 ⟨w5.heap.size, 0, none⟩ 1 1 (iv K).toList (by rfl) rfl HNews.out HOne.out (by unfold maxLen; omega) hk6 hAs ?_
             intro v6 w6 ho6 hg6 _ hl6
             have hR6 := HRA.out.one K hg6 ho6 hl6
             obtain ⟨ao6', c6', rfl⟩ := owns_shape ho6
             have HR6 := hide hR6
             have HB6 : Hid (Bs w6 aoP m (putB K)) := HBA.out.fr (Fr.of_grown hg6 (fun k hk => hk)) (fun a ha _ hx => by have h1 := (HN.out.own a ha).1; have h2 := (HR.out.r6.lt _ hx).2; omega)
             clear ho6 hg6 hl6 hR6))
        have hR6 := HR6.out
        have hs6 := hR6.bel.size
        have hKl := zsK_length HMs.out
        have HAdd := hide (Add_any w3.heap.size w2.heap.size m cP O aoP ent (zsK Ks) (putB K) w6 hR6.wr (HT3.out.below hR6.bel hlt3) (by omega) HOt.out small_ent HB6.out HN.out.nil (by omega) (by omega))
        clear hR6 HBA HNews HOne HRA HWA e5
        refine HAdd.out.mono ?_
        rintro r w7 ⟨rfl, O7, hW7, hF7, hG7⟩
        have hR7 := HR6.out.add hW7 hF7 hG7
        obtain ⟨rn, hrn⟩ : ∃ rn, rn = rf ent (zsK Ks) (zsK Ks).length := ⟨_, rfl⟩
        rw [← hrn]
        obtain ⟨wB, hwB⟩ : ∃ wB, wB = w7.alloc (.cells #[.int .i64 rn] 3) := ⟨_, rfl⟩
        have hbB : Below w7.heap.size w7 wB := by rw [hwB]; exact below_one _ _
        have hRB := hR7.below hbB
        have HRB := hide hRB
        have hBs := hRB.bel.size
        have HWB := hide hwB
        have HRn := hide hrn
        have HNewB : Hid (∀ j u, ([.int .i64 rn] : List Value)[j]? = some u → wB.cell? ((⟨w7.heap.size, 0, none⟩ : Addr).add j) = some u) := by rw [hwB]; exact cell_one_new w7 _ _
        have h7s : wB.heap.size = w7.heap.size + 1 := by rw [hwB]; simp
        have hrl := refK_length Ks
        have HR7o : Hid (wB.ownsRow w3.heap.size 3 1 (.slice ao7 Ks.length c7) Ks.length ((refK Ks).map (Value.int .i64))) := by
          have := hRB.r7
          rw [hrl] at this
          exact this
        clear hW7 hF7 hG7 hR7 hbB hRB hwB hrn HAdd HR6 HB6 h7s hrl hs6
        go_wp2_with (first
          | (at_builtin
             rw [← HWB.out]
             refine wpList_append_own_at _ (by rfl) (.tmp 55) (.tmp 59) 33 (by rfl) w3.heap.size 3 ii (.int .i64 0) 1 8 Try.underlying33 hii hx0 hx1 hx2 rfl (by decide) _ Ks.length _ (by rfl) HR7o.out ⟨w7.heap.size, 0, none⟩ 1 1 [.int .i64 rn] (by rfl) rfl HNewB.out (fun u hu => by simp at hu; subst hu; rfl) (by unfold maxLen; omega) hk7 hBs ?_
             intro v8 w8 ho8 hg8 _ hl8
             obtain ⟨ao8, c8, rfl⟩ := owns_shape ho8
             have hR8 := HRB.out.ref rn hg8 (by rw [refK_length]; exact ho8) hl8
             have HR8 := hide hR8
             clear ho8 hg8 hl8 hR8))
        go_wp2
        go_roundw
        case rel =>
          refine ⟨i + 1, Ks ++ [K], O7, ao6', ao8, c6', c8, by simp, by simp, by go_num, by omega, by simp; omega, fun X hX => ?_, ?_⟩
          · rcases List.mem_append.1 hX with h | h
            · exact HMs.out X h
            · simp at h; rw [h]; exact HMm.out
          · have := HR8.out
            rw [zsK_append, zsK_one, refK_snoc, ← HRn.out, List.length_append]
            exact this
        case measure => simp [intOf]; omega
    · have hexit : (decide ((i : Int) < (len0 : Int)) = false ∧ ¬ i < len0) ∨ ((i : Int) < (len0 : Int) ∧ decide ((i : Int) < 20) = false ∧ (20 : Int) ≤ (i : Int)) := by
        by_cases h1 : i < len0
        · exact .inr ⟨by omega, by simp; omega, by omega⟩
        · exact .inl ⟨by simp; omega, h1⟩
      have hKl := zsK_length HMs.out
      clear hgo
      rcases hexit with ⟨g1, g2⟩ | ⟨g1, g2, g3⟩
      all_goals (
        go_wp2_with (at_make; refine wpList_make_full _ rfl _ _ 25 rfl wr.heap.size 5 i0 (.int .u8 0) 1 Try.underlying25 hi hz0 hz1 _ _ _ _ 20 (by rfl) (by rfl) rfl rfl (by rw [hz2]; omega) (by unfold maxLen; omega) (Nat.le_refl _) ?_; intro wM oM kM)
        rw [half_zero 20 0, show half 20 0 0 = List.replicate 20 0 from rfl] at oM
        have hbM : Below wr.heap.size wr wM := (Below.refl _ wr).grown kM (Nat.le_refl _) (fun k e => by simp at e)
        have hzb : Bytes (List.replicate 20 0) := fun x hx => by simp at hx; omega
        have hBsM := bs_of_owns oM hzb
        have hRM := HR.out.below hbM
        have hsM := hRM.bel.size
        have HAdd := hide (Add_any w3.heap.size w2.heap.size 20 20 O _ ent (zsK Ks) (List.replicate 20 0) wM hRM.wr (HT3.out.below hRM.bel hlt3) (by omega) HOt.out small_ent hBsM (fun h => by simp at h) (by omega) (by omega))
        have HRM := hide hRM
        clear oM kM hbM hBsM hRM g1 g2
        refine HAdd.out.mono ?_
        rintro r wN ⟨rfl, O1, hW1, hF1, hG1⟩
        have hR1 := HRM.out.add hW1 hF1 hG1
        obtain ⟨zz, hzz⟩ : ∃ zz, zz = zsK Ks ++ List.replicate 20 0 := ⟨_, rfl⟩
        rw [← hzz] at hR1
        have HZZ := hide hzz
        have hzl : zz.length ≤ 5000 := by rw [hzz]; simp; omega
        have hzB : Bytes zz := by rw [hzz]; exact (zsK_bytes HMs.out).append hzb
        have hs1 := hR1.bel.size
        have HDn := hide (metaDone_any w3.heap.size w2.heap.size O1 ent zz wN hR1.wr (HT3.out.below hR1.bel hlt3) (by omega) small_ent (by omega))
        have hXb := Mtr.done_bytes ent hzB
        have hXl := Mtr.done_length ent zz
        have HR1 := hide hR1
        clear hW1 hF1 hG1 hR1 HAdd HRM hzz hzB hzb
        obtain ⟨X, hX⟩ : ∃ X, X = done ent zz := ⟨_, rfl⟩
        rw [← hX] at HDn hXb hXl
        have HX := hide hX
        have HXb := hide hXb
        obtain ⟨n, hn⟩ : ∃ n, n = X.length := ⟨_, rfl⟩
        rw [← hn] at HDn hXl
        have HNx := hide hn
        have hnb : n ≤ 10000 := by omega
        clear hX hn hXb hXl hzl
        go_wp2_with fail
        refine HDn.out.mono ?_
        rintro r wD ⟨aoD, cD, rfl, hFD⟩
        have hRD := HR1.out.below hFD.bel
        have HRD := hide hRD
        have hsD := hRD.bel.size
        have HOp := hide (Open_any w2.heap.size n cD aoD X ent wD 0 n hFD.bs hFD.cap hFD.max hFD.nil (by omega) (by omega) (by omega) (by omega))
        clear hFD hRD HDn HR1
        go_wp2_with fail
        refine HOp.out.mono ?_
        rintro r wO ⟨pr, rfl, hRd, bO⟩
        have eX : (X.take ((n : Int)).toNat).drop ((0 : Int)).toNat = X := by
          rw [Int.toNat_natCast, show ((0 : Int)).toNat = 0 from rfl, List.drop_zero, List.take_of_length_le (by rw [HNx.out]; omega)]
        rw [eX] at hRd
        have HRd := hide hRd
        have HBO := hide bO
        have hsO := bO.size
        have HTD := hide (HT3.out.below HRD.out.bel hlt3)
        have HBwD := hide (HB3.out.trans (HRD.out.bel.mono HB3.out.size))
        have hrl := refK_length Ks
        have H7D : Hid (wD.ownsRow w3.heap.size 3 1 (.slice ao7 Ks.length c7) Ks.length ((refK Ks).map (Value.int .i64))) := by
          have := HRD.out.r7
          rw [hrl] at this
          exact this
        clear hRd bO eX HOp
        go_wp2_with fail
        go_loopw [13] (fun s13 wr => ∃ (j : Nat) (O : Nat → Prop), s13 = .int .i64 j ∧ j ≤ Ks.length ∧ RdM wr pr O w2.heap.size ent X (2000 * j) ∧ Below wD.heap.size wD wr ∧ (∀ t, O t → wD.heap.size ≤ t)) (fun s13 _ => Ks.length - (intOf s13).toNat)
        case atStart => exact ⟨0, _, rfl, by omega, HRd.out, HBO.out, fun t ht => ht.1⟩
        case round =>
          clear HRd HBO
          obtain ⟨j, O5', rfl, hjk, hS, hBq, hO5'⟩ := hrel
          by_cases hjl : j < Ks.length
          · obtain ⟨g6, hao6, hg6, hc6⟩ := owns_rec HRD.out.r6 j hjl
            obtain ⟨g7, hao7, hg7, hc7⟩ := owns_int H7D.out j (by rw [hrl]; exact hjl)
            subst hao6 hao7
            have hrf : (refK Ks)[j]'(by rw [hrl]; exact hjl) = rf ent (zsK Ks) (pK Ks j) := by
              have h1 := refK_get Ks j hjl
              rw [List.getElem?_eq_getElem (by rw [hrl]; exact hjl)] at h1
              exact Option.some.inj h1
            rw [hrf] at hc7
            have hra := readA_row HMs.out (List.replicate 20 0) j hjl
            rw [← HZZ.out, ← HX.out] at hra
            have hrb := rf_bd ent (zsK Ks) (pK Ks j)
            have hpl := pK_le Ks j
            have h20 : Ks.length ≤ 20 := by omega
            have HC7n : Hid (∀ (h : j + 1 < Ks.length) wX, Below wD.heap.size wD wX → wX.cell? ⟨g7, j + 1, none⟩ = some (.int .i64 (rf ent (zsK Ks) (pK Ks (j + 1))))) := fun h wX hb => by
              obtain ⟨g7', hao', hg7', hc7'⟩ := owns_int H7D.out (j + 1) (by rw [hrl]; exact h)
              obtain rfl : g7 = g7' := by simpa using hao'
              rw [hb.cell (p := ⟨g7, j + 1, none⟩) hg7, hc7']
              have h1 := refK_get Ks (j + 1) h
              rw [List.getElem?_eq_getElem (by rw [hrl]; exact h)] at h1
              rw [Option.some.inj h1]
            generalize rf ent (zsK Ks) (pK Ks j) = ref at *
            generalize rf ent (zsK Ks) (pK Ks (j + 1)) = nx at *
            generalize hAA : Ks[j] = A at *
            have e7 : wr.cell? ⟨g7, j, none⟩ = some (.int .i64 ref) := (hBq.cell (p := ⟨g7, j, none⟩) hg7).trans hc7
            have hsq := hBq.size
            have HRe := hide (iRead_any pr w2.heap.size (2000 * j) O5' X ref wr hS (HTD.out.below hBq (by omega)) (by omega) (fun hx => by have := hO5' _ hx; omega) HXb.out (by omega) (by rw [← HNx.out]; omega) (by omega))
            rw [hra] at HRe
            unfold IReads at HRe
            simp only at HRe
            have HBq := hide hBq
            have HO5' := hide hO5'
            have HC6D := hide hc6
            have hEq := equal_rec A
            have hgd : Try.prog.eqGuardType Try.prog.depth 23 = false := by kernel_rfl
            have hgd2 : ∀ (w : World) (x y : Operand) (a b : Array Value), (eqGuard .neq 23 x y (.agg a) (.agg b)).run Try.prog w = .ok () w := fun w x y a b => by simp [eqGuard, hgd]
            have j0 : (0 : Int) ≤ (j : Int) := by omega
            have j1 : (j : Int) < (Ks.length : Int) := by omega
            clear hS hBq hO5' hc6 hc7 hra hrf hrb hpl hAA
            go_wp2_with fail
            refine HRe.out.mono ?_
            rintro r w5 ⟨rfl, O5, hS5, hF5, hG5⟩
            have b5 : Below wD.heap.size wD w5 := HBq.out.trans (hF5.below wD.heap.size HBq.out.size (fun k hk => HO5'.out k hk))
            have o5 : ∀ t, O5 t → wD.heap.size ≤ t := fun t ht => by
              rcases hG5 t ht with h | h
              · exact HO5'.out t h
              · omega
            obtain ⟨w6, hw6⟩ : ∃ w6, w6 = w5.alloc (.cells (iv A) 23) := ⟨_, rfl⟩
            have b56 : Below w5.heap.size w5 w6 := by rw [hw6]; exact below_one _ _
            have b6 : Below wD.heap.size wD w6 := b5.trans (b56.mono b5.size)
            have hx6 : w6.heap[w5.heap.size]? = some (.cells (iv A) 23 (0, 0)) := by rw [hw6]; exact heap_new rfl
            have HX6 : Hid (∀ wX, Below w6.heap.size w6 wX → wX.heap[w5.heap.size]? = some (.cells (iv A) 23 (0, 0))) := fun wX h => (h.block _ (heap_lt hx6)).trans hx6
            have HC6 : Hid (∀ wX, Below w6.heap.size w6 wX → wX.rangeAt g6 (j * 11) (iv A).toList) := fun wX h => range_cell HC6D.out (b6.trans (h.mono b6.size)) hg6
            have HR6 := hide (hS5.below b56)
            have HB6 := hide b6
            have HO5 := hide o5
            have HW6 := hide hw6
            clear hS5 hF5 hG5 b5 o5 hw6 b56 hx6 HRe e7
            by_cases hlast : j + 1 < Ks.length
            · have HC7 : Hid (∀ wX, Below w6.heap.size w6 wX → wX.cell? ⟨g7, j + 1, none⟩ = some (.int .i64 nx)) := fun wX h => HC7n.out hlast wX (b6.trans (h.mono b6.size))
              have k1 : (j : Int) + 1 < (Ks.length : Int) := by omega
              have k2 : IntKind.i64.wrap ((j : Int) + 1) = (j : Int) + 1 := by rw [IntKind.wrap_i64]; omega
              have k3 : (0 : Int) ≤ (j : Int) + 1 := by omega
              have k4 : ((j : Int) + 1).toNat = j + 1 := by omega
              have k5 : decide ((j : Int) + 1 < (Ks.length : Int)) = true := by simp; omega
              have q1 : (nx != nx) = false := by simp
              clear b6 HC7n
              go_wp2_with (refine wpList_store_row rfl _ _ _ rfl w5.heap.size (iv A) rfl rfl 23 _ (heap_alloc_new w5 _) infoRec rfl (iv_one _) ?_; rw [World.setRow_alloc_new, ← HW6.out])
              refine wp_region_held_drew (S := fun wX => Below w6.heap.size w6 wX) (by kernel_rfl) (Below.refl _ _).drew (fun hHeld => ?_)
              refine wpAnyH_take (i := 0) (oi := ⟨some 88, _, _, _, _, _⟩) (v := .agg (iv A)) rfl (by kernel_rfl) (by kernel_rfl) (by kernel_rfl) (fun _ _ _ h => h) (yieldsIf_load_row (by rfl) _ _ rfl w5.heap.size rfl (iv A) (fun w' h' => load_rec (HX6.out w' h') rfl)) (by assumption) ?_
              try simp only [Act.put, List.setIfInBounds_toArray, List.set_cons_zero, List.set_cons_succ]
              refine wpAnyH_take (i := 1) (oi := ⟨some 89, _, _, _, _, _⟩) (v := ?_) rfl (by kernel_rfl) (by kernel_rfl) (by kernel_rfl) (fun _ _ _ h => h) (Or.inl ⟨by rfl, ?_⟩) (by assumption) ?_
              rotate_left
              · (intro w hSw; go_simp; try with_reducible rfl)
              try simp only [Act.put, List.setIfInBounds_toArray, List.set_cons_zero, List.set_cons_succ]
              refine wpAnyH_take (i := 2) (oi := ⟨some 90, _, _, _, _, _⟩) (v := ?_) rfl (by kernel_rfl) (by kernel_rfl) (by kernel_rfl) (fun _ _ _ h => h) (Or.inl ⟨by rfl, ?_⟩) (by assumption) ?_
              rotate_left
              · (intro w hSw; go_simp; try with_reducible rfl)
              try simp only [Act.put, List.setIfInBounds_toArray, List.set_cons_zero, List.set_cons_succ]
              refine wpAnyH_take (i := 3) (oi := ⟨some 91, _, _, _, _, _⟩) (v := ?_) rfl (by kernel_rfl) (by kernel_rfl) (by kernel_rfl) (fun _ _ _ h => h) (Or.inl ⟨by rfl, ?_⟩) (by assumption) ?_
              rotate_left
              · (intro w hSw; go_simp; try with_reducible rfl)
              try simp only [Act.put, List.setIfInBounds_toArray, List.set_cons_zero, List.set_cons_succ]
              refine wpAnyH_take (i := 4) (oi := ⟨some 92, _, _, _, _, _⟩) (v := .agg (iv A)) rfl (by kernel_rfl) (by kernel_rfl) (by kernel_rfl) (fun _ _ _ h => h) (yieldsIf_load_mid (by rfl) _ _ rfl g6 (j * 11) rfl (iv A).toList _ (fun w' h' => HC6.out w' h') Try.underlying23 rfl infoRec) (by assumption) ?_
              try simp only [Act.put, List.setIfInBounds_toArray, List.set_cons_zero, List.set_cons_succ]
              refine wpAnyH_take (i := 5) (oi := ⟨some 93, _, _, _, _, _⟩) (v := ?_) rfl (by kernel_rfl) (by kernel_rfl) (by kernel_rfl) (fun _ _ _ h => h) (Or.inl ⟨by rfl, ?_⟩) (by assumption) ?_
              rotate_left
              · (intro w hSw; go_simp; try with_reducible rfl)
              try simp only [Act.put, List.setIfInBounds_toArray, List.set_cons_zero, List.set_cons_succ]
              refine wpAnyH_take (i := 6) (oi := ⟨some 94, _, _, _, _, _⟩) (v := ?_) rfl (by kernel_rfl) (by kernel_rfl) (by kernel_rfl) (fun _ _ _ h => h) (Or.inl ⟨by rfl, ?_⟩) (by assumption) ?_
              rotate_left
              · (intro w hSw; go_simp; try with_reducible rfl)
              try simp only [Act.put, List.setIfInBounds_toArray, List.set_cons_zero, List.set_cons_succ]
              refine wpAnyH_take (i := 7) (oi := ⟨some 95, _, _, _, _, _⟩) (v := ?_) rfl (by kernel_rfl) (by kernel_rfl) (by kernel_rfl) (fun _ _ _ h => h) (Or.inl ⟨by rfl, ?_⟩) (by assumption) ?_
              rotate_left
              · (intro w hSw; go_simp; try with_reducible rfl)
              try simp only [Act.put, List.setIfInBounds_toArray, List.set_cons_zero, List.set_cons_succ]
              refine wpAnyH_take (i := 8) (oi := ⟨some 96, _, _, _, _, _⟩) (v := ?_) rfl (by kernel_rfl) (by kernel_rfl) (by kernel_rfl) (fun _ _ _ h => h) (Or.inl ⟨by rfl, ?_⟩) (by assumption) ?_
              rotate_left
              · (intro w hSw; go_simp; try with_reducible rfl)
              try simp only [Act.put, List.setIfInBounds_toArray, List.set_cons_zero, List.set_cons_succ]
              refine wpAnyH_take (i := 9) (oi := ⟨some 97, _, _, _, _, _⟩) (v := ?_) rfl (by kernel_rfl) (by kernel_rfl) (by kernel_rfl) (fun _ _ _ h => h) (Or.inl ⟨by rfl, ?_⟩) (by assumption) ?_
              rotate_left
              · (intro w hSw; go_simp; try with_reducible rfl)
              try simp only [Act.put, List.setIfInBounds_toArray, List.set_cons_zero, List.set_cons_succ]
              refine wpAnyH_take (i := 10) (oi := ⟨some 98, _, _, _, _, _⟩) (v := ?_) rfl (by kernel_rfl) (by kernel_rfl) (by kernel_rfl) (fun _ _ _ h => h) (Or.inl ⟨by rfl, ?_⟩) (by assumption) ?_
              rotate_left
              · (intro w hSw; go_simp; try with_reducible rfl)
              try simp only [Act.put, List.setIfInBounds_toArray, List.set_cons_zero, List.set_cons_succ]
              refine wpAnyH_take (i := 11) (oi := ⟨some 99, _, _, _, _, _⟩) (v := ?_) rfl (by kernel_rfl) (by kernel_rfl) (by kernel_rfl) (fun _ _ _ h => h) (Or.inl ⟨by rfl, ?_⟩) (by assumption) ?_
              rotate_left
              · (intro w hSw; go_simp; try with_reducible rfl)
              try simp only [Act.put, List.setIfInBounds_toArray, List.set_cons_zero, List.set_cons_succ]
              refine wpAnyH_take (i := 12) (oi := ⟨some 100, _, _, _, _, _⟩) (v := ?_) rfl (by kernel_rfl) (by kernel_rfl) (by kernel_rfl) (fun _ _ _ h => h) (Or.inl ⟨by rfl, ?_⟩) (by assumption) ?_
              rotate_left
              · (intro w hSw; go_simp; try with_reducible rfl)
              try simp only [Act.put, List.setIfInBounds_toArray, List.set_cons_zero, List.set_cons_succ]
              refine wpAnyH_take (i := 13) (oi := ⟨some 101, _, _, _, _, _⟩) (v := ?_) rfl (by kernel_rfl) (by kernel_rfl) (by kernel_rfl) (fun _ _ _ h => h) (Or.inl ⟨by rfl, ?_⟩) (by assumption) ?_
              rotate_left
              · (intro w hSw; go_simp; try with_reducible rfl)
              try simp only [Act.put, List.setIfInBounds_toArray, List.set_cons_zero, List.set_cons_succ]
              refine wpAnyH_take (i := 14) (oi := ⟨some 102, _, _, _, _, _⟩) (v := ?_) rfl (by kernel_rfl) (by kernel_rfl) (by kernel_rfl) (fun _ _ _ h => h) (Or.inl ⟨by rfl, ?_⟩) (by assumption) ?_
              rotate_left
              · (intro w hSw; go_simp; try with_reducible rfl)
              try simp only [Act.put, List.setIfInBounds_toArray, List.set_cons_zero, List.set_cons_succ]
              refine wpAnyH_take (i := 15) (oi := ⟨some 103, _, _, _, _, _⟩) (v := ?_) rfl (by kernel_rfl) (by kernel_rfl) (by kernel_rfl) (fun _ _ _ h => h) (Or.inl ⟨by rfl, ?_⟩) (by assumption) ?_
              rotate_left
              · (intro w hSw; go_simp; try with_reducible rfl)
              try simp only [Act.put, List.setIfInBounds_toArray, List.set_cons_zero, List.set_cons_succ]
              refine wpAnyH_take (i := 16) (oi := ⟨some 104, _, _, _, _, _⟩) (v := ?_) rfl (by kernel_rfl) (by kernel_rfl) (by kernel_rfl) (fun _ _ _ h => h) (Or.inl ⟨by rfl, ?_⟩) (by assumption) ?_
              rotate_left
              · (intro w hSw; go_simp; try with_reducible rfl)
              try simp only [Act.put, List.setIfInBounds_toArray, List.set_cons_zero, List.set_cons_succ]
              refine wpAnyH_take (i := 17) (oi := ⟨some 105, _, _, _, _, _⟩) (v := ?_) rfl (by kernel_rfl) (by kernel_rfl) (by kernel_rfl) (fun _ _ _ h => h) (Or.inl ⟨by rfl, ?_⟩) (by assumption) ?_
              rotate_left
              · (intro w hSw; go_simp; try with_reducible rfl)
              try simp only [Act.put, List.setIfInBounds_toArray, List.set_cons_zero, List.set_cons_succ]
              refine wpAnyH_take (i := 18) (oi := ⟨some 106, _, _, _, _, _⟩) (v := ?_) rfl (by kernel_rfl) (by kernel_rfl) (by kernel_rfl) (fun _ _ _ h => h) (Or.inl ⟨by rfl, ?_⟩) (by assumption) ?_
              rotate_left
              · (intro w hSw; go_simp; try with_reducible rfl)
              try simp only [Act.put, List.setIfInBounds_toArray, List.set_cons_zero, List.set_cons_succ]
              refine wpAnyH_take (i := 19) (oi := ⟨some 107, _, _, _, _, _⟩) (v := ?_) rfl (by kernel_rfl) (by kernel_rfl) (by kernel_rfl) (fun _ _ _ h => h) (Or.inl ⟨by rfl, ?_⟩) (by assumption) ?_
              rotate_left
              · (intro w hSw; go_simp; try with_reducible rfl)
              try simp only [Act.put, List.setIfInBounds_toArray, List.set_cons_zero, List.set_cons_succ]
              refine wpAnyH_take (i := 20) (oi := ⟨some 108, _, _, _, _, _⟩) (v := ?_) rfl (by kernel_rfl) (by kernel_rfl) (by kernel_rfl) (fun _ _ _ h => h) (Or.inl ⟨by rfl, ?_⟩) (by assumption) ?_
              rotate_left
              · (intro w hSw; go_simp; try with_reducible rfl)
              try simp only [Act.put, List.setIfInBounds_toArray, List.set_cons_zero, List.set_cons_succ]
              refine wpAnyH_take (i := 21) (oi := ⟨some 109, _, _, _, _, _⟩) (v := ?_) rfl (by kernel_rfl) (by kernel_rfl) (by kernel_rfl) (fun _ _ _ h => h) (Or.inl ⟨by rfl, ?_⟩) (by assumption) ?_
              rotate_left
              · (intro w hSw; go_simp; try with_reducible rfl)
              try simp only [Act.put, List.setIfInBounds_toArray, List.set_cons_zero, List.set_cons_succ]
              refine wpAnyH_take (i := 22) (oi := ⟨some 110, _, _, _, _, _⟩) (v := ?_) rfl (by kernel_rfl) (by kernel_rfl) (by kernel_rfl) (fun _ _ _ h => h) (Or.inl ⟨by rfl, ?_⟩) (by assumption) ?_
              rotate_left
              · (intro w hSw; have ck := HC7.out w hSw; go_simp; try with_reducible rfl)
              try simp only [Act.put, List.setIfInBounds_toArray, List.set_cons_zero, List.set_cons_succ]
              refine wpAnyH_take (i := 23) (oi := ⟨some 111, _, _, _, _, _⟩) (v := ?_) rfl (by kernel_rfl) (by kernel_rfl) (by kernel_rfl) (fun _ _ _ h => h) (Or.inl ⟨by rfl, ?_⟩) (by assumption) ?_
              rotate_left
              · (intro w hSw; go_simp; try with_reducible rfl)
              try simp only [Act.put, List.setIfInBounds_toArray, List.set_cons_zero, List.set_cons_succ]
              refine wpAnyH_take (i := 24) (oi := ⟨some 112, _, _, _, _, _⟩) (v := ?_) rfl (by kernel_rfl) (by kernel_rfl) (by kernel_rfl) (fun _ _ _ h => h) (Or.inl ⟨by rfl, ?_⟩) (by assumption) ?_
              rotate_left
              · (intro w hSw; go_simp; try with_reducible rfl)
              try simp only [Act.put, List.setIfInBounds_toArray, List.set_cons_zero, List.set_cons_succ]
              refine wpAnyH_take (i := 25) (oi := ⟨some 113, _, _, _, _, _⟩) (v := ?_) rfl (by kernel_rfl) (by kernel_rfl) (by kernel_rfl) (fun _ _ _ h => h) (Or.inl ⟨by rfl, ?_⟩) (by assumption) ?_
              rotate_left
              · (intro w hSw; go_simp; try with_reducible rfl)
              try simp only [Act.put, List.setIfInBounds_toArray, List.set_cons_zero, List.set_cons_succ]
              refine wpAnyH_done (by kernel_rfl) ?_ _
              have HRx := hide (HR6.out.below ((Below.refl _ w6).drew))
              have HBx : Hid (Below wD.heap.size wD w6.drew) := HB6.out.drew
              clear hHeld
              go_wp2
              go_roundw
              case rel => exact ⟨j + 1, O5, by go_num, by omega, by rw [Nat.mul_add]; exact HRx.out, HBx.out, HO5.out⟩
              case measure => simp [intOf]; omega
            · have k1 : decide ((j : Int) + 1 < (Ks.length : Int)) = false := by simp; omega
              have k2 : IntKind.i64.wrap ((j : Int) + 1) = (j : Int) + 1 := by rw [IntKind.wrap_i64]; omega
              have k3 : ¬ j + 1 < Ks.length := hlast
              clear b6 HC7n
              go_wp2_with (refine wpList_store_row rfl _ _ _ rfl w5.heap.size (iv A) rfl rfl 23 _ (heap_alloc_new w5 _) infoRec rfl (iv_one _) ?_; rw [World.setRow_alloc_new, ← HW6.out])
              refine wp_region_held_drew (S := fun wX => Below w6.heap.size w6 wX) (by kernel_rfl) (Below.refl _ _).drew (fun hHeld => ?_)
              refine wpAnyH_take (i := 0) (oi := ⟨some 88, _, _, _, _, _⟩) (v := .agg (iv A)) rfl (by kernel_rfl) (by kernel_rfl) (by kernel_rfl) (fun _ _ _ h => h) (yieldsIf_load_row (by rfl) _ _ rfl w5.heap.size rfl (iv A) (fun w' h' => load_rec (HX6.out w' h') rfl)) (by assumption) ?_
              try simp only [Act.put, List.setIfInBounds_toArray, List.set_cons_zero, List.set_cons_succ]
              refine wpAnyH_take (i := 1) (oi := ⟨some 89, _, _, _, _, _⟩) (v := ?_) rfl (by kernel_rfl) (by kernel_rfl) (by kernel_rfl) (fun _ _ _ h => h) (Or.inl ⟨by rfl, ?_⟩) (by assumption) ?_
              rotate_left
              · (intro w hSw; go_simp; try with_reducible rfl)
              try simp only [Act.put, List.setIfInBounds_toArray, List.set_cons_zero, List.set_cons_succ]
              refine wpAnyH_take (i := 2) (oi := ⟨some 90, _, _, _, _, _⟩) (v := ?_) rfl (by kernel_rfl) (by kernel_rfl) (by kernel_rfl) (fun _ _ _ h => h) (Or.inl ⟨by rfl, ?_⟩) (by assumption) ?_
              rotate_left
              · (intro w hSw; go_simp; try with_reducible rfl)
              try simp only [Act.put, List.setIfInBounds_toArray, List.set_cons_zero, List.set_cons_succ]
              refine wpAnyH_take (i := 3) (oi := ⟨some 91, _, _, _, _, _⟩) (v := ?_) rfl (by kernel_rfl) (by kernel_rfl) (by kernel_rfl) (fun _ _ _ h => h) (Or.inl ⟨by rfl, ?_⟩) (by assumption) ?_
              rotate_left
              · (intro w hSw; go_simp; try with_reducible rfl)
              try simp only [Act.put, List.setIfInBounds_toArray, List.set_cons_zero, List.set_cons_succ]
              refine wpAnyH_take (i := 4) (oi := ⟨some 92, _, _, _, _, _⟩) (v := .agg (iv A)) rfl (by kernel_rfl) (by kernel_rfl) (by kernel_rfl) (fun _ _ _ h => h) (yieldsIf_load_mid (by rfl) _ _ rfl g6 (j * 11) rfl (iv A).toList _ (fun w' h' => HC6.out w' h') Try.underlying23 rfl infoRec) (by assumption) ?_
              try simp only [Act.put, List.setIfInBounds_toArray, List.set_cons_zero, List.set_cons_succ]
              refine wpAnyH_take (i := 5) (oi := ⟨some 93, _, _, _, _, _⟩) (v := ?_) rfl (by kernel_rfl) (by kernel_rfl) (by kernel_rfl) (fun _ _ _ h => h) (Or.inl ⟨by rfl, ?_⟩) (by assumption) ?_
              rotate_left
              · (intro w hSw; go_simp; try with_reducible rfl)
              try simp only [Act.put, List.setIfInBounds_toArray, List.set_cons_zero, List.set_cons_succ]
              refine wpAnyH_take (i := 6) (oi := ⟨some 94, _, _, _, _, _⟩) (v := ?_) rfl (by kernel_rfl) (by kernel_rfl) (by kernel_rfl) (fun _ _ _ h => h) (Or.inl ⟨by rfl, ?_⟩) (by assumption) ?_
              rotate_left
              · (intro w hSw; go_simp; try with_reducible rfl)
              try simp only [Act.put, List.setIfInBounds_toArray, List.set_cons_zero, List.set_cons_succ]
              refine wpAnyH_take (i := 7) (oi := ⟨some 95, _, _, _, _, _⟩) (v := ?_) rfl (by kernel_rfl) (by kernel_rfl) (by kernel_rfl) (fun _ _ _ h => h) (Or.inl ⟨by rfl, ?_⟩) (by assumption) ?_
              rotate_left
              · (intro w hSw; go_simp; try with_reducible rfl)
              try simp only [Act.put, List.setIfInBounds_toArray, List.set_cons_zero, List.set_cons_succ]
              refine wpAnyH_take (i := 8) (oi := ⟨some 96, _, _, _, _, _⟩) (v := ?_) rfl (by kernel_rfl) (by kernel_rfl) (by kernel_rfl) (fun _ _ _ h => h) (Or.inl ⟨by rfl, ?_⟩) (by assumption) ?_
              rotate_left
              · (intro w hSw; go_simp; try with_reducible rfl)
              try simp only [Act.put, List.setIfInBounds_toArray, List.set_cons_zero, List.set_cons_succ]
              refine wpAnyH_take (i := 9) (oi := ⟨some 97, _, _, _, _, _⟩) (v := ?_) rfl (by kernel_rfl) (by kernel_rfl) (by kernel_rfl) (fun _ _ _ h => h) (Or.inl ⟨by rfl, ?_⟩) (by assumption) ?_
              rotate_left
              · (intro w hSw; go_simp; try with_reducible rfl)
              try simp only [Act.put, List.setIfInBounds_toArray, List.set_cons_zero, List.set_cons_succ]
              refine wpAnyH_take (i := 10) (oi := ⟨some 98, _, _, _, _, _⟩) (v := ?_) rfl (by kernel_rfl) (by kernel_rfl) (by kernel_rfl) (fun _ _ _ h => h) (Or.inl ⟨by rfl, ?_⟩) (by assumption) ?_
              rotate_left
              · (intro w hSw; go_simp; try with_reducible rfl)
              try simp only [Act.put, List.setIfInBounds_toArray, List.set_cons_zero, List.set_cons_succ]
              refine wpAnyH_take (i := 11) (oi := ⟨some 99, _, _, _, _, _⟩) (v := ?_) rfl (by kernel_rfl) (by kernel_rfl) (by kernel_rfl) (fun _ _ _ h => h) (Or.inl ⟨by rfl, ?_⟩) (by assumption) ?_
              rotate_left
              · (intro w hSw; go_simp; try with_reducible rfl)
              try simp only [Act.put, List.setIfInBounds_toArray, List.set_cons_zero, List.set_cons_succ]
              refine wpAnyH_take (i := 12) (oi := ⟨some 100, _, _, _, _, _⟩) (v := ?_) rfl (by kernel_rfl) (by kernel_rfl) (by kernel_rfl) (fun _ _ _ h => h) (Or.inl ⟨by rfl, ?_⟩) (by assumption) ?_
              rotate_left
              · (intro w hSw; go_simp; try with_reducible rfl)
              try simp only [Act.put, List.setIfInBounds_toArray, List.set_cons_zero, List.set_cons_succ]
              refine wpAnyH_take (i := 13) (oi := ⟨some 101, _, _, _, _, _⟩) (v := ?_) rfl (by kernel_rfl) (by kernel_rfl) (by kernel_rfl) (fun _ _ _ h => h) (Or.inl ⟨by rfl, ?_⟩) (by assumption) ?_
              rotate_left
              · (intro w hSw; go_simp; try with_reducible rfl)
              try simp only [Act.put, List.setIfInBounds_toArray, List.set_cons_zero, List.set_cons_succ]
              refine wpAnyH_take (i := 14) (oi := ⟨some 102, _, _, _, _, _⟩) (v := ?_) rfl (by kernel_rfl) (by kernel_rfl) (by kernel_rfl) (fun _ _ _ h => h) (Or.inl ⟨by rfl, ?_⟩) (by assumption) ?_
              rotate_left
              · (intro w hSw; go_simp; try with_reducible rfl)
              try simp only [Act.put, List.setIfInBounds_toArray, List.set_cons_zero, List.set_cons_succ]
              refine wpAnyH_take (i := 15) (oi := ⟨some 103, _, _, _, _, _⟩) (v := ?_) rfl (by kernel_rfl) (by kernel_rfl) (by kernel_rfl) (fun _ _ _ h => h) (Or.inl ⟨by rfl, ?_⟩) (by assumption) ?_
              rotate_left
              · (intro w hSw; go_simp; try with_reducible rfl)
              try simp only [Act.put, List.setIfInBounds_toArray, List.set_cons_zero, List.set_cons_succ]
              refine wpAnyH_take (i := 16) (oi := ⟨some 104, _, _, _, _, _⟩) (v := ?_) rfl (by kernel_rfl) (by kernel_rfl) (by kernel_rfl) (fun _ _ _ h => h) (Or.inl ⟨by rfl, ?_⟩) (by assumption) ?_
              rotate_left
              · (intro w hSw; go_simp; try with_reducible rfl)
              try simp only [Act.put, List.setIfInBounds_toArray, List.set_cons_zero, List.set_cons_succ]
              refine wpAnyH_take (i := 17) (oi := ⟨some 105, _, _, _, _, _⟩) (v := undef) rfl (by kernel_rfl) (by kernel_rfl) (by kernel_rfl) (fun _ _ _ h => h) (Or.inr ⟨by rfl, rfl⟩) (by assumption) ?_
              try simp only [Act.put, List.setIfInBounds_toArray, List.set_cons_zero, List.set_cons_succ]
              refine wpAnyH_take (i := 18) (oi := ⟨some 106, _, _, _, _, _⟩) (v := undef) rfl (by kernel_rfl) (by kernel_rfl) (by kernel_rfl) (fun _ _ _ h => h) (Or.inr ⟨by rfl, rfl⟩) (by assumption) ?_
              try simp only [Act.put, List.setIfInBounds_toArray, List.set_cons_zero, List.set_cons_succ]
              refine wpAnyH_take (i := 19) (oi := ⟨some 107, _, _, _, _, _⟩) (v := undef) rfl (by kernel_rfl) (by kernel_rfl) (by kernel_rfl) (fun _ _ _ h => h) (Or.inr ⟨by rfl, rfl⟩) (by assumption) ?_
              try simp only [Act.put, List.setIfInBounds_toArray, List.set_cons_zero, List.set_cons_succ]
              refine wpAnyH_take (i := 20) (oi := ⟨some 108, _, _, _, _, _⟩) (v := undef) rfl (by kernel_rfl) (by kernel_rfl) (by kernel_rfl) (fun _ _ _ h => h) (Or.inr ⟨by rfl, rfl⟩) (by assumption) ?_
              try simp only [Act.put, List.setIfInBounds_toArray, List.set_cons_zero, List.set_cons_succ]
              refine wpAnyH_take (i := 21) (oi := ⟨some 109, _, _, _, _, _⟩) (v := undef) rfl (by kernel_rfl) (by kernel_rfl) (by kernel_rfl) (fun _ _ _ h => h) (Or.inr ⟨by rfl, rfl⟩) (by assumption) ?_
              try simp only [Act.put, List.setIfInBounds_toArray, List.set_cons_zero, List.set_cons_succ]
              refine wpAnyH_take (i := 22) (oi := ⟨some 110, _, _, _, _, _⟩) (v := undef) rfl (by kernel_rfl) (by kernel_rfl) (by kernel_rfl) (fun _ _ _ h => h) (Or.inr ⟨by rfl, rfl⟩) (by assumption) ?_
              try simp only [Act.put, List.setIfInBounds_toArray, List.set_cons_zero, List.set_cons_succ]
              refine wpAnyH_take (i := 23) (oi := ⟨some 111, _, _, _, _, _⟩) (v := undef) rfl (by kernel_rfl) (by kernel_rfl) (by kernel_rfl) (fun _ _ _ h => h) (Or.inr ⟨by rfl, rfl⟩) (by assumption) ?_
              try simp only [Act.put, List.setIfInBounds_toArray, List.set_cons_zero, List.set_cons_succ]
              refine wpAnyH_take (i := 24) (oi := ⟨some 112, _, _, _, _, _⟩) (v := ?_) rfl (by kernel_rfl) (by kernel_rfl) (by kernel_rfl) (fun _ _ _ h => h) (Or.inl ⟨by rfl, ?_⟩) (by assumption) ?_
              rotate_left
              · (intro w hSw; go_simp; try with_reducible rfl)
              try simp only [Act.put, List.setIfInBounds_toArray, List.set_cons_zero, List.set_cons_succ]
              refine wpAnyH_take (i := 25) (oi := ⟨some 113, _, _, _, _, _⟩) (v := ?_) rfl (by kernel_rfl) (by kernel_rfl) (by kernel_rfl) (fun _ _ _ h => h) (Or.inl ⟨by rfl, ?_⟩) (by assumption) ?_
              rotate_left
              · (intro w hSw; go_simp; try with_reducible rfl)
              try simp only [Act.put, List.setIfInBounds_toArray, List.set_cons_zero, List.set_cons_succ]
              refine wpAnyH_done (by kernel_rfl) ?_ _
              have HRx := hide (HR6.out.below ((Below.refl _ w6).drew))
              have HBx : Hid (Below wD.heap.size wD w6.drew) := HB6.out.drew
              clear hHeld
              go_wp2
              go_roundw
              case rel => exact ⟨j + 1, O5, by go_num, by omega, by rw [Nat.mul_add]; exact HRx.out, HBx.out, HO5.out⟩
              case measure => simp [intOf]; omega
          · have hje : decide ((j : Int) < (Ks.length : Int)) = false := by simp; omega
            have HBf := hide (HBwD.out.trans (hBq.mono HBwD.out.size))
            clear hS hBq hO5'
            go_wp2
            go_ret
            exact ⟨rfl, HBf.out⟩)
end Go.Proofs.Ytmhgjilpgbkaaaa

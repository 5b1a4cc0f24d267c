/- The walks of the reference's writer's Add and Done. -/
import Derived.Test.YtahbgebnmgnmoaaMetRefW
namespace Go.Proofs.Ytahbgebnmgnmoaa
set_option linter.unusedVariables false
open Go.RowKit Go.Maps
open Lz (g)
open Crc (ent)
open Frm Mtr

set_option maxRecDepth 100000 in
set_option maxHeartbeats 1000000 in
theorem yAdd_any (q n c : Nat) (O : Nat → Prop) (ao : Option Addr) (z zs : List Int) (w : World) (h : WrY w q O (fr ent z (z.length / 128)) (rest z)) (hb : Bs w ao n zs) (hao : ∀ a, ao = some a → 0 < n → ¬ O a.block) (hz : z.length ≤ 100000) (hn : n ≤ 100000) :
    Calls Try.prog 13 #[.pointer (some ⟨q, 0, none⟩), .slice ao n c] w fun r w' => r = .returned (.int .i64 (rf ent z z.length)) ∧ ∃ O', WrY w' q O' (fr ent (z ++ zs) ((z ++ zs).length / 128)) (rest (z ++ zs)) ∧ Fr O w w' ∧ Gr O O' w := by
  have H := hide h
  obtain ⟨fo, fn, fc, ro, rn, rc, h⟩ := h
  have c0 := h.yd.c0
  have c1 := h.yd.c1
  have hfl := fr_length ent z (z.length / 128)
  have hfn := h.f.1
  have hrn := h.r.1
  have hrl := rest_length z
  have hzl := hb.1
  have HRF : Hid (rf ent z z.length = 256 * (fn : Int) + rn) := by
    show rf ent z z.length = _
    unfold rf; omega
  have hfb : fn ≤ 110000 := by omega
  have hrb : rn < 128 := by omega
  have HB := hide hb
  have HAo := hide hao
  rw [HRF.out]
  clear h hb hao hfl hfn hrn hrl HRF
  go_enter Try.func13, Try.ntmps13
  go_wp2_with fail
  go_quiet (fail)
  clear c0 c1
  go_wp2_with fail
  have HQ : Hid (WrY (w.drewN nq) q O (fr ent (z ++ zs.take 0) ((z ++ zs.take 0).length / 128)) (rest (z ++ zs.take 0))) := by
    show WrY _ _ _ _ _
    rw [List.take_zero, List.append_nil]
    exact H.out.fr ((Fr.refl (fun _ => False) w).drewN nq) (fun _ _ => id)
  clear H
  go_loopw [6] (fun s6 wr => ∃ (i : Nat) (O' : Nat → Prop), s6 = .int .i64 i ∧ i ≤ n ∧ WrY wr q O' (fr ent (z ++ zs.take i) ((z ++ zs.take i).length / 128)) (rest (z ++ zs.take i)) ∧ Fr O w wr ∧ Gr O O' w) (fun s6 _ => n - (intOf s6).toNat)
  case atStart => exact ⟨0, O, rfl, by omega, HQ.out, (Fr.refl O w).drewN nq, Gr.refl _ _⟩
  case round =>
    clear HQ
    obtain ⟨i, O2, rfl, hin, hW, hF, hG⟩ := hrel
    have hsz := hF.size
    by_cases hgo : i < n
    · obtain ⟨b, off, hx, hblt, hseg⟩ : ∃ b off, ao = some ⟨b, off, none⟩ ∧ b < w.heap.size ∧ Seg w b off zs := by
        rcases HB.out.2.2 with h | h
        · omega
        · exact h
      subst hx
      have hnO := HAo.out _ rfl (by omega)
      have hcell : wr.cell? ⟨b, off + i, none⟩ = some (.int .u8 (g zs i)) := (hF.cell (q := ⟨b, off + i, none⟩) hblt hnO).trans (hseg i (by omega))
      have HT1 : Hid (z ++ zs.take (i + 1) = (z ++ zs.take i) ++ [g zs i]) := by
        show _ = _
        rw [List.append_assoc]
        congr 1
        rw [Lz.g_lt zs i (by omega), List.take_append_getElem]
      have hxb := HB.out.2.1 i
      have hzi : (z ++ zs.take i).length ≤ 200000 := by rw [List.length_append, List.length_take]; omega
      generalize z ++ zs.take i = Zi at *
      generalize g zs i = x at *
      have HF := hide hF
      have HG := hide hG
      obtain ⟨fo2, fn2, fc2, ro2, rn2, rc2, hy⟩ := hW
      have c1 := hy.yd.c1
      have hql := hy.yd.lt
      have c1b : ∀ o : Obj, (wr.alloc o).cell? ⟨q, 1, none⟩ = some (.slice ro2 rn2 rc2) := fun o => (((Below.refl _ wr).alloc (Nat.le_refl _) o).cell (p := ⟨q, 1, none⟩) hql).trans c1
      have hrn := hy.r.1
      have hrl := rest_length Zi
      have hrb2 : rn2 < 128 := by omega
      have hfl := fr_length ent Zi (Zi.length / 128)
      have hfn := hy.f.1
      have hfb2 : fn2 ≤ 300000 := by omega
      have HY := hide hy
      have hxB : Bytes [x] := fun y hy => by simp at hy; omega
      have hba : Below wr.heap.size wr (wr.alloc (.cells (bv [x]).toArray 5)) := (Below.refl _ _).alloc (Nat.le_refl _) _
      have HBa := hide hba
      have hra : Rw (wr.alloc (.cells (bv [x]).toArray 5)).drew 0 ro2 rn2 rc2 (rest Zi) := hy.r.fr ((Fr.of_below (S := fun _ => False) hba).drew) (fun _ _ => id)
      have hsa : Bs (wr.alloc (.cells (bv [x]).toArray 5)).drew (some ⟨wr.heap.size, 0, none⟩) 1 [x] := bs_new wr (0, 0) [x] hxB
      have HRa := hide hra
      have HSa := hide hsa
      have i1 : (i : Int) < (n : Int) := by omega
      have i0 : (0 : Int) ≤ (i : Int) := by omega
      clear hF hG hba hra hsa hy hfn hfl hrl hseg hnO
      go_wp2_with fail
      go_region_law ((refine step_append_rw (wr.alloc (.cells (bv [x]).toArray 5)).drew (by rfl) (.tmp 31) (.tmp 36) (by rfl) 0 ro2 rn2 rc2 (rest Zi) (by rfl) HRa.out (some ⟨wr.heap.size, 0, none⟩) 1 1 [x] (by rfl) HSa.out (fun h => by simp at h) (by omega) (Nat.zero_le _) ?_; intro ao3 k3 w3 hA hg hl; have HX3 := hide (HY.out.more (w1 := (wr.alloc (.cells (bv [x]).toArray 5)).drew) (HBa.out.drew) hA hg hl); have c13 := HX3.out.1.c1; have f13 := HX3.out.1.f 1; clear hA hg hl))
      all_goals (
        obtain ⟨_, O4, hy4, hF4, hG4⟩ := HX3.out
        obtain ⟨w4, hw4⟩ : ∃ w4, w4 = w3.setCell ⟨q, 1, none⟩ (.slice ao3 (rn2 + 1) k3) := ⟨_, rfl⟩
        rw [← hw4] at hy4 hF4
        rw [← hw4]
        clear hw4
        obtain ⟨N3, hN3⟩ : ∃ N3, rn2 + 1 = N3 := ⟨_, rfl⟩
        rw [hN3] at hy4
        rw [hN3]
        have hN3b : N3 ≤ 128 := by omega
        have c14 := hy4.yd.c1
        have HY4 := hide hy4
        have HF4 := hide (HF.out.gr HG.out hF4)
        have HG4 := hide (HG.out.trans hG4 hsz)
        have hs4 := HF4.out.size
        have hl8 := hy4.r.1
        have hrl1 : (rest Zi).length + 1 = N3 := by omega
        clear hy4 hF4 hG4 HX3 HF HG c1 c1b HY HBa HRa HSa c13 f13 hcell hN3 hrn
        by_cases h128 : N3 = 128
        · subst h128
          have HP := hide (add_eq (T := ent) x (z := Zi) hrl1)
          have hk3 : 128 ≤ k3 := HY4.out.r.2.2.1
          have HK := hide (refPut_any 128 k3 ao3 (rest Zi ++ [x]) w4 HY4.out.r.bs hk3 HY4.out.r.nil (by omega))
          have hpl := (put_length (T := ent) (b := rest Zi ++ [x]) (by omega)).2.2
          unfold RPuts at HK
          generalize put ent (rest Zi ++ [x]) = P at *
          obtain ⟨pm, hpm⟩ : ∃ pm, P.length = pm := ⟨_, rfl⟩
          rw [hpm] at HK hpl
          clear hpm
          go_wp2_with fail
          refine HK.out.mono ?_
          rintro r w5 (⟨h, _⟩ | ⟨_, ao5, k5, rfl, hB5, hb5, hn5⟩)
          · omega
          have hy5 := HY4.out.fr (Fr.of_below (S := fun _ => False) hb5) (fun _ _ => id)
          have c05 := hy5.yd.c0
          have HR5 := hide hy5.f
          have HB5 := hide hB5
          have HN5 := hide hn5
          have HBb5 := hide hb5
          clear hy5 hB5 hb5 hn5 HK c14
          go_wp2_with (first
            | (at_builtin; refine wpList_append_rw _ rfl (.tmp 58) (.tmp 59) rfl 0 fo2 fn2 fc2 (fr ent Zi (Zi.length / 128)) rfl HR5.out ao5 pm k5 P rfl HB5.out HN5.out (by omega) (Nat.zero_le _) ?_
               intro ao6 k6 w6 hA hg hl
               have HX6 := hide (HY4.out.framed HBb5.out hA hg hl)
               have c06 := HX6.out.1.c0
               have f06 := HX6.out.1.f 0
               have c16 := (HX6.out.1.set0 ao6 (fn2 + pm) k6).c1
               have f16 := (HX6.out.1.set0 ao6 (fn2 + pm) k6).f 1
               clear hA hg hl))
          go_roundw
          case rel =>
            obtain ⟨_, O6, x1, x2, x3⟩ := HX6.out
            refine ⟨i + 1, O6, by go_num, by omega, ?_, HF4.out.gr HG4.out x2, HG4.out.trans x3 hs4⟩
            rw [HT1.out, HP.out.1, HP.out.2]
            exact x1
          case measure => simp [intOf]; omega
        · have e128 : ((N3 : Int) == 128) = false := by simp; omega
          have HP := hide (add_lt (T := ent) x (z := Zi) (by omega))
          go_wp2
          go_roundw
          case rel =>
            refine ⟨i + 1, O4, by go_num, by omega, ?_, HF4.out, HG4.out⟩
            rw [HT1.out, HP.out.1, HP.out.2]
            exact ⟨_, _, _, _, _, _, HY4.out⟩
          case measure => simp [intOf]; omega)
    · obtain rfl : i = n := by omega
      have HX : Hid (∃ O', WrY wr q O' (fr ent (z ++ zs) ((z ++ zs).length / 128)) (rest (z ++ zs)) ∧ Fr O w wr ∧ Gr O O' w) := by
        refine ⟨O2, ?_, hF, hG⟩
        rw [List.take_of_length_le (by omega)] at hW
        exact hW
      have i1 : decide ((i : Int) < (i : Int)) = false := by simp
      clear hW hF hG
      go_wp2
      go_ret
      exact ⟨rfl, HX.out⟩

set_option maxRecDepth 100000 in
set_option maxHeartbeats 400000 in
theorem yDone_any (q : Nat) (O : Nat → Prop) (z : List Int) (w : World) (h : WrY w q O (fr ent z (z.length / 128)) (rest z)) (hz : z.length ≤ 100000) :
    Calls Try.prog 15 #[.pointer (some ⟨q, 0, none⟩)] w fun r w' => ∃ ao c, r = .returned (.slice ao (done ent z).length c) ∧ Bs w' ao (done ent z).length (done ent z) ∧ Below w.heap.size w w' := by
  obtain ⟨fo, fn, fc, ro, rn, rc, h⟩ := h
  have c0 := h.yd.c0
  have c1 := h.yd.c1
  have hql := h.yd.lt
  have hfl := fr_length ent z (z.length / 128)
  have hfn := h.f.1
  have hrn := h.r.1
  have hrl := rest_length z
  have hfb : fn ≤ 110000 := by omega
  have hrb : rn < 128 := by omega
  have hrc := h.r.2.2.1
  have HF := hide h.f
  have HR := hide h.r
  have hoe := emptyB (w := w) (B := w.heap.size) (Nat.le_refl _)
  have hba : Below w.heap.size w (w.alloc (.cells #[] 5)) := (Below.refl _ _).alloc (Nat.le_refl _) _
  have c0a : (w.alloc (.cells #[] 5)).cell? ⟨q, 0, none⟩ = some (.slice fo fn fc) := (hba.cell (p := ⟨q, 0, none⟩) hql).trans c0
  have hFa : Bs (w.alloc (.cells #[] 5)) fo fn (fr ent z (z.length / 128)) := h.f.bs.below hba
  have HFn := hide h.f.nil
  have HFl : Hid ((fr ent z (z.length / 128)).length = fn) := hfn
  have HFb := hide h.f.2.1
  have hc1 : ∀ w', Below w.heap.size w w' → w'.cell? ⟨q, 1, none⟩ = some (.slice ro rn rc) := fun w' hb => (hb.cell (p := ⟨q, 1, none⟩) hql).trans c1
  have HC1 := hide hc1
  have HK := hide (fun w' (hb : Below w.heap.size w w') => refPut_any rn rc ro (rest z) w' (h.r.bs.below hb) hrc h.r.nil (by omega))
  clear h hfl hfn hrl c0 c1 hba hc1
  by_cases h0 : rn = 0
  · subst h0
    have hnil : rest z = [] := List.eq_nil_of_length_eq_zero hrn
    have HD : Hid (done ent z = fr ent z (z.length / 128)) := done_full ent hnil
    clear hnil hrn HK
    go_enter Try.func15, Try.ntmps15
    go_wp2_with (first
      | (at_builtin; refine wpList_append_bs _ rfl (.tmp 6) (.tmp 10) rfl w.heap.size _ _ _ _ rfl hoe _ _ _ _ rfl hFa HFn.out (by omega) (by simp) ?_
         intro ao1 k1 w1 ho1 hg1
         rw [Nat.zero_add, List.nil_append] at ho1
         have hb1 : Below w.heap.size w w1 := ((Below.refl _ w).alloc (Nat.le_refl _) _).grown hg1 (by simp) (fun k e => (hoe.lt k e).1)
         have c11 := HC1.out w1 hb1
         have HB1 := hide hb1
         have HO1 := hide ho1
         clear ho1 hg1 hb1))
    go_ret
    refine ⟨ao1, k1, by rw [HD.out, HFl.out]; rfl, ?_, HB1.out⟩
    rw [HD.out, HFl.out]; exact bs_of_owns HO1.out HFb.out
  · have hne : rest z ≠ [] := fun e => by rw [e] at hrn; simp at hrn; omega
    have HD : Hid (done ent z = fr ent z (z.length / 128) ++ put ent (rest z)) := done_part ent hne
    have hpl := (put_length (T := ent) (b := rest z) (by omega)).2.2
    have HPb := hide (put_bytes (T := ent) HR.out.2.1)
    have i0 : (0 : Int) < (rn : Int) := by omega
    unfold RPuts at HK
    generalize put ent (rest z) = P at *
    obtain ⟨pm, hpm⟩ : ∃ pm, P.length = pm := ⟨_, rfl⟩
    rw [hpm] at HK hpl
    have HPm := hide hpm
    clear hpm hne
    go_enter Try.func15, Try.ntmps15
    go_wp2_with (first
      | (at_builtin; refine wpList_append_bs _ rfl (.tmp 6) (.tmp 10) rfl w.heap.size _ _ _ _ rfl hoe _ _ _ _ rfl hFa HFn.out (by omega) (by simp) ?_
         intro ao1 k1 w1 ho1 hg1
         rw [Nat.zero_add, List.nil_append] at ho1
         have hb1 : Below w.heap.size w w1 := ((Below.refl _ w).alloc (Nat.le_refl _) _).grown hg1 (by simp) (fun k e => (hoe.lt k e).1)
         have c11 := HC1.out w1 hb1
         have HB1 := hide hb1
         have HO1 := hide ho1
         clear ho1 hg1 hb1))
    refine (HK.out w1 HB1.out).mono ?_
    rintro r w2 (⟨h, _⟩ | ⟨_, ao2, k2, rfl, hB2, hb2, hn2⟩)
    · omega
    have ho2 := owns_below HO1.out hb2
    have HB2 := hide hB2
    have HN2 := hide hn2
    have hbw : Below w.heap.size w w2 := HB1.out.trans (hb2.mono HB1.out.size)
    have HBw := hide hbw
    have hs2 := hbw.size
    clear hB2 hb2 hn2 HK hbw
    go_wp2_with (first
      | (at_builtin; refine wpList_append_bs _ rfl (.tmp 26) (.tmp 27) rfl w.heap.size _ _ _ _ rfl ho2 _ _ _ P rfl HB2.out HN2.out (by omega) hs2 ?_
         intro ao3 k3 w3 ho3 hg3
         have HB3 := hide (HBw.out.trans (grown_below hs2 ho2 hg3))
         have HO3 := hide ho3
         clear ho3 hg3))
    go_ret
    have hlm : (done ent z).length = fn + pm := by rw [HD.out, List.length_append, HFl.out, HPm.out]
    refine ⟨ao3, k3, by rw [hlm]; rfl, ?_, HB3.out⟩
    rw [hlm, HD.out]; exact bs_of_owns HO3.out (HFb.out.append HPb.out)
end Go.Proofs.Ytahbgebnmgnmoaa

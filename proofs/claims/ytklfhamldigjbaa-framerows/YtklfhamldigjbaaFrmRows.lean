/- The walk of FrameRows: frames that stand one behind the other are read, and passed, one behind the other, from the first to the end. -/
import Derived.Test.YtklfhamldigjbaaFrmShown
import Derived.Test.YtklfhamldigjbaaFrmRound
import Derived.Test.YtklfhamldigjbaaMats
namespace Go.Proofs.Ytklfhamldigjbaa
set_option linter.unusedVariables false
open Go.RowKit Go.Maps
open Lz (g pack unpack)
open Crc (ent more)
open Cur
open Frm

abbrev RT := Nat → Option Addr × Nat × Nat × List Int
/-- A row's bytes, 128 at most. -/
def zOf (R : RT) (r : Nat) : List Int := (R r).2.2.2.take (min (R r).2.1 128)
/-- A row's slice, cut. -/
def vOf (R : RT) (r : Nat) : Value := .slice (R r).1 (min (R r).2.1 128) (R r).2.2.1
/-- The frames of the first rows. -/
def img (R : RT) : Nat → List Int
  | 0 => []
  | i + 1 => img R i ++ put ent (zOf R i)
def cut (R : RT) (i : Nat) : List Value := (List.range i).map (vOf R)
theorem img_succ (R : RT) (i : Nat) : img R (i + 1) = img R i ++ put ent (zOf R i) := rfl
theorem cut_succ (R : RT) (i : Nat) : cut R (i + 1) = cut R i ++ [vOf R i] := by simp [cut, List.range_succ]
theorem z_length (R : RT) (i : Nat) : (zOf R i).length ≤ 128 := by simp [zOf]; omega
theorem img_length (R : RT) : ∀ i, (img R i).length ≤ i * 135
  | 0 => by simp [img]
  | i + 1 => by
    have := img_length R i
    have := (put_length (T := ent) (z_length R i)).2.2
    rw [img_succ, List.length_append]; omega
theorem img_split (R : RT) (j : Nat) : ∀ i, j < i → ∃ Z, img R i = img R j ++ (put ent (zOf R j) ++ Z)
  | 0, h => by omega
  | i + 1, h => by
    by_cases e : j = i
    · subst e; exact ⟨[], by rw [img_succ, List.append_nil]⟩
    · obtain ⟨Z, hZ⟩ := img_split R j i (by omega)
      exact ⟨Z ++ put ent (zOf R i), by rw [img_succ, hZ]; simp [List.append_assoc]⟩
theorem img_bytes (R : RT) : ∀ i, (∀ r, r < i → Bytes (zOf R r)) → Bytes (img R i)
  | 0, _ => Bytes.nil
  | i + 1, h => (img_bytes R i (fun r hr => h r (by omega))).append (put_bytes (h i (by omega)))

set_option maxRecDepth 100000 in
set_option maxHeartbeats 4000000 in
theorem rows_walk (a0 : Option Addr) (len0 cap0 : Nat) (R : RT) (w : World) (w0 : MatB w a0 len0 cap0 R) :
    Calls Try.prog 8 #[.slice a0 len0 cap0] w fun e w' => e = .returned (.bool true) ∧ Below w.heap.size w w' := by
  obtain ⟨hz, hi'⟩ := zero_of_info infoTable
  obtain ⟨i1, hi1, hz0, hz1, hz2⟩ := info_parts infoBytes
  have hlen : len0 ≤ 9223372036854775807 := by
    rcases w0 with ⟨_, rfl, _⟩ | ⟨_, _, h1, h2, _⟩
    · omega
    · unfold maxLen at h2; omega
  go_enter Try.func8, Try.ntmps8
  go_wp2_with fail
  refine (shown_any w).mono ?_
  rintro r ws ⟨rfl, hbs0⟩
  go_wp2_with fail
  refine (New_any ws).mono ?_
  rintro r w2 ⟨rfl, hbn⟩
  obtain ⟨C, hC⟩ : ∃ C, C = tab ent := ⟨_, rfl⟩
  rw [← hC]
  have HC : Hid (C = tab ent) := hC
  clear hC
  go_wp2_with (refine wpList_store_table rfl _ _ rfl ent C HC.out rfl rfl _ (by simp) ?_; intro w3 ht3 hT3 hlt3 hb3)
  have hbw : Below w.heap.size w w3 := by
    have e1 := hbs0.trans (hbn.mono hbs0.size)
    exact e1.trans (hb3.mono e1.size)
  have hsz3 := hbw.size
  have HW : Hid (((w3.alloc (Obj.cells #[] 5)).alloc (Obj.cells #[] 22)).ownsRow w.heap.size 5 1 (.slice (some ⟨w3.heap.size, 0, none⟩) 0 0) 0 (bv (img R 0)) ∧
      ((w3.alloc (Obj.cells #[] 5)).alloc (Obj.cells #[] 22)).ownsRow w.heap.size 22 1 (.slice (some ⟨w3.heap.size + 1, 0, none⟩) 0 0) 0 (cut R 0) ∧
      Below w.heap.size w ((w3.alloc (Obj.cells #[] 5)).alloc (Obj.cells #[] 22)) ∧
      Hid (((w3.alloc (Obj.cells #[] 5)).alloc (Obj.cells #[] 22)).heap[w2.heap.size]? = some (.cells C 27 (0, 0)))) := by
    refine ⟨(emptyB hsz3).alloc _, ?_, (hbw.alloc hsz3 _).alloc (by simp; omega) _, ?_⟩
    · have h := emptyM (w := w3.alloc (Obj.cells #[] 5)) (B := w.heap.size) (by simp; omega)
      rw [World.size_alloc] at h
      exact h
    · show ((w3.alloc _).alloc _).heap[w2.heap.size]? = _
      rw [Below.heap_alloc _ _ _ (by simp; omega), Below.heap_alloc _ _ _ hlt3]
      exact ht3.out
  clear hbs0 hbn hb3 hT3 ht3 hbw hz hi'
  go_loopw [5, 6, 7] (fun s5 s6 s7 wr => ∃ (ao ro : Option Addr) (c rc n i : Nat), s5 = .slice ao n c ∧ s6 = .slice ro i rc ∧ s7 = .int .i64 i ∧ i ≤ len0 ∧ i ≤ 20 ∧
      wr.ownsRow w.heap.size 5 1 (.slice ao n c) n (bv (img R i)) ∧ wr.ownsRow w.heap.size 22 1 (.slice ro i rc) i (cut R i) ∧ Below w.heap.size w wr ∧
      Hid (wr.heap[w2.heap.size]? = some (.cells C 27 (0, 0)))) (fun _ _ s7 _ => 20 - (intOf s7).toNat)
  case atStart => exact ⟨_, _, 0, 0, 0, 0, rfl, rfl, rfl, by omega, by omega, HW.out.1, HW.out.2.1, HW.out.2.2.1, HW.out.2.2.2⟩
  case round =>
    clear HW
    obtain ⟨ao, ro, c, rc, n, i, rfl, rfl, rfl, hil, hi20, ho, horow, hbel, htab⟩ := hrel
    have hBr := hbel.size
    have hn : n ≤ 2700 := by
      have h1 := img_length R i
      have h2 := ho.1
      rw [bv_length] at h2
      omega
    by_cases hgo : i < len0 ∧ i < 20
    · obtain ⟨hg1, hg2⟩ := hgo
      rcases w0 with ⟨_, h0, _⟩ | ⟨x, rfl, hlc, hcm, hcs⟩
      · omega
      obtain ⟨hcell, hrow⟩ := hcs i hg1
      obtain ⟨xb, xo, spot⟩ := x
      have hcell0 := (hcs 0 (by omega)).1
      have hspot : spot = none := by simpa [Addr.add] using World.cell?_spot hcell0
      subst hspot
      have hxlt : xb < w.heap.size := by
        have := World.block_lt_of_cell? w _ hcell0
        simpa [Addr.add] using this
      clear hcell0
      rw [Addr.add_lit] at hcell
      have hcw := (hbel.cell (by exact hxlt)).trans hcell
      obtain ⟨hbs, hLC, hCm, hby, hnil⟩ := hrow.bs (min (R i).2.1 128) (by omega)
      have HZ : Hid (zOf R i = (R i).2.2.2.take (min (R i).2.1 128)) := rfl
      have HV : Hid (vOf R i = .slice (R i).1 (min (R i).2.1 128) (R i).2.2.1) := rfl
      have HBs := hide (hbs.below hbel)
      have HNil := hide hnil
      generalize (R i).2.2.2.take (min (R i).2.1 128) = zs at *
      generalize (R i).1 = A at *
      generalize (R i).2.1 = L at *
      generalize (R i).2.2.1 = Cp at *
      have j1 : (i : Int) < (len0 : Int) := by omega
      have j2 : (i : Int) < 20 := by omega
      have HO := hide ho
      have HOR := hide horow
      have HBel := hide hbel
      clear hrow hcell hcs hbs hby hnil ho horow hbel
      go_wp2_with fail
      refine (few_any A L Cp 128 wr hLC (by omega)).mono ?_
      rintro r wx ⟨rfl, rfl⟩
      obtain ⟨m, hm⟩ : ∃ m, min L 128 = m := ⟨_, rfl⟩
      rw [hm] at HBs HV
      rw [hm]
      have hm1 : m ≤ 128 := by omega
      have hm2 : m ≤ Cp := by omega
      clear hm
      have HTb : Hid (Tb wx w2.heap.size ent) := by
        have := htab.out
        rw [HC.out] at this
        exact tb_row this
      have hltb : w2.heap.size < wx.heap.size := heap_lt htab.out
      go_wp2_with fail
      refine (Put_any w2.heap.size m Cp ent A zs wx HTb.out hltb small_ent HBs.out hm2 HNil.out (by omega)).mono ?_
      rintro r w4 (⟨h, _⟩ | ⟨h128, ao3, c3, rfl, hN3⟩)
      · rw [HBs.out.1] at h; omega
      have hpl := put_length (T := ent) h128
      have HI := hide (show img R (i + 1) = img R i ++ put ent zs by rw [img_succ, HZ.out])
      obtain ⟨n3, hn3⟩ : ∃ n, (put ent zs).length = n := ⟨_, rfl⟩
      rw [hn3] at hN3 hpl
      rw [hn3]
      generalize put ent zs = pz at *
      have HN3 := hide hN3
      have HB4 : Hid (Below w.heap.size w w4) := HBel.out.trans (hN3.bel.mono HBel.out.size)
      have ho4 := owns_below HO.out hN3.bel
      have hor4 := owns_below HOR.out hN3.bel
      have HT4 : Hid (w4.heap[w2.heap.size]? = some (.cells C 27 (0, 0))) := (hN3.bel.block _ hltb).trans htab.out
      have hBr4 : w.heap.size ≤ w4.heap.size := HB4.out.size
      have hn135 : n3 ≤ 135 := hpl.2.2
      clear hN3 HO HOR HBel htab HTb hpl h128 hn3
      go_wp2_with (first
        | (at_builtin; refine wpList_append_bs _ rfl (.tmp 44) (.tmp 45) rfl w.heap.size _ n c (img R i) rfl ho4 ao3 n3 c3 pz rfl HN3.out.bs HN3.out.nil (by omega) hBr4 ?_; intro ao1 c1 w5 o1 k1; have kn := (KeepN.refl 5 w4).grown ho4 k1; have or5 := (kn.toT (e' := 22) (by decide)).owns hor4; have ht5 := kn _ _ HT4.out (fun cur fz e => by injection e with _ h2 _; exact absurd h2 (by decide)); have hb5 : Below w.heap.size w w5 := HB4.out.trans (grown_below hBr4 ho4 k1); have hs5 := hb5.size; have HT5 : Hid (w5.heap[w2.heap.size]? = some (.cells C 27 (0, 0))) := ht5; clear kn ht5 k1)
        | (at_builtin; refine wpList_append_lies _ rfl _ _ 44 rfl w.heap.size 22 i1 (.slice none 0 0) 1 24 Try.underlying44 hi1 hz0 hz1 hz2 rfl (by decide) _ _ _ rfl (or5.alloc _) ⟨w5.heap.size, 0, none⟩ 1 1 [.slice A m Cp] rfl rfl (cell_one_new w5 _ _) (fun u hu => by simp at hu; subst hu; rfl) (by decide) (by unfold maxLen; omega) (by omega) (by simp; omega) (w5.heap.size + 1) (by simp) ?_; intro g2 c2 w6 o2 k2 _ _))
      have HN : Hid (w6.ownsRow w.heap.size 5 1 (.slice ao1 (n + n3) c1) (n + n3) (bv (img R (i + 1))) ∧ w6.ownsRow w.heap.size 22 1 (.slice (some ⟨g2, 0, none⟩) (i + 1) c2) (i + 1) (cut R (i + 1)) ∧ Below w.heap.size w w6 ∧ Hid (w6.heap[w2.heap.size]? = some (.cells C 27 (0, 0)))) := by
        have kn : KeepN 22 w5 w6 := ((KeepN.refl _ w5).alloc _).grown (or5.alloc _) k2
        refine ⟨?_, ?_, ?_, ?_⟩
        · rw [HI.out]
          exact (kn.toT (e' := 5) (by decide)).owns o1
        · rw [cut_succ, HV.out]
          exact o2
        · exact hb5.trans (grown_below hs5 or5 (grown_alloc k2))
        · exact kn _ _ HT5.out (fun cur fz e => by injection e with _ h2 _; exact absurd h2 (by decide))
      clear o1 o2 k2 or5 hb5 HT5 ho4 hor4 hs5
      go_wp2
      go_roundw
      case rel => exact ⟨ao1, _, c1, c2, n + n3, i + 1, rfl, rfl, by go_num, by omega, by omega, HN.out.1, HN.out.2.1, HN.out.2.2.1, HN.out.2.2.2⟩
      case measure => simp [intOf]; omega
    · obtain ⟨wE, hwE⟩ : ∃ wE, wE = wr := ⟨_, rfl⟩
      subst hwE
      have hrow : ∀ r, r < i → RowB w (R r).1 (R r).2.1 (R r).2.2.1 (R r).2.2.2 := fun r hr => by
        rcases w0 with ⟨_, h0, _⟩ | ⟨x, rfl, hlc, hcm, hcs⟩
        · omega
        · exact (hcs r (by omega)).2
      have hbz : ∀ r, r < i → Bs w (R r).1 (min (R r).2.1 128) (zOf R r) ∧ Bytes (zOf R r) := fun r hr => by
        obtain ⟨h1, _, _, h4, _⟩ := (hrow r hr).bs (min (R r).2.1 128) (by omega)
        exact ⟨h1, h4⟩
      have HBZ := hide hbz
      have hbf : Bytes (img R i) := img_bytes R i (fun r hr => (hbz r hr).2)
      have HTb : Hid (Tb wE w2.heap.size ent) := by
        have := htab.out
        rw [HC.out] at this
        exact tb_row this
      have hltb : w2.heap.size < wE.heap.size := heap_lt htab.out
      have hcn := cap_of_owns ho
      have hNw := New.of_owns (w := w) ho hbf (Nat.le_refl _) hbel
      have hmx := hNw.max
      have HNil := hide hNw.nil
      have HIm := hide hNw.bs
      have hli : (img R i).length = n := hNw.len
      have HLI := hide hli
      have HRow := hide horow
      have HB := hide hbel
      have hcase : ((i : Int) < (len0 : Int) ∧ 20 ≤ (i : Int) ∧ decide ((i : Int) < 20) = false) ∨ ((len0 : Int) ≤ (i : Int) ∧ decide ((i : Int) < (len0 : Int)) = false) := by
        by_cases h : i < len0
        · exact .inl ⟨by omega, by omega, by simp; omega⟩
        · exact .inr ⟨by omega, by simp; omega⟩
      clear hrow hbz hbf htab hNw hbel ho horow hBr w0 hli hgo
      rcases hcase with ⟨k1, k2, k3⟩ | ⟨k1, k2⟩
      all_goals
        go_wp2_with fail
        go_loopw [11, 12] (fun s11 s12 wq => ∃ j : Nat, s11 = .int .i64 ((img R j).length : Nat) ∧ s12 = .int .i64 j ∧ j ≤ i ∧ Below wE.heap.size wE wq) (fun _ s12 _ => i - (intOf s12).toNat)
        case atStart => exact ⟨0, rfl, rfl, by omega, Below.refl _ _⟩
        case round =>
          obtain ⟨j, rfl, rfl, hji, hbq⟩ := hrel
          have HBQ := hide hbq
          have hltq : w2.heap.size < wr.heap.size := Nat.lt_of_lt_of_le hltb hbq.size
          clear hbq
          have hPn : (img R j).length ≤ j * 135 := img_length R j
          by_cases dd : j < i
          · obtain ⟨Z, hZ⟩ := img_split R j i dd
            have hTP := take_put small_ent (z_length R j) (img R j) Z
            rw [← hZ] at hTP
            have hpl := put_length (T := ent) (z_length R j)
            have hQ : (img R (j + 1)).length = (img R j).length + (put ent (zOf R j)).length := by rw [img_succ, List.length_append]
            rw [← hQ] at hTP
            have HTP := hide hTP
            have hQP : (img R j).length < (img R (j + 1)).length := by omega
            have hQ9 : (img R (j + 1)).length ≤ 2700 := by have := img_length R (j + 1); omega
            obtain ⟨gb, c', hv, _, hlt⟩ := HRow.out.form (by omega)
            obtain ⟨rfl, _, rfl⟩ : ro = some ⟨gb, 0, none⟩ ∧ i = i ∧ rc = c' := by simpa using hv
            have hcellE : wE.cell? ⟨gb, j, none⟩ = some (.slice (R j).1 (min (R j).2.1 128) (R j).2.2.1) := by
              rw [HRow.out.cellAt j (by omega)]
              simp [cut, dd, vOf]
            have HCE := hide hcellE
            have HBj := hide (HBZ.out j dd).1
            obtain ⟨P, hP⟩ : ∃ P, (img R j).length = P := ⟨_, rfl⟩
            obtain ⟨Q, hQQ⟩ : ∃ Q, (img R (j + 1)).length = Q := ⟨_, rfl⟩
            rw [hP, hQQ] at HTP hQP
            rw [hQQ] at hQ9
            rw [hP] at hPn
            rw [hP]
            have HQQ := hide hQQ
            generalize zOf R j = zj at *
            generalize (R j).1 = A at *
            generalize min (R j).2.1 128 = m at *
            generalize (R j).2.2.1 = Cp at *
            have j1 : (j : Int) < (i : Int) := by omega
            have j0 : (0 : Int) ≤ (j : Int) := by omega
            clear hZ hTP hpl hQ hv hcellE hP hQQ
            go_wp2_with fail
            refine (Take_any w2.heap.size n c (P : Int) ent ao (img R i) wr (HTb.out.below HBQ.out hltb) hltq small_ent (HIm.out.below HBQ.out) hcn HNil.out (by omega) hmx (by omega)).mono ?_
            rintro r w6 ⟨ao6, c6, rfl, hF6⟩
            rw [HTP.out.1] at hF6
            rw [HTP.out.1]
            have hzm : zj.length = m := HBj.out.1
            have HF6 : Hid (Fresh wr w6 ao6 m c6 zj) := by
              have := hF6
              rw [show (zj, (Q : Int), (0 : Int)).1.length = m from hzm] at this; exact this
            rw [show (zj, (Q : Int), (0 : Int)).1.length = m from hzm]
            have HB6 := hide (HBQ.out.trans (hF6.bel.mono HBQ.out.size))
            clear hF6 hzm
            go_wp2_with fail
            refine (Skip_any n c (P : Int) ao (img R i) w6 (HIm.out.below HB6.out) hcn HNil.out (by omega) hmx (by omega)).mono ?_
            rintro r w7 ⟨rfl, hb7⟩
            rw [HTP.out.2]
            have HB7 := hide (HB6.out.trans (hb7.mono HB6.out.size))
            have hcell : w7.cell? ⟨gb, j, none⟩ = some (.slice A m Cp) := (HB7.out.cell (p := ⟨gb, j, none⟩) hlt).trans HCE.out
            have s1 : ∀ nq, (convert 22 9 (.slice ao6 m c6)).run Try.prog (w7.drewN nq) = .ok (.string (strOfNums zj)) (w7.drewN nq) := fun nq => str_any ((HF6.out.on hb7).bs.below (below_drewN (Below.refl _ _) nq)) c6
            have hBw : Below w.heap.size w w7 := HB.out.trans (HB7.out.mono HB.out.size)
            have s2 : ∀ nq, (convert 22 9 (.slice A m Cp)).run Try.prog (w7.drewN nq) = .ok (.string (strOfNums zj)) (w7.drewN nq) := fun nq => str_any ((HBj.out.below hBw).below (below_drewN (Below.refl _ _) nq)) Cp
            have q1 : ((Q : Int) != (Q : Int)) = false := by simp
            have q2 : decide ((Q : Int) ≤ (P : Int)) = false := by simp; omega
            clear hb7 hBw
            go_wp2_with fail
            go_quiet (fail)
            go_wp2
            refine ⟨⟨j + 1, by rw [HQQ.out], by go_num, by omega, below_drewN HB7.out _⟩, by simp only [intOf]; omega⟩
          · obtain rfl : j = i := by omega
            rw [HLI.out]
            have hBw : Below w.heap.size w wr := HB.out.trans (HBQ.out.mono HB.out.size)
            have HBw := hide hBw
            clear hBw
            go_wp2
            go_ret
            exact ⟨rfl, HBw.out⟩
end Go.Proofs.Ytklfhamldigjbaa

/- The walk of CrcRows: the sum of rows is that of all of them as one. -/
import Derived.Test.YthdmmachaplmjaaLaws
import Derived.Test.YthdmmachaplmjaaMats
namespace Go.Proofs.Ythdmmachaplmjaa
set_option linter.unusedVariables false
open Go.RowKit Go.Maps
open Lz (g)
open Crc (stp steps ent bt run more)

abbrev RT := Nat → Option Addr × Nat × Nat × List Int
/-- A row's bytes, 100 at most. -/
def zOf (R : RT) (r : Nat) : List Int := (R r).2.2.2.take (min (R r).2.1 100)
/-- A row's slice, cut. -/
def vOf (R : RT) (r : Nat) : Value := .slice (R r).1 (min (R r).2.1 100) (R r).2.2.1
def flat (R : RT) (i : Nat) : List Int := ((List.range i).map (zOf R)).flatten
def cut (R : RT) (i : Nat) : List Value := (List.range i).map (vOf R)
theorem flat_succ (R : RT) (i : Nat) : flat R (i + 1) = flat R i ++ zOf R i := by simp [flat, List.range_succ]
theorem cut_succ (R : RT) (i : Nat) : cut R (i + 1) = cut R i ++ [vOf R i] := by simp [cut, List.range_succ]
theorem flat_length (R : RT) : ∀ i, (flat R i).length ≤ i * 100
  | 0 => by simp [flat]
  | i + 1 => by
    have := flat_length R i
    rw [flat_succ, List.length_append]
    have : (zOf R i).length ≤ 100 := by simp [zOf]; omega
    omega

set_option maxRecDepth 100000 in
set_option maxHeartbeats 4000000 in
theorem rows_walk (a0 : Option Addr) (len0 cap0 : Nat) (R : RT) (w : World) (w0 : MatB w a0 len0 cap0 R) :
    Calls Try.prog 6 #[.slice a0 len0 cap0] w fun e w' => e = .returned (.bool true) ∧ Below w.heap.size w w' := by
  obtain ⟨hz, hi'⟩ := zero_of_info infoTable
  obtain ⟨i1, hi1, hz0, hz1, hz2⟩ := info_parts infoBytes
  have hlen : len0 ≤ 9223372036854775807 := by
    rcases w0 with ⟨_, rfl, _⟩ | ⟨_, _, h1, h2, _⟩
    · omega
    · unfold maxLen at h2; omega
  go_enter Try.func6, Try.ntmps6
  go_wp2_with fail
  refine (shown_any w).mono ?_
  rintro r ws ⟨rfl, hbs0⟩
  go_wp2_with fail
  refine (New_any ws).mono ?_
  rintro r w2 ⟨rfl, hbn⟩
  obtain ⟨C, hC⟩ : ∃ C, C = tab ent := ⟨_, rfl⟩
  rw [← hC]
  have HC : Hid (C = tab ent) := hC
  clear hC
  go_wp2_with (refine wpList_store_table rfl _ _ rfl ent C HC.out rfl rfl _ (by simp) ?_; intro w3 ht3 hT3 hlt3 hb3)
  have hbw : Below w.heap.size w w3 := by
    have e1 := hbs0.trans (hbn.mono hbs0.size)
    exact e1.trans (hb3.mono e1.size)
  have hsz3 := hbw.size
  have HW : Hid (((w3.alloc (Obj.cells #[] 5)).alloc (Obj.cells #[] 29)).ownsRow w.heap.size 5 1 (.slice (some ⟨w3.heap.size, 0, none⟩) 0 0) 0 (bv (flat R 0)) ∧
      ((w3.alloc (Obj.cells #[] 5)).alloc (Obj.cells #[] 29)).ownsRow w.heap.size 29 1 (.slice (some ⟨w3.heap.size + 1, 0, none⟩) 0 0) 0 (cut R 0) ∧
      Below w.heap.size w ((w3.alloc (Obj.cells #[] 5)).alloc (Obj.cells #[] 29)) ∧
      Hid (((w3.alloc (Obj.cells #[] 5)).alloc (Obj.cells #[] 29)).heap[w2.heap.size]? = some (.cells C 25 (0, 0)))) := by
    refine ⟨(emptyB hsz3).alloc _, ?_, (hbw.alloc hsz3 _).alloc (by simp; omega) _, ?_⟩
    · have h := emptyM (w := w3.alloc (Obj.cells #[] 5)) (B := w.heap.size) (by simp; omega)
      rw [World.size_alloc] at h
      exact h
    · show ((w3.alloc _).alloc _).heap[w2.heap.size]? = _
      rw [Below.heap_alloc _ _ _ (by simp; omega), Below.heap_alloc _ _ _ hlt3]
      exact ht3.out
  clear hbs0 hbn hb3 hT3 ht3 hbw hz hi'
  go_loopw [5, 6, 7] (fun s5 s6 s7 wr => ∃ (ao ro : Option Addr) (c rc n i : Nat), s5 = .slice ao n c ∧ s6 = .slice ro i rc ∧ s7 = .int .i64 i ∧ i ≤ len0 ∧ i ≤ 20 ∧
      wr.ownsRow w.heap.size 5 1 (.slice ao n c) n (bv (flat R i)) ∧ wr.ownsRow w.heap.size 29 1 (.slice ro i rc) i (cut R i) ∧ Below w.heap.size w wr ∧
      Hid (wr.heap[w2.heap.size]? = some (.cells C 25 (0, 0)))) (fun _ _ s7 _ => 20 - (intOf s7).toNat)
  case atStart => exact ⟨_, _, 0, 0, 0, 0, rfl, rfl, rfl, by omega, by omega, HW.out.1, HW.out.2.1, HW.out.2.2.1, HW.out.2.2.2⟩
  case round =>
    clear HW
    obtain ⟨ao, ro, c, rc, n, i, rfl, rfl, rfl, hil, hi20, ho, horow, hbel, htab⟩ := hrel
    have hBr := hbel.size
    have hn : n ≤ 2000 := by
      have h1 := flat_length R i
      have h2 := ho.1
      rw [bv_length] at h2
      omega
    by_cases hgo : i < len0 ∧ i < 20
    · obtain ⟨hg1, hg2⟩ := hgo
      rcases w0 with ⟨_, h0, _⟩ | ⟨x, rfl, hlc, hcm, hcs⟩
      · omega
      obtain ⟨hcell, hrow⟩ := hcs i hg1
      obtain ⟨xb, xo, spot⟩ := x
      have hcell0 := (hcs 0 (by omega)).1
      have hspot : spot = none := by simpa [Addr.add] using World.cell?_spot hcell0
      subst hspot
      have hxlt : xb < w.heap.size := by
        have := World.block_lt_of_cell? w _ hcell0
        simpa [Addr.add] using this
      clear hcell0
      rw [Addr.add_lit] at hcell
      have hcw := (hbel.cell (by exact hxlt)).trans hcell
      obtain ⟨hbs, hLC, hCm, hby, hnil⟩ := hrow.bs (min (R i).2.1 100) (by omega)
      have HZ : Hid (zOf R i = (R i).2.2.2.take (min (R i).2.1 100)) := rfl
      have HV : Hid (vOf R i = .slice (R i).1 (min (R i).2.1 100) (R i).2.2.1) := rfl
      have hbr := hbs.below hbel
      generalize (R i).2.2.2.take (min (R i).2.1 100) = zs at *
      generalize (R i).1 = A at *
      generalize (R i).2.1 = L at *
      generalize (R i).2.2.1 = Cp at *
      have j1 : (i : Int) < (len0 : Int) := by omega
      have j2 : (i : Int) < 20 := by omega
      clear hrow hcell hcs hbs
      by_cases hL : 100 < L
      · rw [show min L 100 = 100 by omega] at *
        go_wp2_with (first
          | (at_builtin; refine wpList_append_bs _ rfl _ _ rfl w.heap.size _ n c (flat R i) rfl ho A 100 Cp zs rfl hbr hnil (by omega) hBr ?_; intro ao1 c1 w4 o1 k1; have kn := (KeepN.refl 5 wr).grown ho k1; have or4 := (kn.toT (e' := 29) (by decide)).owns horow; have ht4 := kn _ _ htab.out (fun cur fz e => by injection e with _ h2 _; exact absurd h2 (by decide)); have hb4 : Below w.heap.size w w4 := hbel.trans (grown_below hBr ho k1); have hs4 := hb4.size; have HT4 : Hid (w4.heap[w2.heap.size]? = some (.cells C 25 (0, 0))) := ht4; clear kn ht4 k1)
          | (at_builtin; refine wpList_append_lies _ rfl _ _ 36 rfl w.heap.size 29 i1 (.slice none 0 0) 1 24 Try.underlying36 hi1 hz0 hz1 hz2 rfl (by decide) _ _ _ rfl (or4.alloc _) ⟨w4.heap.size, 0, none⟩ 1 1 [.slice A 100 Cp] rfl rfl (cell_one_new w4 _ _) (fun u hu => by simp at hu; subst hu; rfl) (by decide) (by unfold maxLen; omega) (by omega) (by simp; omega) (w4.heap.size + 1) (by simp) ?_; intro g2 c2 w5 o2 k2 _ _))
        have HN : Hid (w5.ownsRow w.heap.size 5 1 (.slice ao1 (n + 100) c1) (n + 100) (bv (flat R (i + 1))) ∧ w5.ownsRow w.heap.size 29 1 (.slice (some ⟨g2, 0, none⟩) (i + 1) c2) (i + 1) (cut R (i + 1)) ∧ Below w.heap.size w w5 ∧ Hid (w5.heap[w2.heap.size]? = some (.cells C 25 (0, 0)))) := by
          have kn : KeepN 29 w4 w5 := ((KeepN.refl _ w4).alloc _).grown (or4.alloc _) k2
          refine ⟨?_, ?_, ?_, ?_⟩
          · rw [flat_succ, HZ.out]
            exact (kn.toT (e' := 5) (by decide)).owns o1
          · rw [cut_succ, HV.out]
            exact o2
          · exact hb4.trans (grown_below hs4 or4 (grown_alloc k2))
          · exact kn _ _ HT4.out (fun cur fz e => by injection e with _ h2 _; exact absurd h2 (by decide))
        clear o1 o2 k2 or4 hb4 HT4 ho horow hbel htab hbr hs4
        go_wp2
        go_roundw
        case rel => exact ⟨ao1, _, c1, c2, n + 100, i + 1, rfl, rfl, by go_num, by omega, by omega, HN.out.1, HN.out.2.1, HN.out.2.2.1, HN.out.2.2.2⟩
        case measure => simp [intOf]; omega
      · rw [show min L 100 = L by omega] at *
        go_wp2_with (first
          | (at_builtin; refine wpList_append_bs _ rfl _ _ rfl w.heap.size _ n c (flat R i) rfl ho A L Cp zs rfl hbr hnil (by omega) hBr ?_; intro ao1 c1 w4 o1 k1; have kn := (KeepN.refl 5 wr).grown ho k1; have or4 := (kn.toT (e' := 29) (by decide)).owns horow; have ht4 := kn _ _ htab.out (fun cur fz e => by injection e with _ h2 _; exact absurd h2 (by decide)); have hb4 : Below w.heap.size w w4 := hbel.trans (grown_below hBr ho k1); have hs4 := hb4.size; have HT4 : Hid (w4.heap[w2.heap.size]? = some (.cells C 25 (0, 0))) := ht4; clear kn ht4 k1)
          | (at_builtin; refine wpList_append_lies _ rfl _ _ 36 rfl w.heap.size 29 i1 (.slice none 0 0) 1 24 Try.underlying36 hi1 hz0 hz1 hz2 rfl (by decide) _ _ _ rfl (or4.alloc _) ⟨w4.heap.size, 0, none⟩ 1 1 [.slice A L Cp] rfl rfl (cell_one_new w4 _ _) (fun u hu => by simp at hu; subst hu; rfl) (by decide) (by unfold maxLen; omega) (by omega) (by simp; omega) (w4.heap.size + 1) (by simp) ?_; intro g2 c2 w5 o2 k2 _ _))
        have HN : Hid (w5.ownsRow w.heap.size 5 1 (.slice ao1 (n + L) c1) (n + L) (bv (flat R (i + 1))) ∧ w5.ownsRow w.heap.size 29 1 (.slice (some ⟨g2, 0, none⟩) (i + 1) c2) (i + 1) (cut R (i + 1)) ∧ Below w.heap.size w w5 ∧ Hid (w5.heap[w2.heap.size]? = some (.cells C 25 (0, 0)))) := by
          have kn : KeepN 29 w4 w5 := ((KeepN.refl _ w4).alloc _).grown (or4.alloc _) k2
          refine ⟨?_, ?_, ?_, ?_⟩
          · rw [flat_succ, HZ.out]
            exact (kn.toT (e' := 5) (by decide)).owns o1
          · rw [cut_succ, HV.out]
            exact o2
          · exact hb4.trans (grown_below hs4 or4 (grown_alloc k2))
          · exact kn _ _ HT4.out (fun cur fz e => by injection e with _ h2 _; exact absurd h2 (by decide))
        clear o1 o2 k2 or4 hb4 HT4 ho horow hbel htab hbr hs4
        go_wp2
        go_roundw
        case rel => exact ⟨ao1, _, c1, c2, n + L, i + 1, rfl, rfl, by go_num, by omega, by omega, HN.out.1, HN.out.2.1, HN.out.2.2.1, HN.out.2.2.2⟩
        case measure => simp [intOf]; omega
    · have hrow : ∀ r, r < i → RowB w (R r).1 (R r).2.1 (R r).2.2.1 (R r).2.2.2 := fun r hr => by
        rcases w0 with ⟨_, h0, _⟩ | ⟨x, rfl, hlc, hcm, hcs⟩
        · omega
        · exact (hcs r (by omega)).2
      have hbz : ∀ r, r < i → Bs w (R r).1 (min (R r).2.1 100) (zOf R r) ∧ Bytes (zOf R r) := fun r hr => by
        obtain ⟨h1, _, _, h4, _⟩ := (hrow r hr).bs (min (R r).2.1 100) (by omega)
        exact ⟨h1, h4⟩
      have hbf : Bytes (flat R i) := fun x hx => by
        simp only [flat, List.mem_flatten, List.mem_map, List.mem_range] at hx
        obtain ⟨l, ⟨r, hr, rfl⟩, hx⟩ := hx
        exact (hbz r hr).2 x hx
      have hRs : Rs wr ro i (zOf R) := by
        by_cases e : i = 0
        · exact .inl e
        · obtain ⟨gb, c', hv, _, hlt⟩ := horow.form (by omega)
          obtain ⟨rfl, _, rfl⟩ : ro = some ⟨gb, 0, none⟩ ∧ i = i ∧ rc = c' := by simpa using hv
          refine .inr ⟨gb, 0, rfl, fun r hr => ⟨(R r).1, min (R r).2.1 100, (R r).2.2.1, ?_, (hbz r hr).1.below hbel, by omega⟩⟩
          rw [Nat.zero_add, horow.cellAt r (by omega)]
          simp [cut, hr, vOf]
      have hTb : Tb wr w2.heap.size ent := by
        have := htab.out
        rw [HC.out] at this
        exact tb_row this
      have hBf := bs_of_owns ho hbf
      have hsum := Crc.rows_flatten ent ((List.range i).map (zOf R)) 0
      have HB : Hid (Below w.heap.size w wr) := hbel
      have HSm : Hid (Crc.rows ent 0 ((List.range i).map (zOf R)) = more ent 0 (flat R i)) := hsum
      clear hsum hbel hbf hbz hrow ho horow htab w0 hBr
      by_cases hg1 : i < len0
      · obtain rfl : i = 20 := by omega
        go_wp2_with fail
        refine (Row_any w2.heap.size 20 rc ent ro (zOf R) wr hTb small_ent hRs (by omega)).mono ?_
        rintro r wy ⟨rfl, rfl⟩
        rw [HSm.out]
        go_wp2_with fail
        refine (Sum_any w2.heap.size n c ent ao (flat R 20) wy hTb small_ent hBf (by omega)).mono ?_
        rintro r wz ⟨rfl, rfl⟩
        go_wp2
        go_ret
        exact ⟨rfl, HB.out⟩
      · have j1 : decide ((i : Int) < (len0 : Int)) = false := by simp; omega
        go_wp2_with fail
        refine (Row_any w2.heap.size i rc ent ro (zOf R) wr hTb small_ent hRs (by omega)).mono ?_
        rintro r wy ⟨rfl, rfl⟩
        rw [HSm.out]
        go_wp2_with fail
        refine (Sum_any w2.heap.size n c ent ao (flat R i) wy hTb small_ent hBf (by omega)).mono ?_
        rintro r wz ⟨rfl, rfl⟩
        go_wp2
        go_ret
        exact ⟨rfl, HB.out⟩
end Go.Proofs.Ythdmmachaplmjaa

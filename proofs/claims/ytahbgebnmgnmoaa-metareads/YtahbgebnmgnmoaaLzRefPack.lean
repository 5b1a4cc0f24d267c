/- The walk of the reference's Pack: it comes to the tokens that the document says. -/
import Derived.Test.YtahbgebnmgnmoaaLzPack
namespace Go.Proofs.Ytahbgebnmgnmoaa
set_option linter.unusedVariables false
open Go.RowKit Go.Maps
open Lz (g runs mt pk pack)


/-- What a row of bytes of the call's own holds, as a source. -/
theorem src_of {w : World} {B n c : Nat} {ao : Option Addr} {v : Value} {l : List Int} (h : w.ownsRow B 5 1 (.slice ao n c) n (bv l)) (hne : (Value.slice ao n c).ownBlock ≠ v.ownBlock) (hby : ∀ i, 0 ≤ g l i ∧ g l i ≤ 255) : Src w v ao n l := by
  have hlen : l.length = n := by have := h.1; rw [bv_length] at this; omega
  refine ⟨hlen, hby, ?_⟩
  by_cases e : n = 0
  · exact .inl e
  · obtain ⟨gb, c', hv, _, hlt⟩ := h.form (by omega)
    obtain ⟨rfl, _, rfl⟩ : ao = some ⟨gb, 0, none⟩ ∧ n = n ∧ c = c' := by simpa using hv
    refine .inr ⟨gb, 0, rfl, hlt, by simpa [Value.ownBlock] using hne, fun i hi => ?_⟩
    rw [Nat.zero_add, h.cellAt i (by omega)]
    unfold bv
    rw [List.getElem?_map, List.getElem?_eq_getElem hi, Lz.g_lt _ _ hi]; rfl

theorem lies_ne {w : World} {r r' v : Value} {B e size n : Nat} {xs : List Value} (h : Lies w r r') (ho : w.ownsRow B e size v n xs) (hne : r.ownBlock ≠ v.ownBlock) : r'.ownBlock ≠ v.ownBlock := by
  rcases h with h | ⟨k, h, hk⟩
  · rw [h]; exact hne
  · rw [h]
    intro e
    have := (ho.lt k e.symm).2
    omega
theorem news2 (w : World) (o : Obj) (xs : List Int) : ∀ j u, (bv xs)[j]? = some u → ((w.alloc o).alloc (.cells (bv xs).toArray 5)).cell? ((⟨w.heap.size + 1, 0, none⟩ : Addr).add j) = some u := by
  have h := heap_alloc_new (w.alloc o) (Obj.cells (bv xs).toArray 5)
  have e : (w.alloc o).heap.size = w.heap.size + 1 := by simp
  rw [e] at h
  have := World.news_of_block h
  simpa using this
theorem mtI_nat (zs : List Int) (a : Nat) : mtI zs (a : Int) = mt zs a := by
  unfold mtI
  rw [if_neg (by omega)]; rfl
theorem take_snoc (zs : List Int) (run a : Nat) (h : a < zs.length) (hr : run ≤ a) : (zs.take (a + 1)).drop run = (zs.take a).drop run ++ [g zs a] := by
  rw [List.take_succ_eq_append_getElem h, List.drop_append_of_le_length (by simp; omega), Lz.g_lt zs a h]
theorem drop_none (zs : List Int) (a : Nat) : (zs.take a).drop a = [] := by
  apply List.drop_eq_nil_of_le; simp; omega

set_option maxRecDepth 100000 in
set_option maxHeartbeats 4000000 in
theorem refPack_any (len cap : Nat) (ao : Option Addr) (zs : List Int) (w : World) (hB : Bs w ao len zs) (hc : len ≤ cap) (hl : len ≤ 5000) :
    Calls Try.prog 34 #[.slice ao len cap] w fun r w' =>
      (4096 < len ∧ r = .returned (.tuple #[.slice none 0 0, .int .i64 3]) ∧ w' = w) ∨
      (len ≤ 4096 ∧ ∃ ao' n' c', r = .returned (.tuple #[.slice ao' n' c', .int .i64 0]) ∧ w'.ownsRow w.heap.size 5 1 (.slice ao' n' c') n' (bv (pack zs)) ∧ Below w.heap.size w w') := by
  by_cases d0 : 4096 < len
  · go_enter Try.func34, Try.ntmps34
    go_wp2_with fail
    go_ret2
    exact .inl ⟨d0, rfl, rfl⟩
  · have d0' : decide ((4096 : Int) < (len : Int)) = false := by simp; omega
    obtain ⟨i0, hi, hz0, hz1, hz2⟩ := info_parts infoByte
    go_enter Try.func34, Try.ntmps34
    go_wp2_with fail
    go_loopw [4, 5, 6] (fun s4 s5 s6 wr => ∃ (vo : Option Addr) (n c : Nat) (ro : Option Addr) (m rc run a : Nat) (ys : List Int), s4 = .slice vo n c ∧ s5 = .slice ro m rc ∧ s6 = .int .i64 a ∧ wr.ownsRow w.heap.size 5 1 (.slice vo n c) n (bv ys) ∧
        wr.ownsRow w.heap.size 5 1 (.slice ro m rc) m (bv ((zs.take a).drop run)) ∧ (Value.slice ro m rc).ownBlock ≠ (Value.slice vo n c).ownBlock ∧
        run ≤ a ∧ a ≤ len ∧ n ≤ 2 * run ∧ pk zs ys run a = pack zs ∧ Below w.heap.size w wr) (fun _ _ s6 _ => len - (intOf s6).toNat)
    case atStart =>
      refine ⟨_, 0, 0, _, 0, 0, 0, 0, [], rfl, rfl, rfl, (emptyB (Nat.le_refl _)).alloc _, ?_, by simp [Value.ownBlock], by omega, by omega, by omega, rfl, ((Below.refl _ _).alloc (Nat.le_refl _) _).alloc (by simp) _⟩
      have := emptyB (w := w.alloc (Obj.cells #[] 5)) (B := w.heap.size) (by simp)
      simpa using this
    case round =>
      obtain ⟨vo, n, c, ro, m, rc, run, a, ys, rfl, rfl, rfl, ho, hor, hne, hra, hal, hn, hpk, hbel⟩ := hrel
      have HP : Hid (pk zs ys run a = pack zs) := hpk
      clear hpk
      have hsz := hbel.size
      have hBw := hB.below hbel
      have HI : Hid (mtI zs (a : Int) = mt zs a) := mtI_nat zs a
      have hz := hB.1
      have hby := hB.2.1
      have hml : m ≤ a - run := by
        have := hor.1
        rw [bv_length] at this; simp at this; omega
      by_cases d1 : a < len
      · have h0 := hB.2.2
        rcases h0 with h0 | ⟨b, off, rfl, hb, hs⟩
        · omega
        have hs1 := hs.below hbel hb
        have hca := hs1 a (by omega)
        have hmle := Lz.mt_le zs a
        have hmb := Lz.mt_back zs a
        have hmo : Lz.most zs a ≤ len - a := by unfold Lz.most; omega
        have hmo2 : Lz.most zs a ≤ 130 := by unfold Lz.most; omega
        have HM : Hid (mt zs a = (0, 0) ∨ (3 ≤ (mt zs a).1 ∧ 1 ≤ (mt zs a).2 ∧ (mt zs a).1 = Lz.lb zs a (mt zs a).2)) := Lz.mt_is zs a
        by_cases d2 : (mt zs a).1 = 0
        · have HK : Hid (pk zs ys run a = pk zs ys run (a + 1)) := Lz.pk_byte zs ys run a (by omega) d2
          have d2' : (((mt zs a).1 : Int) == 0) = true := by rw [beq_iff_eq]; omega
          clear d2
          go_wp2_with fail
          refine (refMatch_any (some ⟨b, off, none⟩) len cap a zs _ hBw (by omega) (by omega) (by omega)).mono ?_
          rintro r w2 ⟨rfl, nq, rfl⟩
          rw [HI.out]
          go_wp2_with (at_builtin; refine wpList_append_lies _ rfl _ _ 33 rfl w.heap.size 5 i0 (.int .u8 0) 1 1 Try.underlying33 hi hz0 hz1 hz2 rfl (by decide) _ _ _ rfl (World.ownsRow.alloc (w := wr.drewN nq) hor _) ⟨wr.heap.size, 0, none⟩ 1 1 (bv [g zs a]) rfl rfl (cell_one_new (wr.drewN nq) _ _) (bv_one _) (by decide) (by unfold maxLen; omega) (by omega) (by simp; omega) (wr.heap.size + 1) (by simp) ?_; intro g1 c1 w1 a1 k1 l1 _)
          have gr1 : wr.grownBy w1 (Value.slice ro m rc).ownBlock := grown_drewN (grown_alloc k1)
          have li1 : Lies wr (.slice ro m rc) (.slice (some ⟨g1, 0, none⟩) (m + 1) c1) := lies_of (w1 := w1) l1 (by omega)
          have HR : Hid (w1.ownsRow w.heap.size 5 1 (.slice vo n c) n (bv ys) ∧ w1.ownsRow w.heap.size 5 1 (.slice (some ⟨g1, 0, none⟩) (m + 1) c1) (m + 1) (bv ((zs.take (a + 1)).drop run)) ∧ (Value.slice (some ⟨g1, 0, none⟩) (m + 1) c1).ownBlock ≠ (Value.slice vo n c).ownBlock ∧ Below w.heap.size w w1) :=
            ⟨ho.kept gr1 (.inr (fun e => hne e.symm)), by rw [take_snoc zs run a (by omega) hra, bv_append]; exact a1, lies_ne li1 ho hne, hbel.trans (grown_below hsz hor gr1)⟩
          clear k1 l1 gr1 li1 a1
          go_wp2
          go_roundw
          case rel => exact ⟨vo, n, c, _, m + 1, c1, run, a + 1, ys, rfl, rfl, by go_num, HR.out.1, HR.out.2.1, HR.out.2.2.1, by omega, by omega, hn, HK.out.symm.trans HP.out, HR.out.2.2.2⟩
          case measure => simp only [intOf]; omega
        · obtain ⟨hm3, hm1⟩ : 3 ≤ (mt zs a).1 ∧ 1 ≤ (mt zs a).2 := by
            rcases HM.out with h | h
            · rw [h] at d2; simp at d2
            · exact ⟨h.1, h.2.1⟩
          have HK : Hid (pk zs ys run a = pk zs (ys ++ runs ((zs.take a).drop run) ++ [((mt zs a).1 : Int) + 125, ((mt zs a).2 : Int) - 1]) (a + (mt zs a).1) (a + (mt zs a).1)) := Lz.pk_copy zs ys run a (by omega) d2
          have d2' : (((mt zs a).1 : Int) == 0) = false := by rw [beq_eq_false_iff_ne]; omega
          clear d2 HM
          go_wp2_with fail
          refine (refMatch_any (some ⟨b, off, none⟩) len cap a zs _ hBw (by omega) (by omega) (by omega)).mono ?_
          rintro r w2 ⟨rfl, nq, rfl⟩
          rw [HI.out]
          have hsrc : Src wr (.slice vo n c) ro m ((zs.take a).drop run) := src_of hor hne (bytes_cut hby run a)
          have hmrc : m ≤ rc := by
            rcases hor.2 with ⟨e, _⟩ | ⟨_, _, _, e, _, _, h, _⟩
            · simp at e; omega
            · simp at e; omega
          go_wp2_with fail
          refine (refruns_any w.heap.size n c m rc vo ro ys ((zs.take a).drop run) (wr.drewN nq) ho hsz hsrc hmrc (by omega)).mono ?_
          rintro r w3 ⟨ao3, n3, c3, rfl, ho3, gr3', li3⟩
          have gr3 : wr.grownBy w3 (Value.slice vo n c).ownBlock := grown_drewN gr3'
          have hn3 : n3 = ys.length + (runs ((zs.take a).drop run)).length := by
            have := ho3.1
            rw [bv_length, List.length_append] at this; omega
          have hn0 : n = ys.length := by
            have := ho.1
            rw [bv_length] at this; omega
          have hn4 : n3 ≤ 2 * a := by
            rw [hn3, Lz.runs_length, hsrc.1]; omega
          clear hn3 hn0 hsrc gr3'
          have hB3 : w.heap.size ≤ w3.heap.size := Nat.le_trans hsz gr3.size
          go_wp2_with (at_builtin; refine wpList_append_lies _ rfl _ _ 33 rfl w.heap.size 5 i0 (.int .u8 0) 1 1 Try.underlying33 hi hz0 hz1 hz2 rfl (by decide) _ _ _ rfl ((ho3.alloc _).alloc _) ⟨w3.heap.size + 1, 0, none⟩ 2 2 (bv [((mt zs a).1 : Int) + 125, ((mt zs a).2 : Int) - 1]) rfl rfl (news2 w3 _ _) (bv_one _) (by decide) (by unfold maxLen; omega) (by omega) (by simp; omega) (w3.heap.size + 2) (by simp) ?_; intro g4 c4 w4 a4 k4 l4 _)
          have gr4 : (w3.alloc (Obj.cells #[] 5)).grownBy w4 (Value.slice ao3 n3 c3).ownBlock := grown_alloc k4
          have nn3 : (Value.slice (some ⟨w3.heap.size, 0, none⟩) 0 0).ownBlock ≠ (Value.slice ao3 n3 c3).ownBlock := fun e =>
            absurd (ho3.lt w3.heap.size e.symm).2 (Nat.lt_irrefl _)
          have HR : Hid (w4.ownsRow w.heap.size 5 1 (.slice (some ⟨g4, 0, none⟩) (n3 + 2) c4) (n3 + 2) (bv (ys ++ runs ((zs.take a).drop run) ++ [((mt zs a).1 : Int) + 125, ((mt zs a).2 : Int) - 1])) ∧
              w4.ownsRow w.heap.size 5 1 (.slice (some ⟨w3.heap.size, 0, none⟩) 0 0) 0 (bv ((zs.take (a + (mt zs a).1)).drop (a + (mt zs a).1))) ∧ (Value.slice (some ⟨w3.heap.size, 0, none⟩) 0 0).ownBlock ≠ (Value.slice (some ⟨g4, 0, none⟩) (n3 + 2) c4).ownBlock ∧ Below w.heap.size w w4) := by
            refine ⟨by rw [bv_append]; exact a4, by rw [drop_none]; exact (emptyB hB3).kept gr4 (.inr nn3), ?_, ?_⟩
            · intro e
              have e' : w3.heap.size = g4 := by simpa [Value.ownBlock] using e
              rcases l4 with h | h
              · have h' : g4 < w3.heap.size := (ho3.lt g4 h).2
                rw [e'] at h'; exact absurd h' (Nat.lt_irrefl _)
              · rw [h] at e'; omega
            · have b3 := hbel.trans (grown_below hsz ho gr3)
              exact b3.trans (((Below.refl _ w3).alloc hB3 _).grown gr4 (by simp; omega) (fun k e => (ho3.lt k e).1))
          clear k4 l4 gr4 nn3 gr3 li3 a4 ho3 ho hor hne
          go_roundw
          case rel => exact ⟨_, n3 + 2, c4, _, 0, 0, a + (mt zs a).1, a + (mt zs a).1, _, rfl, rfl, by go_num, HR.out.1, HR.out.2.1, HR.out.2.2.1, Nat.le_refl _, by omega, by omega, HK.out.symm.trans HP.out, HR.out.2.2.2⟩
          case measure => simp only [intOf]; omega
      · have hsrc : Src wr (.slice vo n c) ro m ((zs.take a).drop run) := src_of hor hne (bytes_cut hby run a)
        have hmrc : m ≤ rc := by
          rcases hor.2 with ⟨e, _⟩ | ⟨_, _, _, e, _, _, h, _⟩
          · simp at e; omega
          · simp at e; omega
        go_wp2_with fail
        refine (refruns_any w.heap.size n c m rc vo ro ys ((zs.take a).drop run) _ ho hsz hsrc hmrc (by omega)).mono ?_
        rintro r w3 ⟨ao3, n3, c3, rfl, ho3, gr3, li3⟩
        have HB : Hid (Below w.heap.size w w3) := hbel.trans (grown_below hsz ho gr3)
        clear li3 gr3 ho hor hne hsrc
        go_wp2
        go_ret2
        refine .inr ⟨by omega, _, _, _, rfl, ?_, HB.out⟩
        rw [← HP.out, Lz.pk_end _ _ _ _ (by omega)]
        rw [List.take_of_length_le (by omega)] at ho3
        exact ho3
end Go.Proofs.Ytahbgebnmgnmoaa

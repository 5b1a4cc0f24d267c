/- The walks of lz.Pack and of the reference's Pack: both come to the same tokens. -/
import Derived.Test.YtahbgebnmgnmoaaLzRuns
namespace Go.Proofs.Ytahbgebnmgnmoaa
set_option linter.unusedVariables false
open Go.RowKit Go.Maps
open Lz (g runs mt pk pack)


set_option maxRecDepth 100000 in
set_option maxHeartbeats 4000000 in
theorem Pack_any (len cap : Nat) (ao : Option Addr) (zs : List Int) (w : World) (hB : Bs w ao len zs) (hc : len ≤ cap) (hl : len ≤ 5000) :
    Calls Try.prog 45 #[.slice ao len cap] w fun r w' =>
      (4096 < len ∧ r = .returned (.tuple #[.slice none 0 0, .int .i64 3]) ∧ w' = w) ∨
      (len ≤ 4096 ∧ ∃ ao' n' c', r = .returned (.tuple #[.slice ao' n' c', .int .i64 0]) ∧ w'.ownsRow w.heap.size 5 1 (.slice ao' n' c') n' (bv (pack zs)) ∧ Below w.heap.size w w') := by
  by_cases d0 : 4096 < len
  · go_enter Try.func45, Try.ntmps45
    go_wp2_with fail
    go_ret2
    exact .inl ⟨d0, rfl, rfl⟩
  · have d0' : decide ((4096 : Int) < (len : Int)) = false := by simp; omega
    go_enter Try.func45, Try.ntmps45
    go_wp2_with fail
    refine (newTrios_any _ zs).mono ?_
    rintro r w1 ⟨rfl, ht, hbel, _⟩
    go_wp2_with fail
    go_loopw [4, 6, 7] (fun s4 s6 s7 wr => ∃ (vo : Option Addr) (n c run a : Nat) (ys : List Int), s4 = .slice vo n c ∧ s6 = .int .i64 run ∧ s7 = .int .i64 a ∧ wr.ownsRow w.heap.size 5 1 (.slice vo n c) n (bv ys) ∧
        run ≤ a ∧ a ≤ len ∧ n ≤ 2 * run ∧ pk zs ys run a = pack zs ∧ Tr wr w.heap.size (w.heap.size + 1) zs (min a (len - 2)) ∧ Below w.heap.size w wr) (fun _ _ s7 _ => len - (intOf s7).toNat)
    case atStart => exact ⟨none, 0, 0, 0, 0, [], rfl, rfl, rfl, World.ownsRow_nil _ _ _ _, by omega, by omega, by omega, rfl, by simpa using ht, hbel⟩
    case round =>
      clear ht hbel
      obtain ⟨vo, n, c, run, a, ys, rfl, rfl, rfl, ho, hra, hal, hn, hpk, hT, hbel⟩ := hrel
      have HP : Hid (pk zs ys run a = pack zs) := hpk
      clear hpk
      have hsz := hbel.size
      by_cases d1 : a < len
      · have hBw := hB.below hbel
        obtain ⟨hz, hby, h0⟩ := hB
        rcases h0 with h0 | ⟨b, off, rfl, hb, hs⟩
        · omega
        have hs1 := hs.below hbel hb
        have hmle := Lz.mt_le zs a
        have hmb := Lz.mt_back zs a
        have hmo : Lz.most zs a ≤ len - a := by unfold Lz.most; omega
        have hmo2 : Lz.most zs a ≤ 130 := by unfold Lz.most; omega
        have HM : Hid (mt zs a = (0, 0) ∨ (3 ≤ (mt zs a).1 ∧ 1 ≤ (mt zs a).2 ∧ (mt zs a).1 = Lz.lb zs a (mt zs a).2)) := Lz.mt_is zs a
        by_cases d2 : (mt zs a).1 = 0
        · have HK : Hid (pk zs ys run a = pk zs ys run (a + 1)) := Lz.pk_byte zs ys run a (by omega) d2
          have d2' : (((mt zs a).1 : Int) == 0) = true := by rw [beq_iff_eq]; omega
          clear d2
          go_wp2_with fail
          refine (match_any b off len cap _ w.heap.size _ a zs _ hz hs1 (by omega) hby hT d1 (by omega)).mono ?_
          rintro r w2 ⟨rfl, nq, rfl⟩
          go_wp2_with fail
          rw [show (a : Int) + 1 = ((a + 1 : Nat) : Int) by omega]
          refine (addUpTo_any b off len cap _ w.heap.size _ (a + 1) zs _ hz (hs1.drewN nq) hb hsz (by omega) hby (hT.drewN nq) (by omega)).mono ?_
          rintro r w3 ⟨rfl, hT3, hbel3, hk3⟩
          have HR : Hid (w3.ownsRow w.heap.size 5 1 (.slice vo n c) n (bv ys) ∧ Tr w3 w.heap.size (w.heap.size + 1) zs (min (a + 1) (len - 2)) ∧ Below w.heap.size w w3) :=
            ⟨hk3.owns ho, by rw [show min (a + 1) (len - 2) = max (min a (len - 2)) (min (a + 1) (len - 2)) by omega]; exact hT3, (below_drewN hbel nq).trans hbel3⟩
          go_wp2
          go_roundw
          case rel => exact ⟨vo, n, c, run, a + 1, ys, rfl, rfl, rfl, HR.out.1, by omega, by omega, hn, HK.out.symm.trans HP.out, HR.out.2.1, HR.out.2.2⟩
          case measure => simp only [intOf]; omega
        · obtain ⟨hm3, hm1⟩ : 3 ≤ (mt zs a).1 ∧ 1 ≤ (mt zs a).2 := by
            rcases HM.out with h | h
            · rw [h] at d2; simp at d2
            · exact ⟨h.1, h.2.1⟩
          have HK : Hid (pk zs ys run a = pk zs (ys ++ runs ((zs.take a).drop run) ++ [((mt zs a).1 : Int) + 125, ((mt zs a).2 : Int) - 1]) (a + (mt zs a).1) (a + (mt zs a).1)) := Lz.pk_copy zs ys run a (by omega) d2
          have d2' : (((mt zs a).1 : Int) == 0) = false := by rw [beq_eq_false_iff_ne]; omega
          clear d2 HM
          have hcr : ¬ cap = run := by omega
          go_wp2_with fail
          refine (match_any b off len cap _ w.heap.size _ a zs _ hz hs1 (by omega) hby hT d1 (by omega)).mono ?_
          rintro r w2 ⟨rfl, nq, rfl⟩
          go_wp2_with fail
          have hcut : BsB wr w.heap.size (some ⟨b, off + run, none⟩) (a - run) ((zs.take a).drop run) := BsB.cut hs1 hb hby run a (a - run) rfl (by omega)
          refine (appendRuns_any w.heap.size n c (a - run) (cap - run) vo _ ys ((zs.take a).drop run) (wr.drewN nq) ho hsz hcut (by omega) (by omega)).mono ?_
          rintro r w3 ⟨ao3, n3, c3, rfl, ho3, hbel3, hk3⟩
          have hn3 : n3 = ys.length + (runs ((zs.take a).drop run)).length := by
            have := ho3.1
            rw [bv_length, List.length_append] at this; omega
          have hn0 : n = ys.length := by
            have := ho.1
            rw [bv_length] at this; omega
          have hn4 : n3 ≤ 2 * a := by
            rw [hn3, Lz.runs_length, hcut.1]; omega
          clear hn3 hn0
          have hB3 : w.heap.size ≤ w3.heap.size := Nat.le_trans hsz hbel3.size
          go_wp2_with fail
          refine (appendCopy_any w.heap.size n3 c3 (mt zs a).1 (mt zs a).2 ao3 _ w3 ho3 hB3 (by omega) hm3 (by omega) hm1 (by omega)).mono ?_
          rintro r w4 ⟨ao4, c4, rfl, ho4, hbel4, hk4⟩
          have hbelw : Below w.heap.size w w4 := ((below_drewN hbel nq).trans hbel3).trans hbel4
          have hT4 : Tr w4 w.heap.size (w.heap.size + 1) zs (min a (len - 2)) := ((hT.drewN nq).kept hk3).kept hk4
          go_wp2_with fail
          rw [show (a : Int) + ((mt zs a).1 : Int) = ((a + (mt zs a).1 : Nat) : Int) by omega]
          refine (addUpTo_any b off len cap _ w.heap.size _ (a + (mt zs a).1) zs _ hz (hs.below hbelw hb) hb hbelw.size (by omega) hby hT4 (by omega)).mono ?_
          rintro r w5 ⟨rfl, hT5, hbel5, hk5⟩
          have HR : Hid (w5.ownsRow w.heap.size 5 1 (.slice ao4 (n3 + 2) c4) (n3 + 2) (bv (ys ++ runs ((zs.take a).drop run) ++ [((mt zs a).1 : Int) + 125, ((mt zs a).2 : Int) - 1])) ∧ Tr w5 w.heap.size (w.heap.size + 1) zs (min (a + (mt zs a).1) (len - 2)) ∧ Below w.heap.size w w5) :=
            ⟨hk5.owns ho4, by rw [show min (a + (mt zs a).1) (len - 2) = max (min a (len - 2)) (min (a + (mt zs a).1) (len - 2)) by omega]; exact hT5, hbelw.trans hbel5⟩
          clear hT hT4 hT5 ho ho3 ho4 hk3 hk4 hk5 hcut hBw
          go_wp2
          go_roundw
          case rel => exact ⟨ao4, n3 + 2, c4, a + (mt zs a).1, a + (mt zs a).1, _, rfl, rfl, rfl, HR.out.1, Nat.le_refl _, by omega, by omega, HK.out.symm.trans HP.out, HR.out.2.1, HR.out.2.2⟩
          case measure => simp only [intOf]; omega
      · have hR := (hB.toB.below hbel).rest run (by omega) hc
        by_cases dc : cap = run
        · rw [if_pos dc] at hR
          obtain rfl := dc
          rw [Nat.sub_eq_zero_of_le hc] at hR
          go_wp2_with fail
          refine (appendRuns_any w.heap.size n c 0 0 vo ao ys (zs.drop cap) _ ho hsz hR (by omega) (by omega)).mono ?_
          rintro r w2 ⟨ao', n', c', rfl, ho', hbel', _⟩
          go_wp2
          go_ret2
          exact .inr ⟨by omega, _, _, _, rfl, by rw [← HP.out, Lz.pk_end _ _ _ _ (by rw [hB.1]; omega)]; exact ho', hbel.trans hbel'⟩
        · rw [if_neg dc] at hR
          go_wp2_with fail
          refine (appendRuns_any w.heap.size n c _ _ vo _ ys (zs.drop run) _ ho hsz hR (by omega) (by omega)).mono ?_
          rintro r w2 ⟨ao', n', c', rfl, ho', hbel', _⟩
          go_wp2
          go_ret2
          exact .inr ⟨by omega, _, _, _, rfl, by rw [← HP.out, Lz.pk_end _ _ _ _ (by rw [hB.1]; omega)]; exact ho', hbel.trans hbel'⟩
end Go.Proofs.Ytahbgebnmgnmoaa

/- The walk of the reference's Unpack: packed bytes are unpacked, or refused, as the document says. -/
import Derived.Test.YtahbgebnmgnmoaaLzUnpack2
namespace Go.Proofs.Ytahbgebnmgnmoaa
set_option linter.unusedVariables false
open Go.RowKit Go.Maps
open Lz (g cp up unpack)

theorem up_at (most : Int) (zs ys : List Int) (a n len : Nat) (hz : zs.length = len) (ha : a < len) (hy : ys.length = n) : up most (zs.drop a) ys =
      if g zs a < 128 then
        if (len : Int) - a - 1 < g zs a + 1 then ([], 2) else
        if most - n < g zs a + 1 then ([], 3) else up most (zs.drop (a + ((g zs a).toNat + 2))) (ys ++ ((zs.take (a + (g zs a).toNat + 2)).drop (a + 1)))
      else
        if (len : Int) - a < 2 ∨ (n : Int) < g zs (a + 1) + 1 then ([], 2) else
        if most - n < g zs a - 125 then ([], 3) else up most (zs.drop (a + 2)) (cp ((g zs (a + 1)).toNat + 1) (g zs a - 125).toNat ys) := by
  have hlen : (zs.drop a).length = len - a := by simp [hz]
  rw [Lz.up_step most (zs.drop a) ys (by omega), hlen, hy, Lz.g_drop, Lz.g_drop, Nat.add_zero]
  have e1 : (((len - a : Nat) : Int) < g zs a + 2) = ((len : Int) - a - 1 < g zs a + 1) := by apply propext; constructor <;> intro h <;> omega
  have e2 : (len - a < 2 ∨ (n : Int) < g zs (a + 1) + 1) = ((len : Int) - a < 2 ∨ (n : Int) < g zs (a + 1) + 1) := by apply propext; constructor <;> intro h <;> omega
  have e3 : List.drop 1 (List.take ((g zs a).toNat + 2) (List.drop a zs)) = (zs.take (a + (g zs a).toNat + 2)).drop (a + 1) := by
    rw [List.take_drop, List.drop_drop]; congr 2
  simp only [e1, e2, e3, List.drop_drop]

set_option maxRecDepth 100000 in
set_option maxHeartbeats 8000000 in
theorem refUnpack_any (len cap : Nat) (most : Int) (ao : Option Addr) (zs : List Int) (w : World) (hB : Bs w ao len zs) (hc : len ≤ cap) (hl : len ≤ 100000) (hm : most ≤ 9223372036854775807) :
    Calls Try.prog 51 #[.slice ao len cap, .int .i64 most] w fun r w' =>
      ∃ ao' n' c', r = .returned (.tuple #[.slice ao' n' c', .int .i64 (unpack zs most).2]) ∧ w'.ownsRow w.heap.size 5 1 (.slice ao' n' c') n' (bv (unpack zs most).1) ∧ Below w.heap.size w w' := by
  by_cases d0 : most < 0
  · have e : unpack zs most = ([], 1) := by unfold unpack; rw [if_pos d0]
    rw [e]
    clear e
    go_enter Try.func51, Try.ntmps51
    go_wp2_with fail
    go_ret2
    exact ⟨_, _, _, rfl, World.ownsRow_nil _ _ _ _, Below.refl _ _⟩
  · have e : unpack zs most = up most zs [] := by unfold unpack; rw [if_neg d0]
    rw [e]
    clear e
    have d0' : decide (most < 0) = false := by simp; omega
    obtain ⟨i0, hi, hz0, hz1, hz2⟩ := info_parts infoByte
    go_enter Try.func51, Try.ntmps51
    go_wp2_with fail
    go_loopw [6, 7] (fun s6 s7 wr => ∃ (vo : Option Addr) (n c a : Nat) (ys : List Int), s6 = .slice vo n c ∧ s7 = .int .i64 a ∧ a ≤ len ∧ wr.ownsRow w.heap.size 5 1 (.slice vo n c) n (bv ys) ∧
        up most (zs.drop a) ys = up most zs [] ∧ n + 130 * (len - a) ≤ 13000000 ∧ Below w.heap.size w wr) (fun _ s7 _ => len - (intOf s7).toNat)
    case atStart => exact ⟨_, 0, 0, 0, [], rfl, rfl, by omega, emptyB (Nat.le_refl _), rfl, by omega, (Below.refl _ _).alloc (Nat.le_refl _) _⟩
    case round =>
      obtain ⟨vo, n, c, a, ys, rfl, rfl, hal, ho, hup, hbd, hbel⟩ := hrel
      have hsz := hbel.size
      have hyl : ys.length = n := by have := ho.1; rw [bv_length] at this; omega
      obtain ⟨hz, hby, h0⟩ := hB
      by_cases d1 : a < len
      · rcases h0 with h0 | ⟨b, off, rfl, hb, hs⟩
        · omega
        rw [up_at most zs ys a n len hz d1 hyl] at hup
        obtain ⟨b1, b2⟩ := hby a
        obtain ⟨b3, b4⟩ := hby (a + 1)
        have hs1 := hs.below hbel hb
        have ca := hs1 a (by omega)
        clear hyl
        by_cases d2 : g zs a < 128
        · rw [if_pos d2] at hup
          by_cases d3 : (len : Int) - a - 1 < g zs a + 1
          · rw [if_pos d3] at hup
            have HU : Hid (([], 2) = up most zs []) := hup
            clear hup
            go_wp2_with fail
            go_ret2
            rw [← HU.out]
            exact ⟨_, _, _, rfl, World.ownsRow_nil _ _ _ _, hbel⟩
          · rw [if_neg d3] at hup
            by_cases d4 : most - n < g zs a + 1
            · rw [if_pos d4] at hup
              have HU : Hid (([], 3) = up most zs []) := hup
              clear hup
              go_wp2_with fail
              go_ret2
              rw [← HU.out]
              exact ⟨_, _, _, rfl, World.ownsRow_nil _ _ _ _, hbel⟩
            · rw [if_neg d4] at hup
              obtain ⟨t, ht⟩ := Int.eq_ofNat_of_zero_le b1
              rw [ht] at hup d2 d3 d4 ca
              simp only [Int.toNat_natCast] at hup
              have HU : Hid (up most (zs.drop (a + (t + 2))) (ys ++ (zs.take (a + t + 2)).drop (a + 1)) = up most zs []) := hup
              clear hup ht b1 b2 b3 b4
              have hcut := hs1.cut (a + 1) (a + t + 2)
              have hnl : (bv ((zs.take (a + t + 2)).drop (a + 1))).length = (t + 1) * 1 := by rw [bv_length]; simp [hz]; omega
              have hcc : ¬ cap = a + 1 := by omega
              have HN : Hid (∀ j u, (bv ((zs.take (a + t + 2)).drop (a + 1)))[j]? = some u → wr.cell? ((⟨b, off + (a + 1), none⟩ : Addr).add j) = some u) := by
                have := news_seg hcut (t + 1)
                rw [List.take_of_length_le (by simp; omega)] at this
                exact this
              have hsub : a + t + 1 - a = t + 1 := by omega
              have hsub2 : a + t + 2 - (a + 1) = t + 1 := by omega
              go_wp2_with (at_builtin; refine wpList_append_lies _ rfl _ _ 33 rfl w.heap.size 5 i0 (.int .u8 0) 1 1 Try.underlying33 hi hz0 hz1 hz2 rfl (by decide) _ _ _ rfl ho ⟨b, off + (a + 1), none⟩ _ _ (bv ((zs.take (a + t + 2)).drop (a + 1))) rfl (by rw [hnl]; omega) HN.out (bv_one _) (by omega) (by unfold maxLen; omega) (by omega) hsz wr.heap.size rfl ?_; intro g1 c1 w1 a1 k1 _ _)
              have HR : Hid ((∀ m, m = t + 1 → w1.ownsRow w.heap.size 5 1 (.slice (some ⟨g1, 0, none⟩) (n + m) c1) (n + m) (bv (ys ++ (zs.take (a + t + 2)).drop (a + 1)))) ∧ Below w.heap.size w w1) :=
                ⟨fun m hm => by rw [bv_append, hm, ← hsub2]; exact a1, hbel.trans (grown_below hsz ho k1)⟩
              clear k1 a1 ho hcut hnl hsub hsub2
              go_wp2
              go_roundw
              case rel => exact ⟨_, _, c1, a + (t + 2), _, rfl, by go_num, by omega, HR.out.1 _ (by omega), HU.out, by omega, HR.out.2⟩
              case measure => simp only [intOf]; omega
        · rw [if_neg d2] at hup
          by_cases d3 : (len : Int) - a < 2
          · rw [if_pos (.inl d3)] at hup
            have HU : Hid (([], 2) = up most zs []) := hup
            clear hup
            go_wp2_with fail
            go_ret2
            rw [← HU.out]
            exact ⟨_, _, _, rfl, World.ownsRow_nil _ _ _ _, hbel⟩
          · have cb := hs1 (a + 1) (by omega)
            by_cases d4 : (n : Int) < g zs (a + 1) + 1
            · rw [if_pos (.inr d4)] at hup
              have HU : Hid (([], 2) = up most zs []) := hup
              clear hup
              go_wp2_with fail
              go_ret2
              rw [← HU.out]
              exact ⟨_, _, _, rfl, World.ownsRow_nil _ _ _ _, hbel⟩
            · rw [if_neg (by omega)] at hup
              by_cases d5 : most - n < g zs a - 125
              · rw [if_pos d5] at hup
                have HU : Hid (([], 3) = up most zs []) := hup
                clear hup
                go_wp2_with fail
                go_ret2
                rw [← HU.out]
                exact ⟨_, _, _, rfl, World.ownsRow_nil _ _ _ _, hbel⟩
              · rw [if_neg d5] at hup
                obtain ⟨L, hL⟩ := Int.eq_ofNat_of_zero_le (show 0 ≤ g zs a - 125 by omega)
                obtain ⟨d, hd⟩ := Int.eq_ofNat_of_zero_le b3
                rw [hL, hd] at hup
                simp only [Int.toNat_natCast] at hup
                have HU : Hid (up most (zs.drop (a + 2)) (cp (d + 1) L ys) = up most zs []) := hup
                have hLb : L ≤ 130 := by omega
                have hdn : d + 1 ≤ n := by omega
                rw [hd] at cb d4
                rw [show g zs a = (L : Int) + 125 by omega] at ca d2 d5 b1 b2
                clear hup hL hd b1 b2 b3 b4
                have HE : Hid (wr.ownsRow w.heap.size 5 1 (.slice vo n c) n (bv ys)) := ho
                clear ho
                go_wp2_with fail
                go_loopw [6, 10] (fun s6 s10 wi => ∃ (ao : Option Addr) (c i : Nat) (us : List Int), s6 = .slice ao (n + i) c ∧ s10 = .int .i64 i ∧ i ≤ L ∧ wi.ownsRow w.heap.size 5 1 (.slice ao (n + i) c) (n + i) (bv us) ∧
                    cp (d + 1) (L - i) us = cp (d + 1) L ys ∧ Below w.heap.size w wi) (fun _ s10 _ => L - (intOf s10).toNat)
                case atStart => exact ⟨vo, c, 0, ys, rfl, rfl, by omega, HE.out, rfl, hbel⟩
                case round =>
                  clear HE ca cb hbel
                  obtain ⟨ao, c, i, us, rfl, rfl, hiL, ho, hcp, hbel⟩ := hrel
                  have HC : Hid (cp (d + 1) (L - i) us = cp (d + 1) L ys) := hcp
                  clear hcp
                  have hsz2 := hbel.size
                  by_cases dd : i < L
                  · obtain ⟨gb, cc, hv, hcells⟩ := owns_bytes ho (by omega)
                    obtain ⟨rfl, rfl⟩ : ao = some ⟨gb, 0, none⟩ ∧ c = cc := by simpa using hv
                    have hel := hcells (n + i - (d + 1)) (by omega)
                    have hyl : us.length = n + i := by have := ho.1; rw [bv_length] at this; omega
                    have HS : Hid (cp (d + 1) (L - i) us = cp (d + 1) (L - (i + 1)) (us ++ [g us (n + i - (d + 1))])) := by
                      rw [show L - i = (L - (i + 1)) + 1 by omega, cp, hyl]; rfl
                    have i1 : (0 : Int) ≤ (n : Int) + i - ((d : Int) + 1) := by omega
                    have i2 : (n : Int) + i - ((d : Int) + 1) < (n : Int) + i := by omega
                    have i3 : ((n : Int) + i - ((d : Int) + 1)).toNat = n + i - (d + 1) := by omega
                    clear hcells hv hyl
                    go_wp2_with (at_builtin; refine wpList_append_lies _ rfl _ _ 33 rfl w.heap.size 5 i0 (.int .u8 0) 1 1 Try.underlying33 hi hz0 hz1 hz2 rfl (by decide) _ _ _ rfl (ho.alloc _) ⟨wr.heap.size, 0, none⟩ 1 1 (bv [g us (n + i - (d + 1))]) rfl rfl (cell_one_new wr _ _) (bv_one _) (by decide) (by unfold maxLen; omega) (by omega) (by simp; omega) (wr.heap.size + 1) (by simp) ?_; intro g1 c1 w1 a1 k1 _ _)
                    have HR : Hid (w1.ownsRow w.heap.size 5 1 (.slice (some ⟨g1, 0, none⟩) (n + (i + 1)) c1) (n + (i + 1)) (bv (us ++ [g us (n + i - (d + 1))])) ∧ Below w.heap.size w w1) :=
                      ⟨by rw [bv_append]; exact a1, hbel.trans (grown_below hsz2 ho (grown_alloc k1))⟩
                    clear k1 a1 ho hel i1 i2 i3
                    go_wp2
                    go_roundw
                    case rel => exact ⟨_, c1, i + 1, _, rfl, by go_num, by omega, HR.out.1, HS.out.symm.trans HC.out, HR.out.2⟩
                    case measure => simp only [intOf]; omega
                  · obtain rfl : i = L := by omega
                    have HO : Hid (wr.ownsRow w.heap.size 5 1 (.slice ao (n + i) c) (n + i) (bv (cp (d + 1) i ys))) := by
                      have := HC.out
                      rw [Nat.sub_self] at this
                      rw [← this]; exact ho
                    clear ho HC
                    go_wp2
                    go_roundw
                    case rel => exact ⟨_, _, c, a + 2, _, rfl, by go_num, by omega, HO.out, HU.out, by omega, hbel⟩
                    case measure => simp only [intOf]; omega
      · have HU : Hid ((ys, 0) = up most zs []) := by
          have h0' : (zs.drop a).length = 0 := by rw [List.length_drop]; omega
          rw [← hup, Lz.up_end _ _ _ h0']; exact rfl
        clear hup
        go_wp2
        go_ret2
        rw [← HU.out]
        exact ⟨_, _, _, rfl, ho, hbel⟩
end Go.Proofs.Ytahbgebnmgnmoaa

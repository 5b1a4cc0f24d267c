/- The walk of lz.Unpack: packed bytes are unpacked, or refused, as the document says. -/
import Derived.Test.YtahbgebnmgnmoaaLzUnpack
namespace Go.Proofs.Ytahbgebnmgnmoaa
set_option linter.unusedVariables false
open Go.RowKit Go.Maps
open Lz (g cp up unpack)

theorem tok_cell {w : World} {p : Nat} {x y z u : Value} {t : TypeId} (h : w.heap[p]? = some (Obj.cells #[x, y, z, u] t (0, 0))) : w.cell? ⟨p, 3, none⟩ = some u := by
  rw [cell_of_row w p 3 _ _ _ h]; rfl
/-- The rest of a slice behind m bytes. -/
theorem rest_of {w : World} {B b off len cap : Nat} {rest : List Int} (hs : Seg w b off rest) (hb : b < B) (hby : ∀ i, 0 ≤ g rest i ∧ g rest i ≤ 255) (hz : rest.length = len) (hc : len ≤ cap) (m : Nat) :
    BsB w B (if cap = m then some ⟨b, off, none⟩ else some ⟨b, off + m, none⟩) (len - m) (rest.drop m) := by
  refine ⟨by simp [hz], bytes_drop hby m, ?_⟩
  by_cases e : len ≤ m
  · exact .inl (by omega)
  · refine .inr ⟨b, off + m, by rw [if_neg (by omega)], hb, ?_⟩
    have := hs.cut m len
    rw [List.take_of_length_le (by omega)] at this
    exact this

set_option maxRecDepth 100000 in
set_option maxHeartbeats 4000000 in
theorem Unpack_any (len cap : Nat) (most : Int) (ao : Option Addr) (zs : List Int) (w : World) (hB : Bs w ao len zs) (hc : len ≤ cap) (hl : len ≤ 100000) (hm : most ≤ 9223372036854775807) :
    Calls Try.prog 78 #[.slice ao len cap, .int .i64 most] w fun r w' =>
      ∃ ao' n' c', r = .returned (.tuple #[.slice ao' n' c', .int .i64 (unpack zs most).2]) ∧ w'.ownsRow w.heap.size 5 1 (.slice ao' n' c') n' (bv (unpack zs most).1) ∧ Below w.heap.size w w' := by
  by_cases d0 : most < 0
  · have e : unpack zs most = ([], 1) := by unfold unpack; rw [if_pos d0]
    rw [e]
    clear e
    go_enter Try.func78, Try.ntmps78
    go_wp2_with fail
    go_ret2
    exact ⟨_, _, _, rfl, World.ownsRow_nil _ _ _ _, Below.refl _ _⟩
  · have e : unpack zs most = up most zs [] := by unfold unpack; rw [if_neg d0]
    rw [e]
    clear e
    have d0' : decide (most < 0) = false := by simp; omega
    go_enter Try.func78, Try.ntmps78
    go_wp2_with fail
    go_loopw [0, 6] (fun s0 s6 wr => ∃ (ao : Option Addr) (len cap : Nat) (rest : List Int) (vo : Option Addr) (n c : Nat) (ys : List Int), s0 = .slice ao len cap ∧ s6 = .slice vo n c ∧ BsB wr w.heap.size ao len rest ∧
        wr.ownsRow w.heap.size 5 1 (.slice vo n c) n (bv ys) ∧ up most rest ys = up most zs [] ∧ len ≤ cap ∧ n + 130 * len ≤ 13000000 ∧ Below w.heap.size w wr) (fun s0 _ _ => lenOf s0)
    case atStart => exact ⟨ao, len, cap, zs, none, 0, 0, [], rfl, rfl, hB.toB, World.ownsRow_nil _ _ _ _, rfl, hc, by omega, Below.refl _ _⟩
    case round =>
      clear hB hc hl
      obtain ⟨ao, len, cap, rest, vo, n, c, ys, rfl, rfl, hB, ho, hup, hc, hbd, hbel⟩ := hrel
      have hsz := hbel.size
      have hyl : ys.length = n := by have := ho.1; rw [bv_length] at this; omega
      by_cases d1 : 0 < len
      · obtain ⟨hz, hby, h0⟩ := hB
        rcases h0 with h0 | ⟨b, off, rfl, hb, hs⟩
        · omega
        rw [Lz.up_step most rest ys (by omega), hz, hyl] at hup
        obtain ⟨b1, b2⟩ := hby 0
        obtain ⟨b3, b4⟩ := hby 1
        have hft := firstToken_any b off len cap rest wr hz hs hby d1 hc (by omega)
        have HFT : Hid (Calls Try.prog 80 #[.slice (some ⟨b, off, none⟩) len cap] wr fun r w' => r = .returned (.tuple #[(ft rest len cap b off).1, .bool (ft rest len cap b off).2]) ∧ Below wr.heap.size wr w') := hft
        clear hft
        by_cases d2 : g rest 0 < 128
        · rw [if_pos d2] at hup
          by_cases d3 : (len : Int) < g rest 0 + 2
          · rw [if_pos d3] at hup
            have eft : ft rest len cap b off = (tok (.slice none 0 0) 0 0 0, false) := by unfold ft; rw [if_pos d2, if_pos d3]
            rw [eft] at HFT
            unfold tok at HFT
            have HU : Hid (([], 2) = up most zs []) := hup
            clear hup eft
            go_wp2_with fail
            refine (HFT.out).mono ?_
            rintro r w1 ⟨rfl, hb1⟩
            have hE : Below w.heap.size w w1 := hbel.trans (hb1.mono hsz)
            go_wp2_with fail
            go_ret2
            rw [← HU.out]
            exact ⟨_, _, _, rfl, World.ownsRow_nil _ _ _ _, hE.alloc hE.size _⟩
          · rw [if_neg d3] at hup
            have eft : ft rest len cap b off = (tok (.slice (some ⟨b, off + 1, none⟩) ((g rest 0).toNat + 1) (cap - 1)) (g rest 0 + 1) 0 (g rest 0 + 2), true) := by unfold ft; rw [if_pos d2, if_neg d3]
            rw [eft] at HFT
            unfold tok at HFT
            clear eft
            by_cases d4 : most - n < g rest 0 + 1
            · rw [if_pos d4] at hup
              have HU : Hid (([], 3) = up most zs []) := hup
              clear hup
              go_wp2_with fail
              refine (HFT.out).mono ?_
              rintro r w1 ⟨rfl, hb1⟩
              have hE : Below w.heap.size w w1 := hbel.trans (hb1.mono hsz)
              go_wp2_with fail
              go_ret2
              rw [← HU.out]
              exact ⟨_, _, _, rfl, World.ownsRow_nil _ _ _ _, hE.alloc hE.size _⟩
            · rw [if_neg d4] at hup
              obtain ⟨t, ht⟩ := Int.eq_ofNat_of_zero_le b1
              have HB : Hid (∀ i, 0 ≤ g rest i ∧ g rest i ≤ 255) := hby
              rw [ht] at HFT hup d2 d3 d4
              simp only [Int.toNat_natCast] at HFT hup
              have HU : Hid (up most (rest.drop (t + 2)) (ys ++ (rest.take (t + 2)).drop 1) = up most zs []) := hup
              clear hup ht b1 b2 b3 b4 hby hyl
              have hl1 : ((rest.take (t + 2)).drop 1).length = t + 1 := by simp [hz]; omega
              have HL : Hid (((rest.take (t + 2)).drop 1).length = t + 1) := hl1
              clear hl1
              go_wp2_with fail
              refine (HFT.out).mono ?_
              rintro r w1 ⟨rfl, hb1⟩
              have hE : Below w.heap.size w w1 := hbel.trans (hb1.mono hsz)
              have ho1 := owns_below ho hb1
              have hs1 : Seg w1 b off rest := hs.below hb1 (by omega)
              have hBw1 := hE.size
              obtain ⟨W, hW⟩ : ∃ W, W = w1.alloc (Obj.cells #[.slice (some ⟨b, off + 1, none⟩) (t + 1) (cap - 1), .int .i64 ((t : Int) + 1), .int .i64 0, .int .i64 ((t : Int) + 2)] 130) := ⟨_, rfl⟩
              have HW : Hid (W = w1.alloc (Obj.cells #[.slice (some ⟨b, off + 1, none⟩) (t + 1) (cap - 1), .int .i64 ((t : Int) + 1), .int .i64 0, .int .i64 ((t : Int) + 2)] 130)) := hW
              have hcall := appendTo_run w.heap.size n c (t + 1) (cap - 1) b (off + 1) ((t : Int) + 1) ((t : Int) + 2) vo ys ((rest.take (t + 2)).drop 1) W (by rw [hW]; exact ho1.alloc _) (by rw [hW]; simp; omega)
                (by rw [hW]; exact ((hs1.below ((Below.refl _ _).alloc hBw1 _) hb).cut 1 (t + 2))) hb HL.out (by omega) (by omega)
              rw [hW] at hcall
              have HCA : Hid (Calls Try.prog 81 #[.agg #[.slice (some ⟨b, off + 1, none⟩) (t + 1) (cap - 1), .int .i64 ((t : Int) + 1), .int .i64 0, .int .i64 ((t : Int) + 2)], .slice vo n c]
                  (w1.alloc (Obj.cells #[.slice (some ⟨b, off + 1, none⟩) (t + 1) (cap - 1), .int .i64 ((t : Int) + 1), .int .i64 0, .int .i64 ((t : Int) + 2)] 130)) _) := hcall
              clear hcall hW HW
              go_wp2_with fail
              refine (HCA.out).mono ?_
              rintro r w2 ⟨ao2, c2, rfl, ho2, hb2, hk2⟩
              have hbox := tok_cell (hk2 _ _ (heap_alloc_new w1 _) (by simp))
              have hE2 : Below w.heap.size w w2 := (hE.alloc hBw1 _).trans hb2
              have HR : Hid (BsB w2 w.heap.size (if cap = t + 2 then some ⟨b, off, none⟩ else some ⟨b, off + (t + 2), none⟩) (len - (t + 2)) (rest.drop (t + 2))) :=
                rest_of ((hs1.below ((Below.refl _ _).alloc hBw1 _) hb).below hb2 hb) hb HB.out hz hc (t + 2)
              have HO : Hid (w2.ownsRow w.heap.size 5 1 (.slice ao2 (n + (t + 1)) c2) (n + (t + 1)) (bv (ys ++ (rest.take (t + 2)).drop 1))) := ho2
              clear HCA ho2 hb2 hk2 ho ho1 hs1 hs HFT
              go_wp2
              go_roundw
              case rel => exact ⟨_, _, _, _, _, _, _, _, rfl, rfl, HR.out, HO.out, HU.out, by omega, by omega, hE2⟩
              case measure => simp only [lenOf]; omega
        · rw [if_neg d2] at hup
          by_cases d3 : len < 2
          · rw [if_pos (.inl d3)] at hup
            have eft : ft rest len cap b off = (tok (.slice none 0 0) 0 0 0, false) := by unfold ft; rw [if_neg d2, if_pos d3]
            rw [eft] at HFT
            unfold tok at HFT
            have HU : Hid (([], 2) = up most zs []) := hup
            clear hup eft
            go_wp2_with fail
            refine (HFT.out).mono ?_
            rintro r w1 ⟨rfl, hb1⟩
            have hE : Below w.heap.size w w1 := hbel.trans (hb1.mono hsz)
            go_wp2_with fail
            go_ret2
            rw [← HU.out]
            exact ⟨_, _, _, rfl, World.ownsRow_nil _ _ _ _, hE.alloc hE.size _⟩
          · have eft : ft rest len cap b off = (tok (.slice none 0 0) (g rest 0 - 125) (g rest 1 + 1) 2, true) := by unfold ft; rw [if_neg d2, if_neg d3]
            rw [eft] at HFT
            unfold tok at HFT
            clear eft
            by_cases d4 : (n : Int) < g rest 1 + 1
            · rw [if_pos (.inr d4)] at hup
              have HU : Hid (([], 2) = up most zs []) := hup
              clear hup
              go_wp2_with fail
              refine (HFT.out).mono ?_
              rintro r w1 ⟨rfl, hb1⟩
              have hE : Below w.heap.size w w1 := hbel.trans (hb1.mono hsz)
              go_wp2_with fail
              go_ret2
              rw [← HU.out]
              exact ⟨_, _, _, rfl, World.ownsRow_nil _ _ _ _, hE.alloc hE.size _⟩
            · rw [if_neg (by omega)] at hup
              by_cases d5 : most - n < g rest 0 - 125
              · rw [if_pos d5] at hup
                have HU : Hid (([], 3) = up most zs []) := hup
                clear hup
                go_wp2_with fail
                refine (HFT.out).mono ?_
                rintro r w1 ⟨rfl, hb1⟩
                have hE : Below w.heap.size w w1 := hbel.trans (hb1.mono hsz)
                go_wp2_with fail
                go_ret2
                rw [← HU.out]
                exact ⟨_, _, _, rfl, World.ownsRow_nil _ _ _ _, hE.alloc hE.size _⟩
              · rw [if_neg d5] at hup
                obtain ⟨t, ht⟩ := Int.eq_ofNat_of_zero_le (show 0 ≤ g rest 0 - 125 by omega)
                obtain ⟨d, hd⟩ := Int.eq_ofNat_of_zero_le b3
                have HB : Hid (∀ i, 0 ≤ g rest i ∧ g rest i ≤ 255) := hby
                have htb : t ≤ 130 := by omega
                rw [hd] at HFT hup d4
                rw [ht] at HFT hup d5
                simp only [Int.toNat_natCast] at hup
                rw [show (d : Int) + 1 = ((d + 1 : Nat) : Int) by omega] at HFT
                have HU : Hid (up most (rest.drop 2) (cp (d + 1) t ys) = up most zs []) := hup
                have hdn : d + 1 ≤ n := by omega
                clear hup ht hd b1 b2 b3 b4 hby hyl d2 d4
                go_wp2_with fail
                refine (HFT.out).mono ?_
                rintro r w1 ⟨rfl, hb1⟩
                have hE : Below w.heap.size w w1 := hbel.trans (hb1.mono hsz)
                have ho1 := owns_below ho hb1
                have hs1 : Seg w1 b off rest := hs.below hb1 (by omega)
                have hBw1 := hE.size
                have hcall := appendTo_copy w.heap.size n c t (d + 1) (.slice none 0 0) 2 vo ys (w1.alloc (Obj.cells #[.slice none 0 0, .int .i64 (t : Int), .int .i64 ((d + 1 : Nat) : Int), .int .i64 2] 130)) (ho1.alloc _) (by simp; omega) ⟨_, _, _, rfl⟩ (by omega) hdn htb (by omega)
                rw [show ((d + 1 : Nat) : Int) = (d : Int) + 1 by omega] at hcall
                have HCA : Hid (Calls Try.prog 81 #[.agg #[.slice none 0 0, .int .i64 (t : Int), .int .i64 ((d : Int) + 1), .int .i64 2], .slice vo n c]
                    (w1.alloc (Obj.cells #[.slice none 0 0, .int .i64 (t : Int), .int .i64 ((d : Int) + 1), .int .i64 2] 130)) _) := hcall
                clear hcall
                go_wp2_with fail
                refine (HCA.out).mono ?_
                rintro r w2 ⟨ao2, c2, rfl, ho2, hb2, hk2⟩
                have hbox := tok_cell (hk2 _ _ (heap_alloc_new w1 _) (by simp))
                have hE2 : Below w.heap.size w w2 := (hE.alloc hBw1 _).trans hb2
                have HR : Hid (BsB w2 w.heap.size (if cap = 2 then some ⟨b, off, none⟩ else some ⟨b, off + 2, none⟩) (len - 2) (rest.drop 2)) :=
                  rest_of ((hs1.below ((Below.refl _ _).alloc hBw1 _) hb).below hb2 hb) hb HB.out hz hc 2
                have HO : Hid (w2.ownsRow w.heap.size 5 1 (.slice ao2 (n + t) c2) (n + t) (bv (cp (d + 1) t ys))) := ho2
                clear HCA ho2 hb2 hk2 ho ho1 hs1 hs HFT
                go_wp2
                go_roundw
                case rel => exact ⟨_, _, _, _, _, _, _, _, rfl, rfl, HR.out, HO.out, HU.out, by omega, by omega, hE2⟩
                case measure => simp only [lenOf]; omega
      · go_wp2
        go_ret2
        have hup' := hup
        rw [Lz.up_end most rest ys (by rw [hB.1]; omega)] at hup'
        rw [← hup']
        exact ⟨_, _, _, rfl, ho, hbel⟩
end Go.Proofs.Ytahbgebnmgnmoaa

/- The walks of the reference's reader's Read and Next. -/
import Derived.Test.YtgkclldiphcogaaMetRefR
import Derived.Test.YtgkclldiphcogaaMetJoin
namespace Go.Proofs.Ytgkclldiphcogaa
set_option linter.unusedVariables false
open Go.RowKit Go.Maps
open Lz (g)
open Crc (ent)
open Frm Mtr

/-- What the reference's Read answers. -/
def YReads (w w' : World) (X : List Int) (ref : Int) (n : Nat) (r : Ending) : Prop :=
  Below w.heap.size w w' ∧ ((rd ent X ref n = none ∧ r = .returned (.tuple #[.slice none 0 0, .int .i64 0, .int .i64 2])) ∨
    ∃ z nx ao c, rd ent X ref n = some (z, nx) ∧ r = .returned (.tuple #[.slice ao n c, .int .i64 nx, .int .i64 0]) ∧ Bs w' ao n z ∧ (∀ x, ao = some x → w.heap.size ≤ x.block) ∧ n ≤ c ∧ c ≤ 9223372036854775807 ∧ (ao = none → c = 0))
theorem pt_full {X : List Int} {k u n : Nat} (hu : u < 256) (hn : 0 < n) (h0 : (hold X k).2.2 = 0) (hl : u < (hold X k).1.length) {m : Nat} (hm : min n ((hold X k).1.length - u) = m) :
    pt ent X (256 * (k : Int) + u) n = some (((hold X k).1.drop u).take m, if u + m = 128 then 256 * (hold X k).2.1 else 256 * (k : Int) + ((u + m : Nat) : Int)) := by
  rw [pt_hold hu hn, if_neg (fun hx => by
    rcases hx with hx | hx
    · exact hx h0
    · omega), hm]
  congr 2
  rw [List.take_eq_take_iff]
  simp; omega
theorem pt_over {X : List Int} {k u n : Nat} (hu : u < 256) (hn : 0 < n) (h : (hold X k).2.2 ≠ 0 ∨ (hold X k).1.length ≤ u) : pt ent X (256 * (k : Int) + u) n = none := by
  rw [pt_hold hu hn, if_pos h]

set_option maxRecDepth 100000 in
set_option maxHeartbeats 1000000 in
theorem yRead_any (y n0 c0 a b : Nat) (Im : List Int) (ao0 : Option Addr) (ref n : Nat) (w : World) (h : RdY w y Im a b ao0 n0 c0) (hab : a ≤ b) (hbn : b ≤ n0) (hr : (ref : Int) ≤ 9223372036854775807) (hn : n ≤ 100000) :
    Calls Try.prog 46 #[.pointer (some ⟨y, 0, none⟩), .int .i64 ref, .int .i64 n] w fun r w' => YReads w w' ((Im.take b).drop a) ref n r := by
  have himl := h.bs.1
  have hXl := cut_length (Im := Im) (a := a) (b := b) (by omega)
  have hlit := h.lit
  have HXb : Hid (Bytes ((Im.take b).drop a)) := (h.bs.bytes.take _).drop _
  have g1 : ((ref : Int) < 0) = False := by simp
  have g2 : ((n : Int) < 0) = False := by simp
  have HM := hide (yMay_any y n0 c0 Im a b ao0 w h (by omega) (by omega) true (by simp; omega))
  have HHo := hide (fun (w' : World) (hb : Below w.heap.size w w') (k : Nat) (hk : (k : Int) ≤ 9223372036854775807) => yHolds_any y n0 c0 k a b Im ao0 w' (h.below hb) hab hbn hk)
  generalize (Im.take b).drop a = X at *
  clear h
  go_enter Try.func46, Try.ntmps46
  go_wp2_with fail
  refine HM.out.mono ?_
  rintro r w1 ⟨rfl, hb1⟩
  have HB1 := hide hb1
  have hoe := emptyB (w := w1) (B := w.heap.size) hb1.size
  have HOe := hide hoe
  have HBa := hide (hb1.alloc hb1.size (.cells #[] 5))
  clear hb1 HM hoe
  go_wp2_with fail
  go_loopw [10, 11, 12] (fun s10 s11 s12 wr => ∃ (uo : Option Addr) (k uc t u f : Nat) (out : List Int), s10 = .slice uo k uc ∧ s11 = .int .i64 t ∧ s12 = .int .i64 u ∧ k ≤ n ∧ u < 256 ∧ (t : Int) ≤ 36028797018963967 ∧ wr.ownsRow w.heap.size 5 1 (.slice uo k uc) k (bv out) ∧ Bytes out ∧ Below w.heap.size w wr ∧ n - k ≤ f ∧
    Hid (rd ent X ref n = (rdF ent X f (256 * (t : Int) + u) (n - k)).map fun q => (out ++ q.1, q.2))) (fun s10 _ _ _ => n - (match s10 with | .slice _ k _ => k | _ => 0))
  case atStart =>
    refine ⟨_, 0, 0, ref / 256, ref % 256, n, [], rfl, by go_num, by go_num, by omega, by omega, by omega, HOe.out, Bytes.nil, HBa.out, by omega, ?_⟩
    show rd ent X ref n = _
    unfold rd
    rw [show 256 * ((ref / 256 : Nat) : Int) + ((ref % 256 : Nat) : Int) = (ref : Int) by omega]
    simp
  case round =>
    clear HOe HBa
    obtain ⟨uo, k, uc, t, u, f, out, rfl, rfl, rfl, hkn, hu, ht, ho, hby, hb, hf, HE⟩ := hrel
    by_cases hgo : k < n
    · have hhl := hold_len HXb.out (t : Int)
      have hhb := hold_bd X (t : Int)
      have HP1 := hide (fun (h : (hold X t).2.2 ≠ 0 ∨ (hold X t).1.length ≤ u) => pt_over (X := X) (k := t) (u := u) (n := n - k) hu (by omega) h)
      have HP2 := hide (fun (h0 : (hold X t).2.2 = 0) (hl : u < (hold X t).1.length) (m : Nat) (hm : min (n - k) ((hold X t).1.length - u) = m) => pt_full (X := X) (k := t) (u := u) (n := n - k) hu (by omega) h0 hl hm)
      have HP3 := hide (fun (m : Nat) (hm : 0 < m) (u' : Nat) (hu' : u' < 256) (hl : (hold X t).1.length ≤ u') => pt_over (X := X) (k := t) (u := u') (n := m) hu' hm (.inr hl))
      have HK := hide (HHo.out wr hb t (by omega))
      unfold Holds at HK
      generalize hold X (t : Int) = hd at *
      obtain ⟨bs, nx, er⟩ := hd
      simp only at hhl hhb HP1 HP2 HP3 HK
      have HO := hide ho
      have HY := hide hby
      have HB := hide hb
      have i1 : (k : Int) < (n : Int) := by omega
      clear ho hby hb
      go_wp2_with fail
      refine HK.out.mono ?_
      rintro r w5 ⟨ao5, L, c5, hL, rfl, hB5, hc5, hn5, hb5⟩
      rw [hL] at hhl HP1 HP2 HP3
      have HB5 := hide hB5
      have hbw := HB.out.trans (hb5.mono HB.out.size)
      have HBw := hide hbw
      have HO5 := hide (owns_below HO.out hb5)
      have hs5 := hbw.size
      clear hb5 HK hB5 hbw HO HB
      by_cases he : er = 0
      · subst he
        obtain ⟨b1, b2, b3⟩ := hhb rfl
        by_cases hLu : L ≤ u
        · have HX : Hid (YReads w w5 X ref n (.returned (.tuple #[.slice none 0 0, .int .i64 0, .int .i64 2]))) := ⟨HBw.out, .inl ⟨rd_none HE.out hf (by omega) (HP1.out (.inr hLu)), rfl⟩⟩
          have i2 : (L : Int) ≤ (u : Int) := by omega
          clear HP1 HP2 HP3 HE
          go_wp2
          go_ret3
          exact HX.out
        · have i2 : (u : Int) < (L : Int) := by omega
          have i3 : decide ((L : Int) ≤ (u : Int)) = false := by simp; omega
          obtain ⟨bb, off, rfl⟩ : ∃ bb off, ao5 = some ⟨bb, off, none⟩ := by
            rcases HB5.out.2.2 with h | ⟨bb, off, h, _⟩
            · omega
            · exact ⟨bb, off, h⟩
          obtain ⟨m, hm⟩ : ∃ m, min (n - k) (L - u) = m := ⟨_, rfl⟩
          have hp := HP2.out rfl (by omega) m hm
          have hm1 : 1 ≤ m := by omega
          have hzl : ((bs.drop u).take m).length = m := by simp; omega
          have hBp : Bs w5 (some ⟨bb, off + u, none⟩) m ((bs.drop u).take m) := by
            rcases HB5.out.2.2 with h | ⟨b', off', h, hlt, hs⟩
            · omega
            · obtain ⟨rfl, rfl⟩ : bb = b' ∧ off = off' := by simpa using h
              refine ⟨hzl, bytes_take (bytes_drop HB5.out.2.1 u) m, .inr ⟨bb, off + u, rfl, hlt, fun i hi => ?_⟩⟩
              rw [hzl] at hi
              rw [Lz.g_take _ _ _ hi, Lz.g_drop, Nat.add_assoc]
              exact hs (u + i) (by omega)
          have HBp := hide hBp
          have HBz : Hid (Bytes (out ++ (bs.drop u).take m)) := HY.out.append (((Bytes.of_g HB5.out.2.1).drop u).take m)
          have HE2 := hide (rd_some HE.out hf (by omega) hp hzl)
          have hu4 : ¬ c5 = u := by omega
          obtain ⟨v, hv⟩ : ∃ v, u + m = v := ⟨_, rfl⟩
          rw [hv] at HE2
          have hvi : (u : Int) + (m : Int) = (v : Int) := by omega
          have hvm : v - u = m := by omega
          have i5 : (v : Int) ≤ (c5 : Int) := by omega
          have i7 : (u : Int) ≤ (v : Int) := by omega
          have hvb : v ≤ 128 := by omega
          have hcase : (n - k ≤ L - u ∧ m = n - k ∧ (n : Int) - (k : Int) ≤ (L : Int) - (u : Int) ∧ (n : Int) - (k : Int) = (m : Int)) ∨ (L - u < n - k ∧ m = L - u ∧ (L : Int) - (u : Int) < (n : Int) - (k : Int) ∧ decide ((n : Int) - (k : Int) ≤ (L : Int) - (u : Int)) = false ∧ (L : Int) - (u : Int) = (m : Int)) := by
            by_cases h : n - k ≤ L - u
            · exact .inl ⟨h, by omega, by omega, by omega⟩
            · exact .inr ⟨by omega, by omega, by omega, by simp; omega, by omega⟩
          clear hBp hp HB5 HP1 HP2 HY HE hm hzl
          rcases hcase with ⟨q1, q2, q3, q4⟩ | ⟨q1, q2, q3, q4, q5⟩
          · have q7 : decide ((k : Int) + (m : Int) < (n : Int)) = false := by simp; omega
            have q8 : (n : Int) ≤ (k : Int) + (m : Int) := by omega
            by_cases h8 : v = 128
            · subst h8
              rw [if_pos rfl] at HE2
              obtain ⟨nn, rfl⟩ : ∃ nn : Nat, nx = nn := ⟨nx.toNat, by omega⟩
              clear q2 HP3 hv
              go_wp2_with (first
                | (at_builtin; refine wpList_append_bs _ rfl (.tmp 60) (.tmp 66) rfl w.heap.size uo k uc out rfl HO5.out _ m _ ((bs.drop u).take m) rfl HBp.out (fun h => by simp at h) (by omega) hs5 ?_; intro ao6 c6 w6 ho6 hg6; have HO6 := hide ho6; have HB6 := hide (HBw.out.trans (grown_below hs5 HO5.out hg6)); clear ho6 hg6))
              go_roundw
              case rel =>
                refine ⟨ao6, k + m, c6, nn, 0, f - 1, _, rfl, rfl, rfl, by omega, by omega, by omega, HO6.out, HBz.out, HB6.out, by omega, ?_⟩
                have := HE2.out
                rw [show n - k - m = n - (k + m) by omega] at this
                rw [show (256 * (nn : Int) + ((0 : Nat) : Int)) = 256 * nn by omega]
                exact this
              case measure => simp only []; omega
            · have h8' : ((v : Int) == 128) = false := by simp; omega
              rw [if_neg h8] at HE2
              clear q2 HP3 hv
              go_wp2_with (first
                | (at_builtin; refine wpList_append_bs _ rfl (.tmp 60) (.tmp 66) rfl w.heap.size uo k uc out rfl HO5.out _ m _ ((bs.drop u).take m) rfl HBp.out (fun h => by simp at h) (by omega) hs5 ?_; intro ao6 c6 w6 ho6 hg6; have HO6 := hide ho6; have HB6 := hide (HBw.out.trans (grown_below hs5 HO5.out hg6)); clear ho6 hg6))
              go_roundw
              case rel =>
                refine ⟨ao6, k + m, c6, t, v, f - 1, _, rfl, rfl, rfl, by omega, by omega, by omega, HO6.out, HBz.out, HB6.out, by omega, ?_⟩
                have := HE2.out
                rw [show n - k - m = n - (k + m) by omega] at this
                exact this
              case measure => simp only []; omega
          · have q7 : (k : Int) + (m : Int) < (n : Int) := by omega
            have q8 : decide ((k : Int) + (m : Int) < (n : Int)) = true := by simp; omega
            by_cases h8 : v = 128
            · subst h8
              have hL8 : L = 128 := by omega
              rw [if_pos rfl] at HE2
              obtain ⟨nn, rfl⟩ : ∃ nn : Nat, nx = nn := ⟨nx.toNat, by omega⟩
              have q9 : (128 : Int) ≤ (L : Int) := by omega
              have q10 : decide ((L : Int) < 128) = false := by simp; omega
              clear q2 HP3 hv hL8
              go_wp2_with (first
                | (at_builtin; refine wpList_append_bs _ rfl (.tmp 60) (.tmp 66) rfl w.heap.size uo k uc out rfl HO5.out _ m _ ((bs.drop u).take m) rfl HBp.out (fun h => by simp at h) (by omega) hs5 ?_; intro ao6 c6 w6 ho6 hg6; have HO6 := hide ho6; have HB6 := hide (HBw.out.trans (grown_below hs5 HO5.out hg6)); clear ho6 hg6))
              go_roundw
              case rel =>
                refine ⟨ao6, k + m, c6, nn, 0, f - 1, _, rfl, rfl, rfl, by omega, by omega, by omega, HO6.out, HBz.out, HB6.out, by omega, ?_⟩
                have := HE2.out
                rw [show n - k - m = n - (k + m) by omega] at this
                rw [show (256 * (nn : Int) + ((0 : Nat) : Int)) = 256 * nn by omega]
                exact this
              case measure => simp only []; omega
            · have hLv : L ≤ v := by omega
              have q9 : (L : Int) < 128 := by omega
              rw [if_neg h8] at HE2
              have hnone : rd ent X ref n = none := rd_none HE2.out (by omega) (by omega) (HP3.out _ (by omega) v (by omega) hLv)
              have HNo := hide hnone
              clear q2 HP3 hv hLv hnone HE2
              go_wp2_with (first
                | (at_builtin; refine wpList_append_bs _ rfl (.tmp 60) (.tmp 66) rfl w.heap.size uo k uc out rfl HO5.out _ m _ ((bs.drop u).take m) rfl HBp.out (fun h => by simp at h) (by omega) hs5 ?_; intro ao6 c6 w6 ho6 hg6; have HO6 := hide ho6; have HB6 := hide (HBw.out.trans (grown_below hs5 HO5.out hg6)); clear ho6 hg6))
              go_wp2
              go_ret3
              exact ⟨HB6.out, .inl ⟨HNo.out, rfl⟩⟩
      · have HX : Hid (YReads w w5 X ref n (.returned (.tuple #[.slice none 0 0, .int .i64 0, .int .i64 2]))) := ⟨HBw.out, .inl ⟨rd_none HE.out hf (by omega) (HP1.out (.inl he)), rfl⟩⟩
        have i2 : (er == 0) = false := by simp; exact he
        clear HP1 HP2 HP3 HE hhb
        go_wp2
        go_ret3
        exact HX.out
    · obtain rfl : k = n := by omega
      have HX : Hid (YReads w wr X ref k (.returned (.tuple #[.slice uo k uc, .int .i64 (256 * (t : Int) + u), .int .i64 0]))) := by
        refine ⟨hb, .inr ⟨out, 256 * (t : Int) + u, uo, uc, ?_, rfl, bs_of_owns ho hby, fun x hx => (ho.lt x.block (by subst hx; simp [Value.ownBlock])).1, cap_of_owns ho, max_of_owns ho, nil_cap ho⟩⟩
        rw [HE.out, Nat.sub_self, rdF_zero]; simp
      have i1 : decide ((k : Int) < (k : Int)) = false := by simp
      clear ho hby hb HE
      go_wp2
      go_ret3
      exact HX.out
end Go.Proofs.Ytgkclldiphcogaa

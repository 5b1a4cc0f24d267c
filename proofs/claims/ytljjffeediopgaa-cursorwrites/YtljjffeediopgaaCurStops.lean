/- The walk of the law CursorStops. -/
import Derived.Test.YtljjffeediopgaaCurShown
import Derived.Test.YtljjffeediopgaaCurOpen
import Derived.Deep.CutRange
namespace Go.Proofs.Ytljjffeediopgaa
set_option linter.unusedVariables false
open Go.RowKit Go.Maps
open Lz (g)
open Cur

theorem rLeft_any (p L : Nat) (s : St) (w : World) (h : RdP w p L s) : Calls Try.prog 18 #[.pointer (some ⟨p, 0, none⟩)] w fun e w' => e = .returned (.int .i64 s.1.length) ∧ w' = w := by
  obtain ⟨ao, n, c, h1, h2, _⟩ := h
  rw [h2.1]
  exact Left_any _ p n c ao s.2 w h1
theorem rErr_any (p L : Nat) (s : St) (w : World) (h : RdP w p L s) : Calls Try.prog 20 #[.pointer (some ⟨p, 0, none⟩)] w fun e w' => e = .returned (.int .i64 s.2) ∧ w' = w := by
  obtain ⟨ao, n, c, h1, h2, _⟩ := h
  exact Err_any _ p n c ao s.2 w h1
/-- Behind an error nothing turns any more. -/
theorem dead_fl (k e : Int) (he : e ≠ 0) : fl k ([], e) = ([], e) := by unfold fl; rw [if_neg he]
theorem dead_ps (k : Nat) (e : Int) (he : e ≠ 0) : ps k ([], e) = ([], e) := by unfold ps; split; exact dead_fl _ _ he; simp
theorem dead_pa (k : Nat) (e : Int) : pa k ([], e) = [] := by unfold pa; split <;> simp
theorem dead_numS (n e : Int) (he : e ≠ 0) : numS n ([], e) = ([], e) := by unfold numS; split; exact dead_ps _ _ he; exact dead_fl _ _ he
theorem dead_numA (n e : Int) : numA n ([], e) = 0 := by unfold numA; split; rw [dead_pa]; rfl; rfl
theorem dead_bytS (n e : Int) (he : e ≠ 0) : bytS n ([], e) = ([], e) := by unfold bytS; split; exact dead_fl _ _ he; exact dead_ps _ _ he
theorem dead_bytA (n e : Int) : bytA n ([], e) = [] := by unfold bytA; split; rfl; exact dead_pa _ _
theorem dead_txtS (e : Int) (he : e ≠ 0) : txtS ([], e) = ([], e) := by unfold txtS; rw [dead_numS _ _ he]; exact dead_ps _ _ he
theorem dead_txtA (e : Int) (he : e ≠ 0) : txtA ([], e) = [] := by unfold txtA; rw [dead_numS _ _ he]; exact dead_pa _ _
theorem dead_endS (e : Int) : endS ([], e) = ([], e) := by unfold endS; rw [if_neg (by simp)]

theorem dNum (p L : Nat) (n : Int) (w : World) (h : RdP w p L ([], 2)) (hn : In64 n) :
    Calls Try.prog 12 #[.pointer (some ⟨p, 0, none⟩), .int .i64 n] w fun r w' => r = .returned (.int .i64 0) ∧ RdP w' p L ([], 2) ∧ Fr (One p) w w' := by
  have := Num_any p L n ([], 2) w h hn
  rw [dead_numA, dead_numS _ _ (by decide)] at this
  exact this
theorem dBytes (p L : Nat) (n : Int) (w : World) (h : RdP w p L ([], 2)) (hn : In64 n) :
    Calls Try.prog 14 #[.pointer (some ⟨p, 0, none⟩), .int .i64 n] w fun r w' => (∃ ao c, r = .returned (.slice ao 0 c)) ∧ RdP w' p L ([], 2) ∧ Fr (One p) w w' := by
  have := Bytes_any p L n ([], 2) w h hn
  rw [dead_bytA, dead_bytS _ _ (by decide)] at this
  refine this.mono ?_
  rintro r w' ⟨⟨ao, c, rfl, _⟩, h2⟩
  exact ⟨⟨ao, c, rfl⟩, h2⟩
theorem dText (p L : Nat) (w : World) (h : RdP w p L ([], 2)) :
    Calls Try.prog 16 #[.pointer (some ⟨p, 0, none⟩)] w fun r w' => r = .returned (.string ⟨#[]⟩) ∧ RdP w' p L ([], 2) ∧ Fr (One p) w w' := by
  have := Text_any p L ([], 2) w h
  rw [dead_txtA _ (by decide), dead_txtS _ (by decide)] at this
  exact this
theorem dEnd (p L : Nat) (w : World) (h : RdP w p L ([], 2)) :
    Calls Try.prog 21 #[.pointer (some ⟨p, 0, none⟩)] w fun r w' => r = .returned (.int .i64 2) ∧ RdP w' p L ([], 2) ∧ Fr (One p) w w' := by
  have := End_any p L ([], 2) w h
  rw [dead_endS] at this
  exact this
/-- More bytes than there are. -/
theorem xBytes (p L m : Nat) (n : Int) (zs : List Int) (w : World) (h : RdP w p L (zs, 0)) (hn : In64 n) (hm : zs.length = m) (hlt : (m : Int) < n) :
    Calls Try.prog 14 #[.pointer (some ⟨p, 0, none⟩), .int .i64 n] w fun r w' => (∃ ao c, r = .returned (.slice ao 0 c)) ∧ RdP w' p L ([], 2) ∧ Fr (One p) w w' := by
  have := Bytes_any p L n (zs, 0) w h hn
  have e1 : bytA n (zs, 0) = [] := by unfold bytA; split; rfl; unfold pa; rw [if_pos (by simp only; omega)]
  have e2 : bytS n (zs, 0) = ([], 2) := by unfold bytS; rw [if_neg (by omega)]; unfold ps; rw [if_pos (by simp only; omega)]; rfl
  rw [e1, e2] at this
  refine this.mono ?_
  rintro r w' ⟨⟨ao, c, rfl, _⟩, h2⟩
  exact ⟨⟨ao, c, rfl⟩, h2⟩

set_option maxRecDepth 100000 in
set_option maxHeartbeats 4000000 in
theorem stops_any (a0 : Option Addr) (len0 cap0 : Nat) (z0 : List Int) (a1 : Int) (a2 : Option Addr) (len2 cap2 : Nat) (O : Nat → OpR) (w : World) (w0 : RowB w a0 len0 cap0 z0) (w1 : (Lit.int .i64 a1).wf = true) (f2 : OpsB w a2 len2 cap2 O) :
    Calls Try.prog 6 #[.slice a0 len0 cap0, .int .i64 a1, .slice a2 len2 cap2] w fun e w' => e = .returned (.bool true) ∧ Below w.heap.size w w' := by
  have hx1 := wf_i64_bd w1
  obtain ⟨hbs, hlc, hcm, hby, hnil⟩ := w0.bs (min len0 300) (by omega)
  have HBS : Hid (Bs w a0 (min len0 300) (z0.take (min len0 300))) := hbs
  have HN : Hid (a0 = none → cap0 = 0) := hnil
  have HO : Hid (OpsB w a2 len2 cap2 O) := f2
  have hl2 := f2.1
  clear w0 w1 f2 hbs hby hnil
  generalize z0.take (min len0 300) = zs at HBS
  go_enter Try.func6, Try.ntmps6
  go_wp2_with fail
  refine (shown_any w).mono ?_
  rintro r ws ⟨rfl, hbs0⟩
  have HB0 : Hid (Below w.heap.size w ws) := hbs0
  have HS0 : Hid (Bs ws a0 (min len0 300) zs) := HBS.out.below hbs0
  clear hbs0
  go_upto_if 13 with fail
  go_cut [0] from 14 to 15 (fun s0 wx => s0 = .slice a0 (min len0 300) cap0 ∧ wx = ws)
  case first =>
    by_cases h3 : 300 < len0
    · have e3 : min len0 300 = 300 := by omega
      go_wp2_with fail
      go_meet
      case rel => exact ⟨by rw [e3], rfl⟩
    · have e3 : min len0 300 = len0 := by omega
      go_wp2_with fail
      go_meet
      case rel => exact ⟨by rw [e3], rfl⟩
  case rest =>
  obtain ⟨rfl, rfl⟩ := hcut
  have hm2 : min len0 300 ≤ cap0 := by omega
  have hm1 : min len0 300 ≤ 300 := by omega
  generalize min len0 300 = m at *
  go_wp2_with fail
  refine (Read_any m cap0 a0 zs wc HS0.out hm2 HN.out (by omega)).mono ?_
  rintro r w1 ⟨p, rfl, hp, hR, hbel⟩
  have HB1 : Hid (Below w.heap.size w w1) := HB0.out.trans (hbel.mono HB0.out.size)
  have HP : Hid (w.heap.size ≤ p) := Nat.le_trans HB0.out.size hp
  obtain ⟨L, hL⟩ : ∃ L, L = w1.heap.size := ⟨_, rfl⟩
  rw [← hL] at hR
  have HR1 : Hid (RdP w1 p L (zs, 0)) := hR
  have hz := HS0.out.1
  clear hbel hR hp hL
  have k1 := knd_nonneg a1 1000 (by omega)
  have k2 := knd_lt a1 1000 (by omega)
  go_wp2_with fail
  refine (kind_any a1 1000 w1 (by omega) (by omega) hx1).mono ?_
  rintro r wx ⟨rfl, rfl⟩
  generalize knd a1 1000 = kd at *
  go_wp2_with fail
  refine (xBytes p L m ((m : Int) + 1 + kd) zs wx HR1.out (by unfold In64; omega) hz (by omega)).mono ?_
  rintro r w2 ⟨⟨ao, c, rfl⟩, hR2, hF2⟩
  have HB2 : Hid (Below w.heap.size w w2) := HB1.out.trans (hF2.one_below HB1.out.size HP.out)
  have HR2 : Hid (RdP w2 p L ([], 2)) := hR2
  clear hR2 hF2
  go_wp2_with fail
  refine (rErr_any p L ([], 2) w2 HR2.out).mono ?_
  rintro r wy ⟨rfl, rfl⟩
  clear HR1 HB1 k1 k2 hx1 HS0 hz HBS HB0
  go_wp2
  go_loopw [9] (fun s9 wr => ∃ i : Nat, s9 = .int .i64 i ∧ i ≤ 40 ∧ RdP wr p L ([], 2) ∧ Below w.heap.size w wr) (fun s9 _ => 40 - (intOf s9).toNat)
  case atStart => exact ⟨0, rfl, by omega, HR2.out, HB2.out⟩
  case round =>
    obtain ⟨i, rfl, hi, hR, hB⟩ := hrel
    have HRi : Hid (RdP wr p L ([], 2)) := hR
    have HBi : Hid (Below w.heap.size w wr) := hB
    clear hR hB HR2 HB2
    by_cases hlt : i < len2 ∧ i < 40
    · obtain ⟨hlt1, hlt2⟩ := hlt
      rcases HO.out.2 with h0 | ⟨b, off, rfl, hbl, hcs⟩
      · omega
      obtain ⟨_, _, e2, _, _, _, hn, _⟩ := hcs i hlt1
      have c1 : wr.cell? ⟨b, off + i * 4 + 2, none⟩ = some (.int .i64 (O i).n) := (HBi.out.cell (by exact hbl)).trans e2
      have HCN : Hid (In64 (O i).n) := hn
      clear e2 hn hcs
      generalize (O i).n = nn at *
      go_wp2_with fail
      refine (dNum p L nn wr HRi.out HCN.out).mono ?_
      rintro r w3 ⟨rfl, hR3, hF3⟩
      have HB3 : Hid (Below w.heap.size w w3) := HBi.out.trans (hF3.one_below HBi.out.size HP.out)
      have HR3 : Hid (RdP w3 p L ([], 2)) := hR3
      have c3 : w3.cell? ⟨b, off + i * 4 + 2, none⟩ = some (.int .i64 nn) := (hF3.cell (q := ⟨b, off + i * 4 + 2, none⟩) (Nat.lt_of_lt_of_le hbl HBi.out.size) (fun h => by have h9 : b = p := h; have := HP.out; omega)).trans c1
      clear hR3 hF3 c1
      go_wp2_with fail
      refine (dBytes p L nn w3 HR3.out HCN.out).mono ?_
      rintro r w4 ⟨⟨ao4, c4, rfl⟩, hR4, hF4⟩
      have HB4 : Hid (Below w.heap.size w w4) := HB3.out.trans (hF4.one_below HB3.out.size HP.out)
      have HR4 : Hid (RdP w4 p L ([], 2)) := hR4
      clear hR4 hF4 c3
      go_wp2_with fail
      refine (dText p L w4 HR4.out).mono ?_
      rintro r w5 ⟨rfl, hR5, hF5⟩
      have HB5 : Hid (Below w.heap.size w w5) := HB4.out.trans (hF5.one_below HB4.out.size HP.out)
      have HR5 : Hid (RdP w5 p L ([], 2)) := hR5
      clear hR5 hF5
      go_wp2_with fail
      refine (rLeft_any p L ([], 2) w5 HR5.out).mono ?_
      rintro r wz ⟨rfl, rfl⟩
      go_wp2_with fail
      refine (rErr_any p L ([], 2) wz HR5.out).mono ?_
      rintro r wz ⟨rfl, rfl⟩
      go_wp2
      go_roundw
      case rel => exact ⟨i + 1, by go_num, by omega, HR5.out, HB5.out⟩
      case measure => simp [intOf]; omega
    · by_cases h1 : i < len2
      · obtain rfl : i = 40 := by omega
        go_wp2_with fail
        refine (dEnd p L wr HRi.out).mono ?_
        rintro r w3 ⟨rfl, hR3, hF3⟩
        have HB3 : Hid (Below w.heap.size w w3) := HBi.out.trans (hF3.one_below HBi.out.size HP.out)
        clear hR3 hF3
        go_wp2
        go_ret
        exact ⟨rfl, HB3.out⟩
      · go_wp2_with fail
        refine (dEnd p L wr HRi.out).mono ?_
        rintro r w3 ⟨rfl, hR3, hF3⟩
        have HB3 : Hid (Below w.heap.size w w3) := HBi.out.trans (hF3.one_below HBi.out.size HP.out)
        clear hR3 hF3
        go_wp2
        go_ret
        exact ⟨rfl, HB3.out⟩
end Go.Proofs.Ytljjffeediopgaa

/- The walk of the law CursorReads. -/
import Derived.Test.YtljjffeediopgaaCurRef
import Derived.Test.YtljjffeediopgaaCurParts
import Derived.Deep.RegionHeld3
import Derived.Deep.RegionHeld
namespace Go.Proofs.Ytljjffeediopgaa
set_option linter.unusedVariables false
set_option linter.unusedSimpArgs false
open Go.RowKit Go.Maps
open Lz (g)
open Cur

/-- Both readers, at one state; the bytes that were handed in. -/
def Both (w : World) (p L q L' : Nat) (s : St) (ao : Option Addr) (m : Nat) (zs : List Int) : Prop := RdP w p L s ∧ RdR w q L' s ∧ p ≠ q ∧ Bs w ao m zs
/-- Blocks p and q alone. -/
def Pair (p q : Nat) : Nat → Prop := fun k => k = p ∨ k = q
theorem Fr.pair_below {w w' : World} {p q B : Nat} (h : Fr (Pair p q) w w') (hB : B ≤ w.heap.size) (hp : B ≤ p) (hq : B ≤ q) : Below B w w' :=
  h.below B hB (fun k hk => by rcases hk with hk | hk <;> omega)
/-- The program's reader has gone on: the other stands. -/
theorem Both.p {w w' : World} {p L q L' m : Nat} {s : St} {ao : Option Addr} {zs : List Int} (h : Both w p L q L' s ao m zs) (hF : Fr (One p) w w') : RdR w' q L' s ∧ Bs w' ao m zs ∧ Fr (Pair p q) w w' := by
  obtain ⟨h1, h2, hne, h3⟩ := h
  obtain ⟨_, _, _, hd, _⟩ := h1
  exact ⟨h2.one hF hd (by decide) (fun e => hne e.symm), h3.fr hF (h3.ne hd (by decide)), hF.mono (fun _ _ h => .inl h)⟩
theorem Both.q {w w' : World} {p L q L' m : Nat} {s : St} {ao : Option Addr} {zs : List Int} (h : Both w p L q L' s ao m zs) (hF : Fr (One q) w w') : RdP w' p L s ∧ Bs w' ao m zs ∧ Fr (Pair p q) w w' := by
  obtain ⟨h1, h2, hne, h3⟩ := h
  obtain ⟨_, _, _, _, hd, _⟩ := h2
  exact ⟨h1.one hF hd (by decide) hne, h3.fr hF (h3.ne hd (by decide)), hF.mono (fun _ _ h => .inr h)⟩
/-- First the one, then the other. -/
theorem Both.pq {w w1 w2 : World} {p L q L' m : Nat} {s s' : St} {ao : Option Addr} {zs : List Int} (h : Both w p L q L' s ao m zs) (hF : Fr (One p) w w1) (hp : RdP w1 p L s') (hF2 : Fr (One q) w1 w2) (hq : RdR w2 q L' s') : Both w2 p L q L' s' ao m zs ∧ Fr (Pair p q) w w2 := by
  obtain ⟨a1, a2, a3⟩ := h.p hF
  have hd2 := a1.hd
  obtain ⟨_, _, _, hd2⟩ := hd2
  refine ⟨⟨hp.one hF2 hd2 (by decide) h.2.2.1, hq, h.2.2.1, a2.fr hF2 (a2.ne hd2 (by decide))⟩, a3.then (hF2.mono (fun _ _ h => .inr h))⟩
theorem Both.qp {w w1 w2 : World} {p L q L' m : Nat} {s s' : St} {ao : Option Addr} {zs : List Int} (h : Both w p L q L' s ao m zs) (hF : Fr (One q) w w1) (hq : RdR w1 q L' s') (hF2 : Fr (One p) w1 w2) (hp : RdP w2 p L s') : Both w2 p L q L' s' ao m zs ∧ Fr (Pair p q) w w2 := by
  obtain ⟨a1, a2, a3⟩ := h.q hF
  obtain ⟨_, _, _, hd2, _⟩ := id a1
  refine ⟨⟨hp, hq.one hF2 hd2 (by decide) (fun e => h.2.2.1 e.symm), h.2.2.1, a2.fr hF2 (a2.ne hd2 (by decide))⟩, a3.then (hF2.mono (fun _ _ h => .inl h))⟩
theorem Both.drew {w : World} {p L q L' m : Nat} {s : St} {ao : Option Addr} {zs : List Int} (h : Both w p L q L' s ao m zs) : Both w.drew p L q L' s ao m zs := h
theorem Both.drewN {w : World} {p L q L' m : Nat} {s : St} {ao : Option Addr} {zs : List Int} (h : Both w p L q L' s ao m zs) (n : Nat) : Both (w.drewN n) p L q L' s ao m zs := h

theorem rr_cell {w : World} {q L : Nat} {s : St} (h : RdR w q L s) : w.cell? ⟨q, 1, none⟩ = some (.int .i64 s.2) := by
  obtain ⟨_, _, _, _, hd, _⟩ := h
  exact hd.c1
set_option maxRecDepth 100000 in
theorem refEnd_none (q L : Nat) (e0 : Int) (w : World) (h : RdR w q L ([], e0)) :
    Calls Try.prog 22 #[.pointer (some ⟨q, 0, none⟩)] w fun r w' => r = .returned (.int .i64 e0) ∧ w' = w := by
  obtain ⟨ao, n, c, zs, hd, hb, hnc, hc, hn, hnil, hL, hzs, hcan⟩ := h
  have h0 := hd.c0
  have h1 := hd.c1
  simp only at h1
  have hlen := hb.1
  by_cases he : e0 = 0
  · obtain rfl := hzs he
    obtain rfl : n = 0 := by simpa using hlen.symm
    subst he
    clear hd hb hcan hnil hzs
    go_enter Try.func22, Try.ntmps22
    go_wp2
    go_ret
    exact ⟨rfl, rfl⟩
  · have d0 : (e0 == 0) = false := beq_eq_false_iff_ne.2 he
    clear hd hb hcan hnil hzs
    go_enter Try.func22, Try.ntmps22
    go_wp2
    go_ret
    exact ⟨rfl, rfl⟩
theorem bs_p {w w' : World} {p L n : Nat} {s : St} {ao : Option Addr} {zs : List Int} (h : Bs w ao n zs) (hr : RdP w p L s) (hF : Fr (One p) w w') : Bs w' ao n zs := by
  obtain ⟨_, _, _, hd, _⟩ := hr
  exact h.fr hF (h.ne hd (by decide))
theorem bs_q {w w' : World} {q L n : Nat} {s : St} {ao : Option Addr} {zs : List Int} (h : Bs w ao n zs) (hr : RdR w q L s) (hF : Fr (One q) w w') : Bs w' ao n zs := by
  obtain ⟨_, _, _, _, hd, _⟩ := hr
  exact h.fr hF (h.ne hd (by decide))

theorem wpAnyH_switch {P : Program} {md : Region.Mode} {ops : Array Oper} {Q : Exit → Act → World → Prop} {S S' : World → Prop} (hS : ∀ w, S' w → S w) : ∀ (fuel : Nat) (listed : Array Bool) (a : Act) (w : World), wpAnyH P md ops Q S' fuel listed a w → wpAnyH P md ops Q S fuel listed a w
  | 0, _, _, _, h => h
  | fuel + 1, _, _, _, h => ⟨h.1, fun i hi => wpOp_mono (fun a' w' h' => ⟨hS w' h'.1, wpAnyH_switch hS fuel _ a' w' h'.2⟩) (h.2 i hi)⟩

set_option maxRecDepth 100000 in
set_option maxHeartbeats 4000000 in
theorem reads_any (a0 : Option Addr) (len0 cap0 : Nat) (z0 : List Int) (a1 : Option Addr) (len1 cap1 : Nat) (O : Nat → OpR) (w : World) (w0 : RowB w a0 len0 cap0 z0) (f1 : OpsB w a1 len1 cap1 O) :
    Calls Try.prog 3 #[.slice a0 len0 cap0, .slice a1 len1 cap1] w fun e w' => e = .returned (.bool true) ∧ Below w.heap.size w w' := by
  obtain ⟨hbs, hlc, hcm, hby, hnil⟩ := w0.bs (min len0 300) (by omega)
  have HBS : Hid (Bs w a0 (min len0 300) (z0.take (min len0 300))) := hbs
  have HN : Hid (a0 = none → cap0 = 0) := hnil
  have HO : Hid (OpsB w a1 len1 cap1 O) := f1
  have hl2 := f1.1
  clear w0 f1 hbs hby hnil
  generalize z0.take (min len0 300) = zs at HBS
  go_enter Try.func3, Try.ntmps3
  go_wp2_with fail
  refine (shown_any w).mono ?_
  rintro r ws ⟨rfl, hbs0⟩
  have HB0 : Hid (Below w.heap.size w ws) := hbs0
  have HS0 : Hid (Bs ws a0 (min len0 300) zs) := HBS.out.below hbs0
  clear hbs0
  go_upto_if 14 with fail
  go_cut [0] from 15 to 16 (fun s0 wx => s0 = .slice a0 (min len0 300) cap0 ∧ wx = ws)
  case first =>
    by_cases h3 : 300 < len0
    · have e3 : min len0 300 = 300 := by omega
      go_wp2_with fail
      go_meet
      case rel => exact ⟨by rw [e3], rfl⟩
    · have e3 : min len0 300 = len0 := by omega
      go_wp2_with fail
      go_meet
      case rel => exact ⟨by rw [e3], rfl⟩
  case rest =>
  obtain ⟨rfl, hwc⟩ := hcut
  obtain rfl := hwc.symm
  have hm2 : min len0 300 ≤ cap0 := by omega
  have hm1 : min len0 300 ≤ 300 := by omega
  generalize min len0 300 = m at *
  have ho := emptyB (w := ws) (Nat.le_refl _)
  have hsrc : Bs (ws.alloc (.cells #[] 5)) a0 m zs := HS0.out.alloc _
  have hk8 : 0 + m ≤ 100000000 := by omega
  have hz : zs.length = m := HS0.out.1
  go_wp2_with (first
    | (at_builtin
       refine wpList_append_bs _ (by rfl) (.tmp 17) (.tmp 18) (by rfl) ws.heap.size _ 0 0 [] (by rfl) ho a0 m cap0 zs (by rfl) hsrc HN.out hk8 (by simp) ?_
       intro ao c w1 ho1 hg1
       have HB1 : Hid (Below ws.heap.size ws w1) := ((Below.refl _ ws).alloc (Nat.le_refl _) _).grown hg1 (by simp) (fun kk e => (ho.lt kk e).1)
       have HO1 : Hid (w1.ownsRow ws.heap.size 5 1 (.slice ao m c) m (bv zs)) := by rw [Nat.zero_add, List.nil_append] at ho1; exact ho1
       clear ho1 hg1))
  have HSo : Hid (Bs w1 ao m zs) := bs_of_owns HO1.out HS0.out.bytes
  have hcap := cap_of_owns HO1.out
  have HNo : Hid (ao = none → c = 0) := nil_cap HO1.out
  clear ho hsrc HO1
  refine (Read_any m c ao zs w1 HSo.out hcap HNo.out (by omega)).mono ?_
  rintro r w2 ⟨p, rfl, hp, hR, hbel⟩
  have HB2 : Hid (Below ws.heap.size ws w2) := HB1.out.trans (hbel.mono HB1.out.size)
  have HP : Hid (ws.heap.size ≤ p) := Nat.le_trans HB1.out.size hp
  have HSo2 : Hid (Bs w2 ao m zs) := HSo.out.below hbel
  obtain ⟨L, hL⟩ : ∃ L, L = w2.heap.size := ⟨_, rfl⟩
  rw [← hL] at hR
  have HR2 : Hid (RdP w2 p L (zs, 0)) := hR
  have ho := emptyB (w := w2) (Nat.le_refl _)
  have hsrc : Bs (w2.alloc (.cells #[] 5)) a0 m zs := (HS0.out.below HB2.out).alloc _
  clear hbel hR hp hL hcap
  go_wp2_with (first
    | (at_builtin
       refine wpList_append_bs _ (by rfl) (.tmp 22) (.tmp 23) (by rfl) w2.heap.size _ 0 0 [] (by rfl) ho a0 m cap0 zs (by rfl) hsrc HN.out hk8 (by simp) ?_
       intro ao3 c3 w3 ho3 hg3
       have HB3 : Hid (Below w2.heap.size w2 w3) := ((Below.refl _ w2).alloc (Nat.le_refl _) _).grown hg3 (by simp) (fun kk e => (ho.lt kk e).1)
       have HO3 : Hid (w3.ownsRow w2.heap.size 5 1 (.slice ao3 m c3) m (bv zs)) := by rw [Nat.zero_add, List.nil_append] at ho3; exact ho3
       clear ho3 hg3))
  have HBoth : Hid (Both (w3.alloc (.cells #[.slice ao3 m c3, .int .i64 0] 30)) p L w3.heap.size w3.heap.size (zs, 0) ao m zs) := by
    have hbel : Below w2.heap.size w2 (w3.alloc (.cells #[.slice ao3 m c3, .int .i64 0] 30)) := HB3.out.alloc HB3.out.size _
    have hb3 := bs_of_owns HO3.out HS0.out.bytes
    refine ⟨HR2.out.below hbel, ⟨ao3, m, c3, zs, Hd.new _ _ _ _ _ _, ?_, cap_of_owns HO3.out, ?_, by omega, nil_cap HO3.out, by simp, fun _ => rfl, .inl rfl⟩, ?_, HSo2.out.below hbel⟩
    · refine ⟨hb3.1, hb3.2.1, ?_⟩
      rcases hb3.2.2 with h0 | ⟨b, off, e1, e2, e3⟩
      · exact .inl h0
      · exact .inr ⟨b, off, e1, e2, e3.below ((Below.refl _ w3).alloc (Nat.le_refl _) _) e2⟩
    · rcases HO3.out.2 with ⟨e, _⟩ | ⟨_, _, _, e, _, _, _, h, _⟩
      · simp at e; omega
      · simp at e; unfold maxLen at h; omega
    · have h5 := HR2.out.lt
      have h6 := HB3.out.size
      omega
  have HBel : Hid (Below w.heap.size w (w3.alloc (.cells #[.slice ao3 m c3, .int .i64 0] 30))) := by
    have h1 := HB0.out.trans (HB2.out.mono HB0.out.size)
    have h2 := h1.trans (HB3.out.mono h1.size)
    exact h2.alloc h2.size _
  have HP0 : Hid (w.heap.size ≤ p) := Nat.le_trans HB0.out.size HP.out
  have HQ0 : Hid (w.heap.size ≤ w3.heap.size) := Nat.le_trans HB0.out.size (Nat.le_trans HB2.out.size HB3.out.size)
  have HZ0 : Hid (Bs w a0 m zs) := HBS.out
  obtain ⟨q, hqq⟩ : ∃ q, q = w3.heap.size := ⟨_, rfl⟩
  obtain ⟨L', hLL⟩ : ∃ L', L' = w3.heap.size := ⟨_, rfl⟩
  rw [← hqq] at HQ0 ⊢
  have HBoth2 : Hid (Both (w3.alloc (.cells #[.slice ao3 m c3, .int .i64 0] 30)) p L q L' (zs, 0) ao m zs) := by rw [hqq, hLL]; exact HBoth.out
  clear HBoth hqq hLL ho hsrc HO3 HB3 HSo2 HR2 HB2 HB1 HSo HNo
  go_loopw [9, 10] (fun s9 s10 wr => ∃ (i : Nat) (s : St), s9 = .int .i64 i ∧ i ≤ 40 ∧ Both wr p L q L' s ao m zs ∧ Below w.heap.size w wr) (fun s9 _ _ => 40 - (intOf s9).toNat)
  case atStart => exact ⟨0, (zs, 0), rfl, by omega, HBoth2.out, HBel.out⟩
  case round =>
    obtain ⟨i, s, rfl, hi, hBo, hBl⟩ := hrel
    have HBo : Hid (Both wr p L q L' s ao m zs) := hBo
    have HBi : Hid (Below w.heap.size w wr) := hBl
    clear hBo hBl HBoth2 HBel
    by_cases hlt : i < len1 ∧ i < 40
    · obtain ⟨hlt1, hlt2⟩ := hlt
      rcases HO.out.2 with h0 | ⟨b, off, rfl, hbl, hcs⟩
      · omega
      obtain ⟨e0, _, e2, _, hkd, _, hn, _⟩ := hcs i hlt1
      have c0 : wr.cell? ⟨b, off + i * 4, none⟩ = some (.int .i64 (O i).kind) := (HBi.out.cell (by exact hbl)).trans e0
      have c2 : wr.cell? ⟨b, off + i * 4 + 2, none⟩ = some (.int .i64 (O i).n) := (HBi.out.cell (by exact hbl)).trans e2
      have HCN : Hid (In64 (O i).n) := hn
      have HCK : Hid (In64 (O i).kind) := hkd
      have HCell : Hid (∀ wX, Fr (Pair p q) wr wX → wX.cell? ⟨b, off + i * 4 + 2, none⟩ = some (.int .i64 (O i).n)) := fun wX hF => (hF.cell (q := ⟨b, off + i * 4 + 2, none⟩) (Nat.lt_of_lt_of_le hbl HBi.out.size) (fun h => by have h1 := HP0.out; have h2 := HQ0.out; rcases h with h | h <;> (have h9 : b = _ := h; omega))).trans c2
      clear e0 e2 hn hkd hcs
      generalize (O i).n = nn at *
      generalize (O i).kind = kk at *
      have k1 := knd_nonneg kk 3 (by omega)
      have k2 := knd_lt kk 3 (by omega)
      go_wp2_with fail
      refine (kind_any kk 3 wr (by omega) (by omega) HCK.out).mono ?_
      rintro r wx ⟨rfl, hwx⟩
      obtain rfl := hwx.symm
      generalize knd kk 3 = kd at *
      have hkd : kd = 0 ∨ kd = 1 ∨ kd = 2 := by omega
      clear k1 k2
      rcases hkd with rfl | rfl | rfl
      · -- a number
        obtain ⟨X, hX⟩ : ∃ X, X = numA nn s := ⟨_, rfl⟩
        obtain ⟨s', hs'⟩ : ∃ s', s' = numS nn s := ⟨_, rfl⟩
        have HCp : Hid (∀ wX, RdP wX p L s → Calls Try.prog 12 #[.pointer (some ⟨p, 0, none⟩), .int .i64 nn] wX fun r w' => r = .returned (.int .i64 X) ∧ RdP w' p L s' ∧ Fr (One p) wX w') := fun wX h => by rw [hX, hs']; exact Num_any p L nn s wX h HCN.out
        have HCq : Hid (∀ wX, RdR wX q L' s → Calls Try.prog 13 #[.pointer (some ⟨q, 0, none⟩), .int .i64 nn] wX fun r w' => r = .returned (.int .i64 X) ∧ RdR w' q L' s' ∧ Fr (One q) wX w') := fun wX h => by rw [hX, hs']; exact refNum_any q L' nn s wX h HCN.out
        have hXX : (X == X) = true := beq_self_eq_true _
        clear hX hs' c0
        go_wp2_with fail
        go_region_held3 (fun wX => wX.cell? ⟨b, off + i * 4 + 2, none⟩ = some (.int .i64 nn)) (go_keep)
          ((first
            | (go_at_call 12; refine (HCp.out wB HPB.out).mono ?_; rintro r w9 ⟨rfl, hR9, hF9⟩; have HS2 : Hid (Both w9 p L q L' s' ao m zs ∧ Fr (Pair p q) wr w9) := HBo.out.qp (HFB.out) HRB.out hF9 hR9; have c9 := HCell.out w9 HS2.out.2; clear hR9 hF9)
            | (go_at_call 13; refine (HCq.out wA HQA.out).mono ?_; rintro r w9 ⟨rfl, hR9, hF9⟩; have HS2 : Hid (Both w9 p L q L' s' ao m zs ∧ Fr (Pair p q) wr w9) := HBo.out.pq (HFA.out) HRA.out hF9 hR9; have c9 := HCell.out w9 HS2.out.2; clear hR9 hF9)
            | (go_at_call 12; refine (HCp.out wr.drew HBo.out.1).mono ?_; rintro r wA ⟨rfl, hRA, hFA⟩; have HRA : Hid (RdP wA p L s') := hRA; have HFA : Hid (Fr (One p) wr wA) := hFA.undrew; have HQA : Hid (RdR wA q L' s) := (HBo.out.p HFA.out).1; have cA := HCell.out wA (HBo.out.p HFA.out).2.2; clear hRA hFA)
            | (go_at_call 13; refine (HCq.out wr.drew HBo.out.2.1).mono ?_; rintro r wB ⟨rfl, hRB, hFB⟩; have HRB : Hid (RdR wB q L' s') := hRB; have HFB : Hid (Fr (One q) wr wB) := hFB.undrew; have HPB : Hid (RdP wB p L s) := (HBo.out.q HFB.out).1; have cB := HCell.out wB (HBo.out.q HFB.out).2.2; clear hRB hFB)))
        all_goals (
          obtain ⟨hB2, hF2⟩ := HS2.out
          have HBel2 : Hid (Below w.heap.size w w9) := HBi.out.trans (hF2.pair_below HBi.out.size HP0.out HQ0.out)
          have HB9 : Hid (Both w9 p L q L' s' ao m zs) := hB2
          have hq1 : w9.cell? ⟨q, 1, none⟩ = some (.int .i64 s'.2) := by
            obtain ⟨_, _, _, _, hd, _⟩ := hB2.2.1
            exact hd.c1
          have HLp : Hid (∀ n, Calls Try.prog 18 #[.pointer (some ⟨p, 0, none⟩)] (w9.drewN n) fun e w' => e = .returned (.int .i64 s'.1.length) ∧ w' = w9.drewN n) := fun n => rLeft_any p L s' _ (HB9.out.drewN n).1
          have HLq : Hid (∀ n, Calls Try.prog 19 #[.pointer (some ⟨q, 0, none⟩)] (w9.drewN n) fun e w' => e = .returned (.int .i64 s'.1.length) ∧ w' = w9.drewN n) := fun n => rrLeft_any q L' s' _ (HB9.out.drewN n).2.1
          have HEp : Hid (∀ n, Calls Try.prog 20 #[.pointer (some ⟨p, 0, none⟩)] (w9.drewN n) fun e w' => e = .returned (.int .i64 s'.2) ∧ w' = w9.drewN n) := fun n => rErr_any p L s' _ (HB9.out.drewN n).1
          generalize s'.1.length = ln at *
          generalize s'.2 = er at *
          have hln : ((ln : Int) != (ln : Int)) = false := by simp
          have her : (er != er) = false := by simp
          clear hB2 hF2
          go_wp2_with fail
          go_quiet ((first
            | (go_at_call 18; refine Calls.quiet_of_same (HLp.out _))
            | (go_at_call 19; refine Calls.quiet_of_same (HLq.out _))
            | (go_at_call 20; refine Calls.quiet_of_same (HEp.out _))))
          go_wp2
          go_roundw
          case rel => exact ⟨i + 1, s', by go_num, by omega, HB9.out.drewN _, below_drewN HBel2.out _⟩
          case measure => simp [intOf]; omega)
      · -- bytes
        obtain ⟨Y, hY⟩ : ∃ Y, Y = bytA nn s := ⟨_, rfl⟩
        obtain ⟨n1, hn1⟩ : ∃ n1, n1 = Y.length := ⟨_, rfl⟩
        obtain ⟨s', hs'⟩ : ∃ s', s' = bytS nn s := ⟨_, rfl⟩
        have HCp : Hid (∀ wX, RdP wX p L s → Calls Try.prog 14 #[.pointer (some ⟨p, 0, none⟩), .int .i64 nn] wX fun r w' => (∃ ao c, r = .returned (.slice ao n1 c) ∧ Bs w' ao n1 Y) ∧ RdP w' p L s' ∧ Fr (One p) wX w') := fun wX h => by
          have := Bytes_any p L nn s wX h HCN.out
          rw [← hY, ← hs', ← hn1] at this
          refine this.mono ?_
          rintro r w' ⟨⟨x, y, z1, z2, _⟩, z3⟩
          exact ⟨⟨x, y, z1, z2⟩, z3⟩
        have HCq : Hid (∀ wX, RdR wX q L' s → Calls Try.prog 15 #[.pointer (some ⟨q, 0, none⟩), .int .i64 nn] wX fun r w' => (∃ ao c, r = .returned (.slice ao n1 c) ∧ Bs w' ao n1 Y) ∧ RdR w' q L' s' ∧ Fr (One q) wX w') := fun wX h => by
          have := refBytes_any q L' nn s wX h HCN.out
          rw [← hY, ← hs', ← hn1] at this
          refine this.mono ?_
          rintro r w' ⟨⟨x, y, z1, z2, _⟩, z3⟩
          exact ⟨⟨x, y, z1, z2⟩, z3⟩
        clear hY hs' c0 hn1
        go_wp2_with fail
        go_region_held (fun wX => wX.cell? ⟨b, off + i * 4 + 2, none⟩ = some (.int .i64 nn)) (go_keep)
          ((first
            | (go_at_call 14; refine (HCp.out wB HPB.out).mono ?_; rintro r w9 ⟨⟨ao9, c9, rfl, hb9⟩, hR9, hF9⟩; have HS2 : Hid (Both w9 p L q L' s' ao m zs ∧ Fr (Pair p q) wr w9) := HBo.out.qp (HFB.out) HRB.out hF9 hR9; have ce9 := HCell.out w9 HS2.out.2; have st9 := str_any hb9 c9; have stB := str_any (bs_p HBB.out HPB.out hF9) cB; clear hR9 hF9 hb9)
            | (go_at_call 15; refine (HCq.out wA HQA.out).mono ?_; rintro r w9 ⟨⟨ao9, c9, rfl, hb9⟩, hR9, hF9⟩; have HS2 : Hid (Both w9 p L q L' s' ao m zs ∧ Fr (Pair p q) wr w9) := HBo.out.pq (HFA.out) HRA.out hF9 hR9; have ce9 := HCell.out w9 HS2.out.2; have st9 := str_any hb9 c9; have stA := str_any (bs_q HBA.out HQA.out hF9) cA; clear hR9 hF9 hb9)
            | (go_at_call 14; refine (HCp.out wr.drew HBo.out.1).mono ?_; rintro r wA ⟨⟨aoA, cA, rfl, hbA⟩, hRA, hFA⟩; have HRA : Hid (RdP wA p L s') := hRA; have HFA : Hid (Fr (One p) wr wA) := hFA.undrew; have HQA : Hid (RdR wA q L' s) := (HBo.out.p HFA.out).1; have ceA := HCell.out wA (HBo.out.p HFA.out).2.2; have HBA : Hid (Bs wA aoA n1 Y) := hbA; have sta := str_any hbA cA; clear hRA hFA hbA)
            | (go_at_call 15; refine (HCq.out wr.drew HBo.out.2.1).mono ?_; rintro r wB ⟨⟨aoB, cB, rfl, hbB⟩, hRB, hFB⟩; have HRB : Hid (RdR wB q L' s') := hRB; have HFB : Hid (Fr (One q) wr wB) := hFB.undrew; have HPB : Hid (RdP wB p L s) := (HBo.out.q HFB.out).1; have ceB := HCell.out wB (HBo.out.q HFB.out).2.2; have HBB : Hid (Bs wB aoB n1 Y) := hbB; have stb := str_any hbB cB; clear hRB hFB hbB)))
        all_goals (
          obtain ⟨hB2, hF2⟩ := HS2.out
          have HBel2 : Hid (Below w.heap.size w w9) := HBi.out.trans (hF2.pair_below HBi.out.size HP0.out HQ0.out)
          have HB9 : Hid (Both w9 p L q L' s' ao m zs) := hB2
          have hq1 : w9.cell? ⟨q, 1, none⟩ = some (.int .i64 s'.2) := by
            obtain ⟨_, _, _, _, hd, _⟩ := hB2.2.1
            exact hd.c1
          have HLp : Hid (∀ n, Calls Try.prog 18 #[.pointer (some ⟨p, 0, none⟩)] (w9.drewN n) fun e w' => e = .returned (.int .i64 s'.1.length) ∧ w' = w9.drewN n) := fun n => rLeft_any p L s' _ (HB9.out.drewN n).1
          have HLq : Hid (∀ n, Calls Try.prog 19 #[.pointer (some ⟨q, 0, none⟩)] (w9.drewN n) fun e w' => e = .returned (.int .i64 s'.1.length) ∧ w' = w9.drewN n) := fun n => rrLeft_any q L' s' _ (HB9.out.drewN n).2.1
          have HEp : Hid (∀ n, Calls Try.prog 20 #[.pointer (some ⟨p, 0, none⟩)] (w9.drewN n) fun e w' => e = .returned (.int .i64 s'.2) ∧ w' = w9.drewN n) := fun n => rErr_any p L s' _ (HB9.out.drewN n).1
          generalize s'.1.length = ln at *
          generalize s'.2 = er at *
          have hln : ((ln : Int) != (ln : Int)) = false := by simp
          have her : (er != er) = false := by simp
          clear hB2 hF2
          go_wp2_with fail
          go_quiet ((first
            | (go_at_call 18; refine Calls.quiet_of_same (HLp.out _))
            | (go_at_call 19; refine Calls.quiet_of_same (HLq.out _))
            | (go_at_call 20; refine Calls.quiet_of_same (HEp.out _))))
          go_wp2
          go_roundw
          case rel => exact ⟨i + 1, s', by go_num, by omega, HB9.out.drewN _, below_drewN HBel2.out _⟩
          case measure => simp [intOf]; omega)
      · -- a text
        obtain ⟨s', hs'⟩ : ∃ s', s' = txtS s := ⟨_, rfl⟩
        clear c0 c2
        go_wp2_with fail
        refine (Text_any p L s wr HBo.out.1).mono ?_
        rintro r wA ⟨rfl, hRA, hFA⟩
        rw [← hs'] at hRA
        have HRA : Hid (RdP wA p L s') := hRA
        have HFA : Hid (Fr (One p) wr wA) := hFA
        have HQA : Hid (RdR wA q L' s) := (HBo.out.p hFA).1
        clear hRA hFA
        go_wp2_with fail
        refine (refText_any q L' s wA HQA.out HBo.out.1.bytes).mono ?_
        rintro r w9 ⟨rfl, hR9, hF9⟩
        rw [← hs'] at hR9
        have HS2 : Hid (Both w9 p L q L' s' ao m zs ∧ Fr (Pair p q) wr w9) := HBo.out.pq HFA.out HRA.out hF9 hR9
        clear hR9 hF9 hs'
        generalize txtA s = Y at *
        obtain ⟨hB2, hF2⟩ := HS2.out
        have HBel2 : Hid (Below w.heap.size w w9) := HBi.out.trans (hF2.pair_below HBi.out.size HP0.out HQ0.out)
        have HB9 : Hid (Both w9 p L q L' s' ao m zs) := hB2
        have hq1 : w9.cell? ⟨q, 1, none⟩ = some (.int .i64 s'.2) := by
          obtain ⟨_, _, _, _, hd, _⟩ := hB2.2.1
          exact hd.c1
        have HLp : Hid (∀ n, Calls Try.prog 18 #[.pointer (some ⟨p, 0, none⟩)] (w9.drewN n) fun e w' => e = .returned (.int .i64 s'.1.length) ∧ w' = w9.drewN n) := fun n => rLeft_any p L s' _ (HB9.out.drewN n).1
        have HLq : Hid (∀ n, Calls Try.prog 19 #[.pointer (some ⟨q, 0, none⟩)] (w9.drewN n) fun e w' => e = .returned (.int .i64 s'.1.length) ∧ w' = w9.drewN n) := fun n => rrLeft_any q L' s' _ (HB9.out.drewN n).2.1
        have HEp : Hid (∀ n, Calls Try.prog 20 #[.pointer (some ⟨p, 0, none⟩)] (w9.drewN n) fun e w' => e = .returned (.int .i64 s'.2) ∧ w' = w9.drewN n) := fun n => rErr_any p L s' _ (HB9.out.drewN n).1
        generalize s'.1.length = ln at *
        generalize s'.2 = er at *
        have hln : ((ln : Int) != (ln : Int)) = false := by simp
        have her : (er != er) = false := by simp
        clear hB2 hF2
        go_wp2_with fail
        go_quiet ((first
          | (go_at_call 18; refine Calls.quiet_of_same (HLp.out _))
          | (go_at_call 19; refine Calls.quiet_of_same (HLq.out _))
          | (go_at_call 20; refine Calls.quiet_of_same (HEp.out _))))
        go_wp2
        go_roundw
        case rel => exact ⟨i + 1, s', by go_num, by omega, HB9.out.drewN _, below_drewN HBel2.out _⟩
        case measure => simp [intOf]; omega
    · by_cases h1 : i < len1
      · obtain rfl : i = 40 := by omega
        obtain ⟨hRp, hRq, hpq, hOwn⟩ := HBo.out
        obtain ⟨_, _, _, hdp, hbp, _, _, _, _, _, hcan⟩ := id hRp
        obtain ⟨_, _, _, hdq⟩ := hRq.hd
        have hb0 := HZ0.out.below HBi.out
        have T1 : Hid (∀ w', Fr (Pair p q) wr w' → (convert 22 9 (.slice ao m c)).run Try.prog w' = .ok (.string (strOfNums zs)) w') := fun w' hF =>
          str_any (hOwn.fr hF (fun a ha hn hx => by rcases hx with hx | hx; exact hOwn.ne hdp (by decide) a ha hn hx; exact hOwn.ne hdq (by decide) a ha hn hx)) c
        have T2 : Hid (∀ w', Fr (Pair p q) wr w' → (convert 22 9 (.slice a0 m cap0)).run Try.prog w' = .ok (.string (strOfNums zs)) w') := fun w' hF =>
          str_any (hb0.fr hF (fun a ha hn hx => by rcases hx with hx | hx; exact hb0.ne hdp (by decide) a ha hn hx; exact hb0.ne hdq (by decide) a ha hn hx)) cap0
        by_cases hz0 : s.1 = []
        · have s1 : ∀ nq, (convert 22 9 (.slice ao m c)).run Try.prog (wr.drewN nq) = .ok (.string (strOfNums zs)) (wr.drewN nq) := fun nq => T1.out _ ((Fr.refl _ wr).drewN nq)
          have s2 : ∀ nq, (convert 22 9 (.slice a0 m cap0)).run Try.prog (wr.drewN nq) = .ok (.string (strOfNums zs)) (wr.drewN nq) := fun nq => T2.out _ ((Fr.refl _ wr).drewN nq)
          have hs : s = ([], s.2) := Prod.ext hz0 rfl
          have HE1 : Hid (∀ n, Calls Try.prog 21 #[.pointer (some ⟨p, 0, none⟩)] (wr.drewN n) fun e w' => e = .returned (.int .i64 s.2) ∧ w' = wr.drewN n) := fun n => End_none p L s.2 _ (by rw [hs] at hRp; exact hRp)
          have HE2 : Hid (∀ n, Calls Try.prog 22 #[.pointer (some ⟨q, 0, none⟩)] (wr.drewN n) fun e w' => e = .returned (.int .i64 s.2) ∧ w' = wr.drewN n) := fun n => refEnd_none q L' s.2 _ (by rw [hs] at hRq; exact hRq)
          have HE3 : Hid (∀ n, Calls Try.prog 20 #[.pointer (some ⟨p, 0, none⟩)] (wr.drewN n) fun e w' => e = .returned (.int .i64 s.2) ∧ w' = wr.drewN n) := fun n => rErr_any p L s _ hRp
          have hq1 : wr.cell? ⟨q, 1, none⟩ = some (.int .i64 s.2) := hdq.c1
          generalize s.2 = er at *
          have her : (er == er) = true := beq_self_eq_true _
          clear hRp hRq hpq hOwn hdp hdq hb0 hz0 hs hbp hcan
          go_wp2_with fail
          go_quiet ((first
            | (go_at_call 21; refine Calls.quiet_of_same (HE1.out _))
            | (go_at_call 22; refine Calls.quiet_of_same (HE2.out _))
            | (go_at_call 20; refine Calls.quiet_of_same (HE3.out _))))
          go_wp2
          go_ret
          exact ⟨rfl, below_drewN HBi.out _⟩
        · have h20 : s.2 = 0 := by rcases hcan with h | h; exact h; exact absurd h hz0
          have he : endS s = ([], 2) := by unfold endS; rw [if_pos (by rcases hs0 : s.1 with _ | ⟨x, xs⟩; exact absurd hs0 hz0; simp)]; unfold fl; rw [if_pos h20]
          have HE1 : Hid (∀ wX, RdP wX p L s → Calls Try.prog 21 #[.pointer (some ⟨p, 0, none⟩)] wX fun r w' => r = .returned (.int .i64 2) ∧ RdP w' p L ([], 2) ∧ Fr (One p) wX w') := fun wX h => by
            have := End_any p L s wX h
            rw [he] at this
            exact this
          have HE2 : Hid (∀ wX, RdR wX q L' s → Calls Try.prog 22 #[.pointer (some ⟨q, 0, none⟩)] wX fun r w' => r = .returned (.int .i64 2) ∧ RdR w' q L' ([], 2) ∧ Fr (One q) wX w') := fun wX h => by
            have := refEnd_any q L' s wX h
            rw [he] at this
            exact this
          clear hRp hRq hpq hOwn hdp hdq hb0 hz0 he h20 hbp hcan
          go_wp2_with fail
          refine wp_region_held_drew (S := fun _ => True) (by kernel_rfl) trivial (fun hHeld => ?_)
          refine wpAnyH_take (i := 0) (oi := ⟨some 112, _, _, _, _, _⟩) (v := ?_) rfl (by kernel_rfl) (by kernel_rfl) (by kernel_rfl) (fun _ _ _ h => h) (Or.inl ⟨by rfl, ?_⟩) (by assumption) ?_
          rotate_left
          · (intro w hSw; go_simp; try with_reducible rfl)
          try simp only [Act.put, List.setIfInBounds_toArray, List.set_cons_zero, List.set_cons_succ]
          refine wpAnyH_take (i := 2) (oi := ⟨some 114, _, _, _, _, _⟩) (v := ?_) rfl (by kernel_rfl) (by kernel_rfl) (by kernel_rfl) (fun _ _ _ h => h) (Or.inl ⟨by rfl, ?_⟩) (by assumption) ?_
          rotate_left
          · (intro w hSw; go_simp; try with_reducible rfl)
          try simp only [Act.put, List.setIfInBounds_toArray, List.set_cons_zero, List.set_cons_succ]
          refine wpAnyH_ready (rs := [1]) (by kernel_rfl) (by simp) ?_
          refine AllReadyH.cons (o := ⟨some 113, _, _, _, _, _⟩) rfl (fun K hK => ?_) AllReadyH.nil
          go_simp
          refine (HE1.out wr.drew HBo.out.1).mono ?_
          rintro r wA ⟨rfl, hRA, hFA⟩
          have HRA : Hid (RdP wA p L ([], 2)) := hRA
          have HFA : Hid (Fr (One p) wr wA) := hFA.undrew
          have HQA : Hid (RdR wA q L' s) := (HBo.out.p HFA.out).1
          clear hRA hFA
          refine hK.out _ _ trivial (fun hHeld => ?_)
          clear hK K
          try simp only [Act.put, List.setIfInBounds_toArray, List.set_cons_zero, List.set_cons_succ]
          refine wpAnyH_ready (rs := [3]) (by kernel_rfl) (by simp) ?_
          refine AllReadyH.cons (o := ⟨some 115, _, _, _, _, _⟩) rfl (fun K hK => ?_) AllReadyH.nil
          go_simp
          refine (HE2.out wA HQA.out).mono ?_
          rintro r w9 ⟨rfl, hR9, hF9⟩
          have HS2 : Hid (Both w9 p L q L' ([], 2) ao m zs ∧ Fr (Pair p q) wr w9) := HBo.out.pq HFA.out HRA.out hF9 hR9
          have t3 := T1.out w9 HS2.out.2
          have t4 := T2.out w9 HS2.out.2
          have hq9 := rr_cell HS2.out.1.2.1
          clear hR9 hF9
          refine hK.out _ _ trivial (fun hHeld => ?_)
          clear hK K
          try simp only [Act.put, List.setIfInBounds_toArray, List.set_cons_zero, List.set_cons_succ]
          refine wpAnyH_switch (S' := fun w' => w' = w9) (fun _ _ => trivial) _ _ _ _ ?_
          clear hHeld
          have hHeld : (fun w' => w' = w9) w9 := rfl
          refine wpAnyH_take (i := 4) (oi := ⟨some 116, _, _, _, _, _⟩) (v := ?_) rfl (by kernel_rfl) (by kernel_rfl) (by kernel_rfl) (fun _ _ _ h => h) (Or.inl ⟨by rfl, ?_⟩) (by assumption) ?_
          rotate_left
          · (intro w hSw; subst hSw; go_simp; try with_reducible rfl)
          try simp only [Act.put, List.setIfInBounds_toArray, List.set_cons_zero, List.set_cons_succ]
          refine wpAnyH_take (i := 5) (oi := ⟨some 117, _, _, _, _, _⟩) (v := ?_) rfl (by kernel_rfl) (by kernel_rfl) (by kernel_rfl) (fun _ _ _ h => h) (Or.inl ⟨by rfl, ?_⟩) (by assumption) ?_
          rotate_left
          · (intro w hSw; subst hSw; go_simp; try with_reducible rfl)
          try simp only [Act.put, List.setIfInBounds_toArray, List.set_cons_zero, List.set_cons_succ]
          refine wpAnyH_take (i := 6) (oi := ⟨some 118, _, _, _, _, _⟩) (v := ?_) rfl (by kernel_rfl) (by kernel_rfl) (by kernel_rfl) (fun _ _ _ h => h) (Or.inl ⟨by rfl, ?_⟩) (by assumption) ?_
          rotate_left
          · (intro w hSw; subst hSw; go_simp; try with_reducible rfl)
          try simp only [Act.put, List.setIfInBounds_toArray, List.set_cons_zero, List.set_cons_succ]
          refine wpAnyH_take (i := 7) (oi := ⟨some 119, _, _, _, _, _⟩) (v := ?_) rfl (by kernel_rfl) (by kernel_rfl) (by kernel_rfl) (fun _ _ _ h => h) (Or.inl ⟨by rfl, ?_⟩) (by assumption) ?_
          rotate_left
          · (intro w hSw; subst hSw; go_simp; try with_reducible rfl)
          try simp only [Act.put, List.setIfInBounds_toArray, List.set_cons_zero, List.set_cons_succ]
          refine wpAnyH_take (i := 8) (oi := ⟨some 120, _, _, _, _, _⟩) (v := ?_) rfl (by kernel_rfl) (by kernel_rfl) (by kernel_rfl) (fun _ _ _ h => h) (Or.inl ⟨by rfl, ?_⟩) (by assumption) ?_
          rotate_left
          · (intro w hSw; subst hSw; go_simp; try with_reducible rfl)
          try simp only [Act.put, List.setIfInBounds_toArray, List.set_cons_zero, List.set_cons_succ]
          refine wpAnyH_take (i := 10) (oi := ⟨some 122, _, _, _, _, _⟩) (v := ?_) rfl (by kernel_rfl) (by kernel_rfl) (by kernel_rfl) (fun _ _ _ h => h) (Or.inl ⟨by rfl, ?_⟩) (by assumption) ?_
          rotate_left
          · (intro w hSw; subst hSw; go_simp; try with_reducible rfl)
          try simp only [Act.put, List.setIfInBounds_toArray, List.set_cons_zero, List.set_cons_succ]
          refine wpAnyH_take (i := 11) (oi := ⟨some 123, _, _, _, _, _⟩) (v := ?_) rfl (by kernel_rfl) (by kernel_rfl) (by kernel_rfl) (fun _ _ _ h => h) (Or.inl ⟨by rfl, ?_⟩) (by assumption) ?_
          rotate_left
          · (intro w hSw; subst hSw; go_simp; try with_reducible rfl)
          try simp only [Act.put, List.setIfInBounds_toArray, List.set_cons_zero, List.set_cons_succ]
          refine wpAnyH_take (i := 12) (oi := ⟨some 124, _, _, _, _, _⟩) (v := ?_) rfl (by kernel_rfl) (by kernel_rfl) (by kernel_rfl) (fun _ _ _ h => h) (Or.inl ⟨by rfl, ?_⟩) (by assumption) ?_
          rotate_left
          · (intro w hSw; subst hSw; go_simp; try with_reducible rfl)
          try simp only [Act.put, List.setIfInBounds_toArray, List.set_cons_zero, List.set_cons_succ]
          refine wpAnyH_take (i := 13) (oi := ⟨some 125, _, _, _, _, _⟩) (v := ?_) rfl (by kernel_rfl) (by kernel_rfl) (by kernel_rfl) (fun _ _ _ h => h) (Or.inl ⟨by rfl, ?_⟩) (by assumption) ?_
          rotate_left
          · (intro w hSw; subst hSw; go_simp; try with_reducible rfl)
          try simp only [Act.put, List.setIfInBounds_toArray, List.set_cons_zero, List.set_cons_succ]
          refine wpAnyH_ready (rs := [9]) (by kernel_rfl) (by simp) ?_
          refine AllReadyH.cons (o := ⟨some 121, _, _, _, _, _⟩) rfl (fun K hK => ?_) AllReadyH.nil
          go_simp
          refine (rErr_any p L ([], 2) w9 HS2.out.1.1).mono ?_
          rintro r wE ⟨rfl, hwE⟩
          obtain rfl := hwE.symm
          refine hK.out _ _ rfl (fun hHeld => ?_)
          clear hK K
          try simp only [Act.put, List.setIfInBounds_toArray, List.set_cons_zero, List.set_cons_succ]
          refine wpAnyH_take (i := 14) (oi := ⟨some 126, _, _, _, _, _⟩) (v := ?_) rfl (by kernel_rfl) (by kernel_rfl) (by kernel_rfl) (fun _ _ _ h => h) (Or.inl ⟨by rfl, ?_⟩) (by assumption) ?_
          rotate_left
          · (intro w hSw; subst hSw; go_simp; try with_reducible rfl)
          try simp only [Act.put, List.setIfInBounds_toArray, List.set_cons_zero, List.set_cons_succ]
          refine wpAnyH_take (i := 15) (oi := ⟨some 127, _, _, _, _, _⟩) (v := ?_) rfl (by kernel_rfl) (by kernel_rfl) (by kernel_rfl) (fun _ _ _ h => h) (Or.inl ⟨by rfl, ?_⟩) (by assumption) ?_
          rotate_left
          · (intro w hSw; subst hSw; go_simp; try with_reducible rfl)
          try simp only [Act.put, List.setIfInBounds_toArray, List.set_cons_zero, List.set_cons_succ]
          refine wpAnyH_take (i := 16) (oi := ⟨some 128, _, _, _, _, _⟩) (v := ?_) rfl (by kernel_rfl) (by kernel_rfl) (by kernel_rfl) (fun _ _ _ h => h) (Or.inl ⟨by rfl, ?_⟩) (by assumption) ?_
          rotate_left
          · (intro w hSw; subst hSw; go_simp; try with_reducible rfl)
          try simp only [Act.put, List.setIfInBounds_toArray, List.set_cons_zero, List.set_cons_succ]
          refine wpAnyH_take (i := 17) (oi := ⟨some 129, _, _, _, _, _⟩) (v := ?_) rfl (by kernel_rfl) (by kernel_rfl) (by kernel_rfl) (fun _ _ _ h => h) (Or.inl ⟨by rfl, ?_⟩) (by assumption) ?_
          rotate_left
          · (intro w hSw; subst hSw; go_simp; try with_reducible rfl)
          try simp only [Act.put, List.setIfInBounds_toArray, List.set_cons_zero, List.set_cons_succ]
          refine wpAnyH_take (i := 18) (oi := ⟨some 130, _, _, _, _, _⟩) (v := ?_) rfl (by kernel_rfl) (by kernel_rfl) (by kernel_rfl) (fun _ _ _ h => h) (Or.inl ⟨by rfl, ?_⟩) (by assumption) ?_
          rotate_left
          · (intro w hSw; subst hSw; go_simp; try with_reducible rfl)
          try simp only [Act.put, List.setIfInBounds_toArray, List.set_cons_zero, List.set_cons_succ]
          refine wpAnyH_take (i := 19) (oi := ⟨some 131, _, _, _, _, _⟩) (v := ?_) rfl (by kernel_rfl) (by kernel_rfl) (by kernel_rfl) (fun _ _ _ h => h) (Or.inl ⟨by rfl, ?_⟩) (by assumption) ?_
          rotate_left
          · (intro w hSw; subst hSw; go_simp; try with_reducible rfl)
          try simp only [Act.put, List.setIfInBounds_toArray, List.set_cons_zero, List.set_cons_succ]
          refine wpAnyH_take (i := 20) (oi := ⟨some 132, _, _, _, _, _⟩) (v := ?_) rfl (by kernel_rfl) (by kernel_rfl) (by kernel_rfl) (fun _ _ _ h => h) (Or.inl ⟨by rfl, ?_⟩) (by assumption) ?_
          rotate_left
          · (intro w hSw; subst hSw; go_simp; try with_reducible rfl)
          try simp only [Act.put, List.setIfInBounds_toArray, List.set_cons_zero, List.set_cons_succ]
          refine wpAnyH_take (i := 21) (oi := ⟨some 133, _, _, _, _, _⟩) (v := ?_) rfl (by kernel_rfl) (by kernel_rfl) (by kernel_rfl) (fun _ _ _ h => h) (Or.inl ⟨by rfl, ?_⟩) (by assumption) ?_
          rotate_left
          · (intro w hSw; subst hSw; go_simp; try with_reducible rfl)
          try simp only [Act.put, List.setIfInBounds_toArray, List.set_cons_zero, List.set_cons_succ]
          refine wpAnyH_take (i := 22) (oi := ⟨some 134, _, _, _, _, _⟩) (v := ?_) rfl (by kernel_rfl) (by kernel_rfl) (by kernel_rfl) (fun _ _ _ h => h) (Or.inl ⟨by rfl, ?_⟩) (by assumption) ?_
          rotate_left
          · (intro w hSw; subst hSw; go_simp; try with_reducible rfl)
          try simp only [Act.put, List.setIfInBounds_toArray, List.set_cons_zero, List.set_cons_succ]
          refine wpAnyH_take (i := 23) (oi := ⟨some 4, _, _, _, _, _⟩) (v := ?_) rfl (by kernel_rfl) (by kernel_rfl) (by kernel_rfl) (fun _ _ _ h => h) (Or.inl ⟨by rfl, ?_⟩) (by assumption) ?_
          rotate_left
          · (intro w hSw; subst hSw; go_simp; try with_reducible rfl)
          try simp only [Act.put, List.setIfInBounds_toArray, List.set_cons_zero, List.set_cons_succ]
          refine wpAnyH_done (by kernel_rfl) ?_ _
          go_wp2
          go_ret
          exact ⟨rfl, HBi.out.trans (HS2.out.2.pair_below HBi.out.size HP0.out HQ0.out)⟩
      · have hi9 : Hid True := trivial
        obtain ⟨hRp, hRq, hpq, hOwn⟩ := HBo.out
        obtain ⟨_, _, _, hdp, hbp, _, _, _, _, _, hcan⟩ := id hRp
        obtain ⟨_, _, _, hdq⟩ := hRq.hd
        have hb0 := HZ0.out.below HBi.out
        have T1 : Hid (∀ w', Fr (Pair p q) wr w' → (convert 22 9 (.slice ao m c)).run Try.prog w' = .ok (.string (strOfNums zs)) w') := fun w' hF =>
          str_any (hOwn.fr hF (fun a ha hn hx => by rcases hx with hx | hx; exact hOwn.ne hdp (by decide) a ha hn hx; exact hOwn.ne hdq (by decide) a ha hn hx)) c
        have T2 : Hid (∀ w', Fr (Pair p q) wr w' → (convert 22 9 (.slice a0 m cap0)).run Try.prog w' = .ok (.string (strOfNums zs)) w') := fun w' hF =>
          str_any (hb0.fr hF (fun a ha hn hx => by rcases hx with hx | hx; exact hb0.ne hdp (by decide) a ha hn hx; exact hb0.ne hdq (by decide) a ha hn hx)) cap0
        by_cases hz0 : s.1 = []
        · have s1 : ∀ nq, (convert 22 9 (.slice ao m c)).run Try.prog (wr.drewN nq) = .ok (.string (strOfNums zs)) (wr.drewN nq) := fun nq => T1.out _ ((Fr.refl _ wr).drewN nq)
          have s2 : ∀ nq, (convert 22 9 (.slice a0 m cap0)).run Try.prog (wr.drewN nq) = .ok (.string (strOfNums zs)) (wr.drewN nq) := fun nq => T2.out _ ((Fr.refl _ wr).drewN nq)
          have hs : s = ([], s.2) := Prod.ext hz0 rfl
          have HE1 : Hid (∀ n, Calls Try.prog 21 #[.pointer (some ⟨p, 0, none⟩)] (wr.drewN n) fun e w' => e = .returned (.int .i64 s.2) ∧ w' = wr.drewN n) := fun n => End_none p L s.2 _ (by rw [hs] at hRp; exact hRp)
          have HE2 : Hid (∀ n, Calls Try.prog 22 #[.pointer (some ⟨q, 0, none⟩)] (wr.drewN n) fun e w' => e = .returned (.int .i64 s.2) ∧ w' = wr.drewN n) := fun n => refEnd_none q L' s.2 _ (by rw [hs] at hRq; exact hRq)
          have HE3 : Hid (∀ n, Calls Try.prog 20 #[.pointer (some ⟨p, 0, none⟩)] (wr.drewN n) fun e w' => e = .returned (.int .i64 s.2) ∧ w' = wr.drewN n) := fun n => rErr_any p L s _ hRp
          have hq1 : wr.cell? ⟨q, 1, none⟩ = some (.int .i64 s.2) := hdq.c1
          generalize s.2 = er at *
          have her : (er == er) = true := beq_self_eq_true _
          clear hRp hRq hpq hOwn hdp hdq hb0 hz0 hs hbp hcan
          go_wp2_with fail
          go_quiet ((first
            | (go_at_call 21; refine Calls.quiet_of_same (HE1.out _))
            | (go_at_call 22; refine Calls.quiet_of_same (HE2.out _))
            | (go_at_call 20; refine Calls.quiet_of_same (HE3.out _))))
          go_wp2
          go_ret
          exact ⟨rfl, below_drewN HBi.out _⟩
        · have h20 : s.2 = 0 := by rcases hcan with h | h; exact h; exact absurd h hz0
          have he : endS s = ([], 2) := by unfold endS; rw [if_pos (by rcases hs0 : s.1 with _ | ⟨x, xs⟩; exact absurd hs0 hz0; simp)]; unfold fl; rw [if_pos h20]
          have HE1 : Hid (∀ wX, RdP wX p L s → Calls Try.prog 21 #[.pointer (some ⟨p, 0, none⟩)] wX fun r w' => r = .returned (.int .i64 2) ∧ RdP w' p L ([], 2) ∧ Fr (One p) wX w') := fun wX h => by
            have := End_any p L s wX h
            rw [he] at this
            exact this
          have HE2 : Hid (∀ wX, RdR wX q L' s → Calls Try.prog 22 #[.pointer (some ⟨q, 0, none⟩)] wX fun r w' => r = .returned (.int .i64 2) ∧ RdR w' q L' ([], 2) ∧ Fr (One q) wX w') := fun wX h => by
            have := refEnd_any q L' s wX h
            rw [he] at this
            exact this
          clear hRp hRq hpq hOwn hdp hdq hb0 hz0 he h20 hbp hcan
          go_wp2_with fail
          refine wp_region_held_drew (S := fun _ => True) (by kernel_rfl) trivial (fun hHeld => ?_)
          refine wpAnyH_take (i := 0) (oi := ⟨some 112, _, _, _, _, _⟩) (v := ?_) rfl (by kernel_rfl) (by kernel_rfl) (by kernel_rfl) (fun _ _ _ h => h) (Or.inl ⟨by rfl, ?_⟩) (by assumption) ?_
          rotate_left
          · (intro w hSw; go_simp; try with_reducible rfl)
          try simp only [Act.put, List.setIfInBounds_toArray, List.set_cons_zero, List.set_cons_succ]
          refine wpAnyH_take (i := 2) (oi := ⟨some 114, _, _, _, _, _⟩) (v := ?_) rfl (by kernel_rfl) (by kernel_rfl) (by kernel_rfl) (fun _ _ _ h => h) (Or.inl ⟨by rfl, ?_⟩) (by assumption) ?_
          rotate_left
          · (intro w hSw; go_simp; try with_reducible rfl)
          try simp only [Act.put, List.setIfInBounds_toArray, List.set_cons_zero, List.set_cons_succ]
          refine wpAnyH_ready (rs := [1]) (by kernel_rfl) (by simp) ?_
          refine AllReadyH.cons (o := ⟨some 113, _, _, _, _, _⟩) rfl (fun K hK => ?_) AllReadyH.nil
          go_simp
          refine (HE1.out wr.drew HBo.out.1).mono ?_
          rintro r wA ⟨rfl, hRA, hFA⟩
          have HRA : Hid (RdP wA p L ([], 2)) := hRA
          have HFA : Hid (Fr (One p) wr wA) := hFA.undrew
          have HQA : Hid (RdR wA q L' s) := (HBo.out.p HFA.out).1
          clear hRA hFA
          refine hK.out _ _ trivial (fun hHeld => ?_)
          clear hK K
          try simp only [Act.put, List.setIfInBounds_toArray, List.set_cons_zero, List.set_cons_succ]
          refine wpAnyH_ready (rs := [3]) (by kernel_rfl) (by simp) ?_
          refine AllReadyH.cons (o := ⟨some 115, _, _, _, _, _⟩) rfl (fun K hK => ?_) AllReadyH.nil
          go_simp
          refine (HE2.out wA HQA.out).mono ?_
          rintro r w9 ⟨rfl, hR9, hF9⟩
          have HS2 : Hid (Both w9 p L q L' ([], 2) ao m zs ∧ Fr (Pair p q) wr w9) := HBo.out.pq HFA.out HRA.out hF9 hR9
          have t3 := T1.out w9 HS2.out.2
          have t4 := T2.out w9 HS2.out.2
          have hq9 := rr_cell HS2.out.1.2.1
          clear hR9 hF9
          refine hK.out _ _ trivial (fun hHeld => ?_)
          clear hK K
          try simp only [Act.put, List.setIfInBounds_toArray, List.set_cons_zero, List.set_cons_succ]
          refine wpAnyH_switch (S' := fun w' => w' = w9) (fun _ _ => trivial) _ _ _ _ ?_
          clear hHeld
          have hHeld : (fun w' => w' = w9) w9 := rfl
          refine wpAnyH_take (i := 4) (oi := ⟨some 116, _, _, _, _, _⟩) (v := ?_) rfl (by kernel_rfl) (by kernel_rfl) (by kernel_rfl) (fun _ _ _ h => h) (Or.inl ⟨by rfl, ?_⟩) (by assumption) ?_
          rotate_left
          · (intro w hSw; subst hSw; go_simp; try with_reducible rfl)
          try simp only [Act.put, List.setIfInBounds_toArray, List.set_cons_zero, List.set_cons_succ]
          refine wpAnyH_take (i := 5) (oi := ⟨some 117, _, _, _, _, _⟩) (v := ?_) rfl (by kernel_rfl) (by kernel_rfl) (by kernel_rfl) (fun _ _ _ h => h) (Or.inl ⟨by rfl, ?_⟩) (by assumption) ?_
          rotate_left
          · (intro w hSw; subst hSw; go_simp; try with_reducible rfl)
          try simp only [Act.put, List.setIfInBounds_toArray, List.set_cons_zero, List.set_cons_succ]
          refine wpAnyH_take (i := 6) (oi := ⟨some 118, _, _, _, _, _⟩) (v := ?_) rfl (by kernel_rfl) (by kernel_rfl) (by kernel_rfl) (fun _ _ _ h => h) (Or.inl ⟨by rfl, ?_⟩) (by assumption) ?_
          rotate_left
          · (intro w hSw; subst hSw; go_simp; try with_reducible rfl)
          try simp only [Act.put, List.setIfInBounds_toArray, List.set_cons_zero, List.set_cons_succ]
          refine wpAnyH_take (i := 7) (oi := ⟨some 119, _, _, _, _, _⟩) (v := ?_) rfl (by kernel_rfl) (by kernel_rfl) (by kernel_rfl) (fun _ _ _ h => h) (Or.inl ⟨by rfl, ?_⟩) (by assumption) ?_
          rotate_left
          · (intro w hSw; subst hSw; go_simp; try with_reducible rfl)
          try simp only [Act.put, List.setIfInBounds_toArray, List.set_cons_zero, List.set_cons_succ]
          refine wpAnyH_take (i := 8) (oi := ⟨some 120, _, _, _, _, _⟩) (v := ?_) rfl (by kernel_rfl) (by kernel_rfl) (by kernel_rfl) (fun _ _ _ h => h) (Or.inl ⟨by rfl, ?_⟩) (by assumption) ?_
          rotate_left
          · (intro w hSw; subst hSw; go_simp; try with_reducible rfl)
          try simp only [Act.put, List.setIfInBounds_toArray, List.set_cons_zero, List.set_cons_succ]
          refine wpAnyH_take (i := 10) (oi := ⟨some 122, _, _, _, _, _⟩) (v := ?_) rfl (by kernel_rfl) (by kernel_rfl) (by kernel_rfl) (fun _ _ _ h => h) (Or.inl ⟨by rfl, ?_⟩) (by assumption) ?_
          rotate_left
          · (intro w hSw; subst hSw; go_simp; try with_reducible rfl)
          try simp only [Act.put, List.setIfInBounds_toArray, List.set_cons_zero, List.set_cons_succ]
          refine wpAnyH_take (i := 11) (oi := ⟨some 123, _, _, _, _, _⟩) (v := ?_) rfl (by kernel_rfl) (by kernel_rfl) (by kernel_rfl) (fun _ _ _ h => h) (Or.inl ⟨by rfl, ?_⟩) (by assumption) ?_
          rotate_left
          · (intro w hSw; subst hSw; go_simp; try with_reducible rfl)
          try simp only [Act.put, List.setIfInBounds_toArray, List.set_cons_zero, List.set_cons_succ]
          refine wpAnyH_take (i := 12) (oi := ⟨some 124, _, _, _, _, _⟩) (v := ?_) rfl (by kernel_rfl) (by kernel_rfl) (by kernel_rfl) (fun _ _ _ h => h) (Or.inl ⟨by rfl, ?_⟩) (by assumption) ?_
          rotate_left
          · (intro w hSw; subst hSw; go_simp; try with_reducible rfl)
          try simp only [Act.put, List.setIfInBounds_toArray, List.set_cons_zero, List.set_cons_succ]
          refine wpAnyH_take (i := 13) (oi := ⟨some 125, _, _, _, _, _⟩) (v := ?_) rfl (by kernel_rfl) (by kernel_rfl) (by kernel_rfl) (fun _ _ _ h => h) (Or.inl ⟨by rfl, ?_⟩) (by assumption) ?_
          rotate_left
          · (intro w hSw; subst hSw; go_simp; try with_reducible rfl)
          try simp only [Act.put, List.setIfInBounds_toArray, List.set_cons_zero, List.set_cons_succ]
          refine wpAnyH_ready (rs := [9]) (by kernel_rfl) (by simp) ?_
          refine AllReadyH.cons (o := ⟨some 121, _, _, _, _, _⟩) rfl (fun K hK => ?_) AllReadyH.nil
          go_simp
          refine (rErr_any p L ([], 2) w9 HS2.out.1.1).mono ?_
          rintro r wE ⟨rfl, hwE⟩
          obtain rfl := hwE.symm
          refine hK.out _ _ rfl (fun hHeld => ?_)
          clear hK K
          try simp only [Act.put, List.setIfInBounds_toArray, List.set_cons_zero, List.set_cons_succ]
          refine wpAnyH_take (i := 14) (oi := ⟨some 126, _, _, _, _, _⟩) (v := ?_) rfl (by kernel_rfl) (by kernel_rfl) (by kernel_rfl) (fun _ _ _ h => h) (Or.inl ⟨by rfl, ?_⟩) (by assumption) ?_
          rotate_left
          · (intro w hSw; subst hSw; go_simp; try with_reducible rfl)
          try simp only [Act.put, List.setIfInBounds_toArray, List.set_cons_zero, List.set_cons_succ]
          refine wpAnyH_take (i := 15) (oi := ⟨some 127, _, _, _, _, _⟩) (v := ?_) rfl (by kernel_rfl) (by kernel_rfl) (by kernel_rfl) (fun _ _ _ h => h) (Or.inl ⟨by rfl, ?_⟩) (by assumption) ?_
          rotate_left
          · (intro w hSw; subst hSw; go_simp; try with_reducible rfl)
          try simp only [Act.put, List.setIfInBounds_toArray, List.set_cons_zero, List.set_cons_succ]
          refine wpAnyH_take (i := 16) (oi := ⟨some 128, _, _, _, _, _⟩) (v := ?_) rfl (by kernel_rfl) (by kernel_rfl) (by kernel_rfl) (fun _ _ _ h => h) (Or.inl ⟨by rfl, ?_⟩) (by assumption) ?_
          rotate_left
          · (intro w hSw; subst hSw; go_simp; try with_reducible rfl)
          try simp only [Act.put, List.setIfInBounds_toArray, List.set_cons_zero, List.set_cons_succ]
          refine wpAnyH_take (i := 17) (oi := ⟨some 129, _, _, _, _, _⟩) (v := ?_) rfl (by kernel_rfl) (by kernel_rfl) (by kernel_rfl) (fun _ _ _ h => h) (Or.inl ⟨by rfl, ?_⟩) (by assumption) ?_
          rotate_left
          · (intro w hSw; subst hSw; go_simp; try with_reducible rfl)
          try simp only [Act.put, List.setIfInBounds_toArray, List.set_cons_zero, List.set_cons_succ]
          refine wpAnyH_take (i := 18) (oi := ⟨some 130, _, _, _, _, _⟩) (v := ?_) rfl (by kernel_rfl) (by kernel_rfl) (by kernel_rfl) (fun _ _ _ h => h) (Or.inl ⟨by rfl, ?_⟩) (by assumption) ?_
          rotate_left
          · (intro w hSw; subst hSw; go_simp; try with_reducible rfl)
          try simp only [Act.put, List.setIfInBounds_toArray, List.set_cons_zero, List.set_cons_succ]
          refine wpAnyH_take (i := 19) (oi := ⟨some 131, _, _, _, _, _⟩) (v := ?_) rfl (by kernel_rfl) (by kernel_rfl) (by kernel_rfl) (fun _ _ _ h => h) (Or.inl ⟨by rfl, ?_⟩) (by assumption) ?_
          rotate_left
          · (intro w hSw; subst hSw; go_simp; try with_reducible rfl)
          try simp only [Act.put, List.setIfInBounds_toArray, List.set_cons_zero, List.set_cons_succ]
          refine wpAnyH_take (i := 20) (oi := ⟨some 132, _, _, _, _, _⟩) (v := ?_) rfl (by kernel_rfl) (by kernel_rfl) (by kernel_rfl) (fun _ _ _ h => h) (Or.inl ⟨by rfl, ?_⟩) (by assumption) ?_
          rotate_left
          · (intro w hSw; subst hSw; go_simp; try with_reducible rfl)
          try simp only [Act.put, List.setIfInBounds_toArray, List.set_cons_zero, List.set_cons_succ]
          refine wpAnyH_take (i := 21) (oi := ⟨some 133, _, _, _, _, _⟩) (v := ?_) rfl (by kernel_rfl) (by kernel_rfl) (by kernel_rfl) (fun _ _ _ h => h) (Or.inl ⟨by rfl, ?_⟩) (by assumption) ?_
          rotate_left
          · (intro w hSw; subst hSw; go_simp; try with_reducible rfl)
          try simp only [Act.put, List.setIfInBounds_toArray, List.set_cons_zero, List.set_cons_succ]
          refine wpAnyH_take (i := 22) (oi := ⟨some 134, _, _, _, _, _⟩) (v := ?_) rfl (by kernel_rfl) (by kernel_rfl) (by kernel_rfl) (fun _ _ _ h => h) (Or.inl ⟨by rfl, ?_⟩) (by assumption) ?_
          rotate_left
          · (intro w hSw; subst hSw; go_simp; try with_reducible rfl)
          try simp only [Act.put, List.setIfInBounds_toArray, List.set_cons_zero, List.set_cons_succ]
          refine wpAnyH_take (i := 23) (oi := ⟨some 4, _, _, _, _, _⟩) (v := ?_) rfl (by kernel_rfl) (by kernel_rfl) (by kernel_rfl) (fun _ _ _ h => h) (Or.inl ⟨by rfl, ?_⟩) (by assumption) ?_
          rotate_left
          · (intro w hSw; subst hSw; go_simp; try with_reducible rfl)
          try simp only [Act.put, List.setIfInBounds_toArray, List.set_cons_zero, List.set_cons_succ]
          refine wpAnyH_done (by kernel_rfl) ?_ _
          go_wp2
          go_ret
          exact ⟨rfl, HBi.out.trans (HS2.out.2.pair_below HBi.out.size HP0.out HQ0.out)⟩
end Go.Proofs.Ytljjffeediopgaa

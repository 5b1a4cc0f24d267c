/- Layer 12: Add, by the program. -/
import Derived.Test.YtifmikdknifcoaaDatFrames
import Derived.Test.YtifmikdknifcoaaDatWalk
namespace Go.Proofs.Ytifmikdknifcoaa
set_option linter.unusedVariables false
open Go.RowKit Go.Maps
open Lz (g)
open Crc (ent more)
open Frm Mtr Dat

/-- What Add answers, and leaves. -/
def DAdds (first : Nat) (s : Ws) (r z : List Int) (p tb : Nat) (O : Nat → Prop) (w w' : World) (e : Ending) : Prop :=
  ∃ ao c, e = .returned (.tuple #[.int .i64 (addA first s r : Nat), .slice ao (tl z).length c]) ∧ Bs w' ao (tl z).length (tl z) ∧ (∀ a, ao = some a → w.heap.size ≤ a.block) ∧ ∃ O', WrD w' p O' tb first (addS first s r) ∧ Fr O w w' ∧ Gr O O' w ∧ ∀ a, ao = some a → 0 < (tl z).length → ¬ O' a.block
theorem run_frs (T : Nat → Nat) (z : List Int) (K : Nat) (h : z.length / 128 = K) : frs T (z.take (128 * K)) K = run T z := by
  have e := List.take_append_drop (128 * K) z
  have hl : 128 * K ≤ (z.take (128 * K)).length := by rw [List.length_take]; omega
  have := frs_append T (z.take (128 * K)) (z.drop (128 * K)) K hl
  rw [e] at this
  unfold run
  rw [h, this]
theorem Bs_blt {w : World} {ao : Option Addr} {n : Nat} {z : List Int} (h : Bs w ao n z) {a : Addr} (ha : ao = some a) (hn : 0 < n) : a.block < w.heap.size := by
  rcases h.2.2 with h0 | ⟨b, off, h1, h2, _⟩
  · omega
  · rw [ha] at h1
    obtain rfl := Option.some.inj h1
    exact h2
/-- What the writer's map tells. -/
theorem WrD.looks {w : World} {p tb first : Nat} {O : Nat → Prop} {s : Ws} (h : WrD w p O tb first s) {r : List Int} (hr : Bytes r) (hl : r.length ≤ 1000000) :
    ∃ mb, w.cell? ⟨p, 3, none⟩ = some (.map (some mb)) ∧ ∀ q, (Instr.lookup 59 (.map (some mb)) (.string (strOfNums r)) true).run Try.prog (w.drewN q) = .ok (.tuple #[.int .i64 (((Dat.look s.2 r).getD 0 : Nat) : Int), .bool (Dat.look s.2 r).isSome]) (w.drewN q) := by
  obtain ⟨lo, ln, lc, mb, h1, h2, h3, h4, h5, h6, h7⟩ := h
  exact ⟨mb, h1.c3, fun q => (show MpD (w.drewN q) mb s.2 from h4.same rfl).look hr hl⟩
/-- A file's frames more. -/
theorem WrD.puts {w : World} {p tb first : Nat} {O : Nat → Prop} {s : Ws} (h : WrD w p O tb first s) {r : List Int} (hr : Bytes r) (hl : r.length ≤ 1000000) (hM : s.2.length ≤ 1000000) (hn : Dat.look s.2 r = none) (a : Nat) :
    ∃ mb, w.cell? ⟨p, 3, none⟩ = some (.map (some mb)) ∧ ∃ w', (Instr.mapUpdate 59 (.map (some mb)) (.string (strOfNums r)) (.int .i64 (a : Int))).run Try.prog w = .ok () w' ∧ WrD w' p O tb first (s.1, s.2 ++ [(r, a)]) ∧ Fr O w w' := by
  obtain ⟨lo, ln, lc, mb, h1, h2, h3, h4, h5, h6, h7⟩ := h
  obtain ⟨w', k1, k2, k3⟩ := h4.store hr hl hM hn a
  have hf : Fr (One mb) w w' := Fr.of_grown k3 (fun k hk => by cases hk; rfl)
  refine ⟨mb, h1.c3, w', k1, ⟨lo, ln, lc, mb, h1.fr hf (fun e => ?_), h2, h3.fr hf (fun k hk e => ?_), k2, h5, h6, fun k hk => Nat.lt_of_lt_of_le (h7 k hk) hf.size⟩, hf.mono (fun i _ hi => ?_)⟩
  · exact h4.ne (show w.heap[p]? = _ from h1) e
  · obtain ⟨_, _, cur, hcur⟩ := h3.own hk
    exact h4.ne hcur e
  · have : i = mb := hi
    rw [this]; exact h5
set_option maxRecDepth 100000 in
set_option maxHeartbeats 2000000 in
theorem dAdd_any (p tb first n c : Nat) (O : Nat → Prop) (ao : Option Addr) (T : Nat → Nat) (s : Ws) (z : List Int) (w : World) (h : WrD w p O tb first s) (hT : Tb w tb T) (htb : tb < w.heap.size) (hS : Small T) (hb : Bs w ao n z) (hc : n ≤ c) (hcm : c ≤ 9223372036854775807) (hnil : ao = none → c = 0) (hf : first ≤ 1000000) (hL : s.1.length ≤ 500000) (hM : s.2.length ≤ 500000) (hn : n ≤ 100000) :
    Calls Try.prog 14 #[.pointer (some ⟨p, 0, none⟩), .slice ao n c] w fun e w' => DAdds first s (run T z) z p tb O w w' e := by
  have hz := hb.1
  obtain ⟨K, hK⟩ : ∃ K, n / 128 = K := ⟨_, rfl⟩
  have hKb : K ≤ 1000 := by omega
  have HWh := hide (wholeOf_any n w (by omega))
  rw [hK] at HWh
  have hKn : 128 * K ≤ n := by omega
  have hKi : ((128 * K : Nat) : Int) = 128 * (K : Int) := by omega
  obtain ⟨KK, hKK⟩ : ∃ KK, 128 * K = KK := ⟨_, rfl⟩
  rw [hKK] at HWh hKn
  have HTl : Hid (tl z = z.drop KK) := by show _ = _; unfold tl; rw [hz, hK, hKK]
  have hR := hb.toB.rest (cap := c) KK hKn hc
  have HTN : Hid ((if c = KK then ao else Option.map (fun x : Addr => x.add KK) ao) = none → c - KK = 0) := fun e => by
    by_cases e4 : c = KK
    · omega
    · rw [if_neg e4] at e
      cases ao with
      | none => have := hnil rfl; omega
      | some a => simp at e
  have HCl := hide (CloneNew_any (n - KK) (c - KK) (if c = KK then ao else Option.map (fun x : Addr => x.add KK) ao) (z.drop KK) w hR (by omega) HTN.out (by omega))
  have HW := hide h
  have HB := hide hb
  have HTb := hide hT
  have hKi2 : (KK : Int) ≤ (n : Int) := by omega
  have hKi3 : (KK : Int) ≤ (c : Int) := by omega
  obtain ⟨rl, hrl⟩ : ∃ rl, (run T z).length = rl := ⟨_, rfl⟩
  have hrlb : rl ≤ 150000 := by have := (run_length T z).2; rw [hz, hK] at this; omega
  have HRB := hide (run_bytes T hb.bytes)
  have HFO : Hid (∀ w2, Below w.heap.size w w2 → ¬ KK = 0 → Calls Try.prog 28 #[.pointer (some ⟨p, 0, none⟩), .slice ao KK c] w2 fun r w' => ∃ ao' c', r = .returned (.slice ao' rl c') ∧ Rw w' w2.heap.size ao' rl c' (run T z) ∧ Below w2.heap.size w2 w') := fun w2 hb2 hk0 => by
    obtain ⟨b, off, rfl, hbl, hseg⟩ : ∃ b off, ao = some ⟨b, off, none⟩ ∧ b < w.heap.size ∧ Seg w b off z := by
      rcases hb.2.2 with h0 | h0
      · omega
      · exact h0
    have c0 : w2.cell? ⟨p, 0, none⟩ = some (.pointer (some ⟨tb, 0, none⟩)) ∧ p < w2.heap.size := by
      have h2 := h.below hb2
      obtain ⟨lo, ln, lc, mb, hd, _⟩ := h2
      exact ⟨hd.c0, hd.lt⟩
    have hB2 : Bs w2 (some ⟨b, off, none⟩) KK (z.take KK) := (hb.below hb2).take KK hKn
    have := framesOf_any p tb KK c K b off T (z.take KK) w2 c0.1 c0.2 (hT.below hb2 htb) (Nat.lt_of_lt_of_le htb hb2.size) hS hB2 hKK.symm (by omega) hKb (by omega) hcm
    rw [← hKK, run_frs T z K (by rw [hz, hK]), hrl] at this
    rw [← hKK]
    exact this
  have HLk := hide (fun (w3 : World) O3 (h3 : WrD w3 p O3 tb first s) => h3.looks (run_bytes T hb.bytes) (by rw [hrl]; omega))
  have HSt := hide (fun (w3 : World) O3 (h3 : WrD w3 p O3 tb first (s.1 ++ run T z, s.2)) hno => h3.puts (run_bytes T hb.bytes) (by rw [hrl]; omega) (by show s.2.length ≤ _; omega) hno (first + s.1.length))
  have Hrl := hide hrl
  clear hrl
  clear hT hR hKi h
  have HRn := hide (run_nil T z)
  rw [hz, hK] at HRn
  have HKK := hide hKK
  have HK := hide hK
  have HNil := hide hnil
  clear hKK hK hnil hb
  obtain ⟨m, hm⟩ : ∃ m, n - KK = m := ⟨_, rfl⟩
  have HCl2 : Hid (Calls Try.prog 27 #[.slice (if c = KK then ao else Option.map (fun x : Addr => x.add KK) ao) (n - KK) (c - KK)] w fun r w' => ∃ ao' c', r = .returned (.slice ao' m c') ∧ New w w' ao' m c' (z.drop KK)) := by rw [hm] at HCl ⊢; exact HCl
  have Hm := hide hm
  have hmb : m ≤ 100000 := by omega
  clear HCl hm
  by_cases e4 : c = KK
  · rw [if_pos e4] at HCl2
    obtain rfl : KK = c := e4.symm
    obtain rfl : KK = n := by omega
    rw [Nat.sub_self] at HCl2
    obtain ⟨n, hnK⟩ : ∃ n, n = KK := ⟨_, rfl⟩
    rw [← hnK] at hz
    have Hm : Hid (n - KK = m) := by rw [hnK]; exact Hm
    clear hnK
    clear HTN
    go_enter Try.func14, Try.ntmps14
    go_wp2_with (first | (go_at_call 26; refine HWh.out.mono ?_; rintro r w1 ⟨rfl, rfl⟩) | fail)
    obtain ⟨w, rfl⟩ : ∃ w, w = w1 := ⟨_, rfl⟩
    refine HCl2.out.mono ?_
    rintro r w2 ⟨tlo, tc, rfl, hN⟩
    have HN := hide hN
    have Hb2 := hide hN.bel
    clear hN HCl2 HWh
    by_cases hK0 : KK = 0
    · have h0' : ((KK : Int) == 0) = true := by simp; omega
      have HA : Hid (DAdds first s (run T z) z p tb O w w2 (.returned (.tuple #[.int .i64 0, .slice tlo m tc]))) := by
        have hr : run T z = [] := HRn.out.2 (by have := HKK.out; omega)
        have htl : (tl z).length = m := by rw [HTl.out, List.length_drop, hz]; exact Hm.out
        refine ⟨tlo, tc, by rw [hr, (add_nil first s).1, htl]; rfl, ?_, fun a ha => (HN.out.own a ha).1, O, ?_, Fr.of_below Hb2.out, Gr.refl _ _, fun a ha _ hx => by have := (HN.out.own a ha).1; have := HW.out.olt _ hx; omega⟩
        · rw [htl, HTl.out]; exact HN.out.bs
        · rw [hr, (add_nil first s).2]; exact HW.out.below Hb2.out
      clear hK0
      go_wp2
      go_ret2
      exact HA.out
    · have h0' : ((KK : Int) == 0) = false := by simp; omega
      have HF := hide (HFO.out w2 Hb2.out hK0)
      have hrne : run T z ≠ [] := fun e => hK0 (by have := HRn.out.1 e; have := HKK.out; omega)
      have HRne := hide hrne
      clear HFO hrne
      go_wp2_with fail
      refine HF.out.mono ?_
      rintro r w3 ⟨fo, fc, rfl, hR3, hb3⟩
      have HW3 := hide ((HW.out.below Hb2.out).below hb3)
      have Hb3 := hide (Hb2.out.trans (hb3.mono Hb2.out.size))
      have HR3 := hide hR3
      have HT3 := hide (HN.out.bs.below hb3)
      obtain ⟨mb, c3, hlk⟩ := HLk.out w3 O HW3.out
      have hst : ∀ q, (convert 34 9 (.slice fo rl fc)).run Try.prog (w3.drewN q) = .ok (.string (strOfNums (run T z))) (w3.drewN q) := fun q => str_any (show Bs (w3.drewN q) fo rl (run T z) from HR3.out.bs) fc
      clear hR3 hb3 HF HLk
      have htl : (tl z).length = m := by rw [HTl.out, List.length_drop, hz]; exact Hm.out
      have HTLL := hide htl
      clear htl
      cases hlo : Dat.look s.2 (run T z) with
      | some a =>
        rw [hlo] at hlk
        simp only [Option.getD_some, Option.isSome_some] at hlk
        have HA : Hid (∀ q, DAdds first s (run T z) z p tb O w (w3.drewN q) (.returned (.tuple #[.int .i64 (a : Nat), .slice tlo m tc]))) := fun q => by
          obtain ⟨a1, a2⟩ := add_some (first := first) HRne.out hlo
          refine ⟨tlo, tc, by rw [a1, HTLL.out], ?_, fun a ha => (HN.out.own a ha).1, O, ?_, (Fr.of_below Hb3.out).drewN q, Gr.refl _ _, fun a ha _ hx => by have := (HN.out.own a ha).1; have := HW.out.olt _ hx; omega⟩
          · rw [HTLL.out, HTl.out]; exact HT3.out
          · rw [a2]; exact HW3.out
        clear hlo HSt
        go_wp2_with fail
        go_quiet (fail)
        go_wp2
        go_ret2
        exact HA.out _
      | none =>
        rw [hlo] at hlk
        simp only [Option.getD_none, Option.isSome_none] at hlk
        have HLo := hide hlo
        have HLay := hide (fun q => lay_any p tb first rl fc O fo s (run T z) (w3.drewN q) (show WrD (w3.drewN q) p O tb first s from HW3.out) (show Bs (w3.drewN q) fo rl (run T z) from HR3.out.bs) HR3.out.nil hf (by omega) (by omega))
        obtain ⟨A, hA⟩ : ∃ A, A = first + s.1.length := ⟨_, rfl⟩
        rw [← hA] at HLay HSt
        have HAe := hide hA
        clear hlo hA
        go_wp2_with fail
        go_quiet (fail)
        go_wp2_with fail
        refine (HLay.out nq).mono ?_
        rintro r w4 ⟨rfl, O4, hW4, hF4, hG4⟩
        have hF4' : Fr O w3 w4 := ⟨hF4.os, hF4.tape, hF4.output, hF4.size, hF4.block⟩
        have hG4' : Gr O O4 w3 := hG4
        clear hF4 hG4 HLay
        have hOlt := HW.out.olt
        have hw2 := Hb2.out.size
        have hR4 : Rw w4 w2.heap.size fo rl fc (run T z) := HR3.out.fr hF4' (fun k hk hx => by have := (HR3.out.own hk).1; have := hOlt k hx; omega)
        have hT4 : Bs w4 tlo m (z.drop KK) := HT3.out.fr hF4' (fun a ha _ hx => by have := (HN.out.own a ha).1; have := hOlt _ hx; omega)
        obtain ⟨mb4, c34, w5, hup, hW5, hF5⟩ := HSt.out w4.drew O4 (show WrD w4.drew p O4 tb first (s.1 ++ run T z, s.2) from hW4) HLo.out
        have hst4 : ∀ W : World, W = w4.drew → (convert 34 9 (.slice fo rl fc)).run Try.prog W = .ok (.string (strOfNums (run T z))) W := fun W e => by rw [e]; exact str_any (show Bs w4.drew fo rl (run T z) from hR4.bs) fc
        have hst5 := hst4 w4.drew rfl
        have HA : Hid (DAdds first s (run T z) z p tb O w w5 (.returned (.tuple #[.int .i64 (A : Nat), .slice tlo m tc]))) := by
          obtain ⟨a1, a2⟩ := add_none (first := first) HRne.out HLo.out
          have hF45 : Fr O4 w4 w5 := ⟨hF5.os, hF5.tape, hF5.output, hF5.size, hF5.block⟩
          have hno : ∀ a, tlo = some a → 0 < m → ¬ O4 a.block := fun a ha hm hx => by
            have h1 := (HN.out.own a ha).1
            rcases hG4' _ hx with h2 | h2
            · have := hOlt _ h2; omega
            · have := Bs_blt HT3.out ha hm; omega
          have hT5 : Bs w5 tlo m (z.drop KK) := hT4.fr hF45 hno
          have hF : Fr O w w5 := ((Fr.of_below Hb3.out).then hF4').gr (fun k hk => (hG4' k hk).imp id (fun h => Nat.le_trans Hb3.out.size h)) hF45
          refine ⟨tlo, tc, by rw [a1, HTLL.out, HAe.out], ?_, fun a ha => (HN.out.own a ha).1, O4, ?_, hF, fun k hk => (hG4' k hk).imp id (fun h => Nat.le_trans Hb3.out.size h), by rw [HTLL.out]; exact hno⟩
          · rw [HTLL.out, HTl.out]; exact hT5
          · rw [a2, ← HAe.out]; exact hW5
        clear hF4' hG4' hOlt hR4 hT4 hW5 hF5 hW4 hst4 hst hlk c3
        go_wp2_with fail
        go_region
        all_goals (
          go_wp2
          go_ret2
          exact HA.out)
  · rw [if_neg e4] at HCl2
    clear HTN
    go_enter Try.func14, Try.ntmps14
    go_wp2_with (first | (go_at_call 26; refine HWh.out.mono ?_; rintro r w1 ⟨rfl, rfl⟩) | fail)
    obtain ⟨w, rfl⟩ : ∃ w, w = w1 := ⟨_, rfl⟩
    refine HCl2.out.mono ?_
    rintro r w2 ⟨tlo, tc, rfl, hN⟩
    have HN := hide hN
    have Hb2 := hide hN.bel
    clear hN HCl2 HWh
    by_cases hK0 : KK = 0
    · have h0' : ((KK : Int) == 0) = true := by simp; omega
      have HA : Hid (DAdds first s (run T z) z p tb O w w2 (.returned (.tuple #[.int .i64 0, .slice tlo m tc]))) := by
        have hr : run T z = [] := HRn.out.2 (by have := HKK.out; omega)
        have htl : (tl z).length = m := by rw [HTl.out, List.length_drop, hz]; exact Hm.out
        refine ⟨tlo, tc, by rw [hr, (add_nil first s).1, htl]; rfl, ?_, fun a ha => (HN.out.own a ha).1, O, ?_, Fr.of_below Hb2.out, Gr.refl _ _, fun a ha _ hx => by have := (HN.out.own a ha).1; have := HW.out.olt _ hx; omega⟩
        · rw [htl, HTl.out]; exact HN.out.bs
        · rw [hr, (add_nil first s).2]; exact HW.out.below Hb2.out
      clear hK0
      go_wp2
      go_ret2
      exact HA.out
    · have h0' : ((KK : Int) == 0) = false := by simp; omega
      have HF := hide (HFO.out w2 Hb2.out hK0)
      have hrne : run T z ≠ [] := fun e => hK0 (by have := HRn.out.1 e; have := HKK.out; omega)
      have HRne := hide hrne
      clear HFO hrne
      go_wp2_with fail
      refine HF.out.mono ?_
      rintro r w3 ⟨fo, fc, rfl, hR3, hb3⟩
      have HW3 := hide ((HW.out.below Hb2.out).below hb3)
      have Hb3 := hide (Hb2.out.trans (hb3.mono Hb2.out.size))
      have HR3 := hide hR3
      have HT3 := hide (HN.out.bs.below hb3)
      obtain ⟨mb, c3, hlk⟩ := HLk.out w3 O HW3.out
      have hst : ∀ q, (convert 34 9 (.slice fo rl fc)).run Try.prog (w3.drewN q) = .ok (.string (strOfNums (run T z))) (w3.drewN q) := fun q => str_any (show Bs (w3.drewN q) fo rl (run T z) from HR3.out.bs) fc
      clear hR3 hb3 HF HLk
      have htl : (tl z).length = m := by rw [HTl.out, List.length_drop, hz]; exact Hm.out
      have HTLL := hide htl
      clear htl
      cases hlo : Dat.look s.2 (run T z) with
      | some a =>
        rw [hlo] at hlk
        simp only [Option.getD_some, Option.isSome_some] at hlk
        have HA : Hid (∀ q, DAdds first s (run T z) z p tb O w (w3.drewN q) (.returned (.tuple #[.int .i64 (a : Nat), .slice tlo m tc]))) := fun q => by
          obtain ⟨a1, a2⟩ := add_some (first := first) HRne.out hlo
          refine ⟨tlo, tc, by rw [a1, HTLL.out], ?_, fun a ha => (HN.out.own a ha).1, O, ?_, (Fr.of_below Hb3.out).drewN q, Gr.refl _ _, fun a ha _ hx => by have := (HN.out.own a ha).1; have := HW.out.olt _ hx; omega⟩
          · rw [HTLL.out, HTl.out]; exact HT3.out
          · rw [a2]; exact HW3.out
        clear hlo HSt
        go_wp2_with fail
        go_quiet (fail)
        go_wp2
        go_ret2
        exact HA.out _
      | none =>
        rw [hlo] at hlk
        simp only [Option.getD_none, Option.isSome_none] at hlk
        have HLo := hide hlo
        have HLay := hide (fun q => lay_any p tb first rl fc O fo s (run T z) (w3.drewN q) (show WrD (w3.drewN q) p O tb first s from HW3.out) (show Bs (w3.drewN q) fo rl (run T z) from HR3.out.bs) HR3.out.nil hf (by omega) (by omega))
        obtain ⟨A, hA⟩ : ∃ A, A = first + s.1.length := ⟨_, rfl⟩
        rw [← hA] at HLay HSt
        have HAe := hide hA
        clear hlo hA
        go_wp2_with fail
        go_quiet (fail)
        go_wp2_with fail
        refine (HLay.out nq).mono ?_
        rintro r w4 ⟨rfl, O4, hW4, hF4, hG4⟩
        have hF4' : Fr O w3 w4 := ⟨hF4.os, hF4.tape, hF4.output, hF4.size, hF4.block⟩
        have hG4' : Gr O O4 w3 := hG4
        clear hF4 hG4 HLay
        have hOlt := HW.out.olt
        have hw2 := Hb2.out.size
        have hR4 : Rw w4 w2.heap.size fo rl fc (run T z) := HR3.out.fr hF4' (fun k hk hx => by have := (HR3.out.own hk).1; have := hOlt k hx; omega)
        have hT4 : Bs w4 tlo m (z.drop KK) := HT3.out.fr hF4' (fun a ha _ hx => by have := (HN.out.own a ha).1; have := hOlt _ hx; omega)
        obtain ⟨mb4, c34, w5, hup, hW5, hF5⟩ := HSt.out w4.drew O4 (show WrD w4.drew p O4 tb first (s.1 ++ run T z, s.2) from hW4) HLo.out
        have hst4 : ∀ W : World, W = w4.drew → (convert 34 9 (.slice fo rl fc)).run Try.prog W = .ok (.string (strOfNums (run T z))) W := fun W e => by rw [e]; exact str_any (show Bs w4.drew fo rl (run T z) from hR4.bs) fc
        have hst5 := hst4 w4.drew rfl
        have HA : Hid (DAdds first s (run T z) z p tb O w w5 (.returned (.tuple #[.int .i64 (A : Nat), .slice tlo m tc]))) := by
          obtain ⟨a1, a2⟩ := add_none (first := first) HRne.out HLo.out
          have hF45 : Fr O4 w4 w5 := ⟨hF5.os, hF5.tape, hF5.output, hF5.size, hF5.block⟩
          have hno : ∀ a, tlo = some a → 0 < m → ¬ O4 a.block := fun a ha hm hx => by
            have h1 := (HN.out.own a ha).1
            rcases hG4' _ hx with h2 | h2
            · have := hOlt _ h2; omega
            · have := Bs_blt HT3.out ha hm; omega
          have hT5 : Bs w5 tlo m (z.drop KK) := hT4.fr hF45 hno
          have hF : Fr O w w5 := ((Fr.of_below Hb3.out).then hF4').gr (fun k hk => (hG4' k hk).imp id (fun h => Nat.le_trans Hb3.out.size h)) hF45
          refine ⟨tlo, tc, by rw [a1, HTLL.out, HAe.out], ?_, fun a ha => (HN.out.own a ha).1, O4, ?_, hF, fun k hk => (hG4' k hk).imp id (fun h => Nat.le_trans Hb3.out.size h), by rw [HTLL.out]; exact hno⟩
          · rw [HTLL.out, HTl.out]; exact hT5
          · rw [a2, ← HAe.out]; exact hW5
        clear hF4' hG4' hOlt hR4 hT4 hW5 hF5 hW4 hst4 hst hlk c3
        go_wp2_with fail
        go_region
        all_goals (
          go_wp2
          go_ret2
          exact HA.out)
end Go.Proofs.Ytifmikdknifcoaa

/- Layer 13: Read, by the program. -/
import Derived.Test.YtgmkldfjbjnkcaaFrgPure
namespace Go.Proofs.Ytgmkldfjbjnkcaa
set_option linter.unusedVariables false
open Go.RowKit Go.Maps
open Lz (g)
open Crc (ent more)
open Frm Mtr Frg

/-- What Read answers. -/
def FReads (T : Nat → Nat) (z P : List Int) (number off n : Int) (w w' : World) (r : Ending) : Prop :=
  ∃ ao c, r = .returned (.tuple #[.slice ao (rd T z P number off n).1.length c, .int .i64 (rd T z P number off n).2]) ∧ Fresh w w' ao (rd T z P number off n).1.length c (rd T z P number off n).1
theorem fresh_none {w w' : World} (hb : Below w.heap.size w w') : Fresh w w' none 0 0 [] := ⟨⟨rfl, fun i => by simp [g], .inl rfl⟩, Nat.le_refl _, by omega, fun _ => rfl, hb, fun a h => by simp at h⟩
theorem FReads.none {T : Nat → Nat} {z P : List Int} {number off n e : Int} {w w' : World} (h : rd T z P number off n = ([], e)) (hb : Below w.heap.size w w') : FReads T z P number off n w w' (.returned (.tuple #[.slice none 0 0, .int .i64 e])) := by
  unfold FReads
  rw [h]
  exact ⟨Option.none, 0, rfl, fresh_none hb⟩
set_option maxRecDepth 100000 in
set_option maxHeartbeats 1000000 in
theorem fRead_any (tb m cap pn pc : Nat) (number off n : Int) (T : Nat → Nat) (ao po : Option Addr) (z P : List Int) (w : World) (hT : Tb w tb T) (htb : tb < w.heap.size) (hS : Small T) (hB : Bs w ao m z) (hc : m ≤ cap) (hnil : ao = none → cap = 0) (hl : m ≤ 1000000) (hcm : cap ≤ 9223372036854775807)
    (hP : Zs w po pn P) (hPi : ∀ x ∈ P, In64 x) (hpn : pn ≤ 9223372036854775807) (h1 : In64 number) (h2 : In64 off) (h3 : In64 n) :
    Calls Try.prog 14 #[.pointer (some ⟨tb, 0, none⟩), .slice ao m cap, .slice po pn pc, .int .i64 number, .int .i64 off, .int .i64 n] w fun r w' => FReads T z P number off n w w' r := by
  have hPl := hP.1
  unfold In64 at h1 h2 h3
  by_cases hbad : number < 1 ∨ (P.length : Int) < number ∨ off < 0 ∨ n < 0
  · have HA := hide (FReads.none (rd_arg (T := T) (z := z) hbad) (Below.refl _ w))
    have hcs : (decide (number < 1) = true ∧ number < 1) ∨ (decide (number < 1) = false ∧ decide ((pn : Int) < number) = true ∧ (pn : Int) < number) ∨ (decide (number < 1) = false ∧ decide ((pn : Int) < number) = false ∧ decide (off < 0) = true ∧ off < 0) ∨ (decide (number < 1) = false ∧ decide ((pn : Int) < number) = false ∧ decide (off < 0) = false ∧ decide (n < 0) = true ∧ n < 0) := by
      rw [hPl] at hbad
      by_cases a1 : number < 1
      · exact .inl ⟨by simp [a1], a1⟩
      · by_cases a2 : (pn : Int) < number
        · exact .inr (.inl ⟨by simp; omega, by simp [a2], a2⟩)
        · by_cases a3 : off < 0
          · exact .inr (.inr (.inl ⟨by simp; omega, by simp; omega, by simp [a3], a3⟩))
          · exact .inr (.inr (.inr ⟨by simp; omega, by simp; omega, by simp; omega, by simp; omega, by omega⟩))
    clear hT hB hnil hP hPi hPl hbad
    rcases hcs with ⟨a1, _⟩ | ⟨a1, a2, _⟩ | ⟨a1, a2, a3, _⟩ | ⟨a1, a2, a3, a4, _⟩
    all_goals
      go_enter Try.func14, Try.ntmps14
      go_wp2
      go_ret2
      exact HA.out
  · have hbad' := hbad
    rw [hPl] at hbad'
    obtain ⟨ix, hix⟩ : ∃ ix : Nat, number - 1 = ix := ⟨(number - 1).toNat, by omega⟩
    obtain ⟨o, rfl⟩ : ∃ o : Nat, off = o := ⟨off.toNat, by omega⟩
    obtain ⟨k, rfl⟩ : ∃ k : Nat, n = k := ⟨n.toNat, by omega⟩
    have hixl : ix < pn := by omega
    obtain ⟨pb, pf, rfl, hpl, hpc⟩ := hP.at (by omega)
    have hcell := hpc ix hixl
    have hai := hPi (g P ix) (by rw [g_get _ _ (by omega)]; exact List.getElem_mem _)
    have HTk := hide (Take_any tb m cap (g P ix) T ao z w hT htb hS hB hc hnil hl hcm hai)
    have htl := Mtr.take_len T hB.bytes (g P ix)
    have HIO := hide (fun h => rd_io (T := T) (z := z) hbad h)
    have HOK := hide (fun h => rd_ok (T := T) (z := z) hbad h)
    rw [show (number - 1).toNat = ix by omega] at HIO HOK
    obtain ⟨TT, hTT⟩ : ∃ TT, take T z (g P ix) = TT := ⟨_, rfl⟩
    unfold Takes at HTk
    rw [hTT] at HTk htl HIO HOK
    generalize g P ix = at' at *
    obtain ⟨Y, nx, er⟩ := TT
    simp only [] at HTk htl HIO HOK
    obtain ⟨yl, hyl⟩ : ∃ yl, Y.length = yl := ⟨_, rfl⟩
    rw [hyl] at HTk htl HIO HOK
    have HYl := hide hyl
    have a1 : decide (number < 1) = false := by simp; omega
    have a2 : decide ((pn : Int) < number) = false := by simp; omega
    have a5 : IntKind.i64.wrap (number - 1) = (ix : Int) := by rw [IntKind.wrap_i64]; omega
    have a6 : (ix : Int) < (pn : Int) := by omega
    have a7 : IntKind.i64.wrap ((yl : Int) - (o : Int)) = (yl : Int) - o := by rw [IntKind.wrap_i64]; omega
    clear hT hB hnil hP hPi hPl hbad hbad' hpc hTT hyl hai
    go_enter Try.func14, Try.ntmps14
    go_wp2_with fail
    refine HTk.out.mono ?_
    rintro r w1 ⟨aoT, cT, rfl, hF⟩
    have HF := hide hF
    clear hF HTk hcell
    have hb1 := HF.out.cap
    have hb2 := HF.out.max
    by_cases he : er = 0
    · subst he
      by_cases hy0 : yl = 0
      · have HA := hide (FReads.none (HIO.out (.inr (.inl hy0))) HF.out.bel)
        subst hy0
        go_wp2
        go_ret2
        exact HA.out
      · have q1 : ((yl : Int) == 0) = false := by simp; omega
        by_cases hn : (yl : Int) - (o : Int) < (k : Int)
        · have HA := hide (FReads.none (HIO.out (.inr (.inr hn))) HF.out.bel)
          go_wp2
          go_ret2
          exact HA.out
        · have q2 : decide ((yl : Int) - (o : Int) < (k : Int)) = false := by simp; omega
          have HR := hide (HOK.out (by intro h; rcases h with h | h | h <;> omega))
          have q3 : IntKind.i64.wrap ((o : Int) + (k : Int)) = ((o + k : Nat) : Int) := by rw [IntKind.wrap_i64]; omega
          obtain ⟨e, hee⟩ : ∃ e, o + k = e := ⟨_, rfl⟩
          rw [hee] at q3
          have q4 : o ≤ e := by omega
          have q5 : e ≤ cT := by omega
          have q6 : e ≤ yl := by omega
          have HE := hide hee
          clear hee
          by_cases h0 : k = 0
          · have q7 : e = o := by have := HE.out; omega
            have HA : Hid (FReads T z P number o k w w1 (.returned (.tuple #[.slice aoT 0 0, .int .i64 0]))) := by
              show FReads T z P number o k w w1 _
              unfold FReads
              rw [HR.out, h0]
              exact ⟨aoT, 0, rfl, ⟨rfl, fun i => by simp [g], .inl rfl⟩, Nat.le_refl _, by omega, fun _ => rfl, HF.out.bel, HF.out.new⟩
            clear HR HE
            subst q7
            go_wp2
            go_ret2
            exact HA.out
          · have q7 : ¬ e = o := by have := HE.out; omega
            have HA : Hid (FReads T z P number o k w w1 (.returned (.tuple #[.slice (Option.map (fun x : Addr => x.add o) aoT) (e - o) (e - o), .int .i64 0]))) := by
              show FReads T z P number o k w w1 _
              unfold FReads
              rw [HR.out]
              have hk : e - o = k := by have := HE.out; omega
              have hlen : ((Y.drop (o : Int).toNat).take (k : Int).toNat).length = k := by
                simp only [Int.toNat_natCast, List.length_take, List.length_drop, HYl.out]
                have := HE.out
                omega
              obtain ⟨b, of, e1, e2, e3⟩ : ∃ b of, aoT = some ⟨b, of, none⟩ ∧ b < w1.heap.size ∧ Seg w1 b of Y := by
                rcases HF.out.bs.2.2 with h | h
                · omega
                · exact h
              refine ⟨Option.map (fun x : Addr => x.add o) aoT, k, by simp only []; rw [hlen, hk], ?_⟩
              simp only []
              rw [hlen]
              simp only [Int.toNat_natCast]
              have hb := (HF.out.bs.toB.rest (cap := cT) o (by omega) (by omega))
              rw [if_neg (by omega)] at hb
              refine ⟨Bs.take hb k (by omega), Nat.le_refl _, by omega, fun h => ?_, HF.out.bel, fun a ha => ?_⟩
              · rw [e1] at h; simp at h
              · rw [e1, Option.map_some, Addr.add_lit] at ha
                obtain rfl := Option.some.inj ha
                exact HF.out.new ⟨b, of, none⟩ e1
            clear HR HE
            go_wp2
            go_ret2
            exact HA.out
    · have q1 : (er != 0) = true := by simp; exact he
      have HA := hide (FReads.none (HIO.out (.inl he)) HF.out.bel)
      go_wp2
      go_ret2
      exact HA.out
end Go.Proofs.Ytgmkldfjbjnkcaa

/- Layer 13: Read, by the reference. -/
import Derived.Test.YtgmkldfjbjnkcaaFrgRead
import Derived.Test.YtgmkldfjbjnkcaaFrmRefTake
namespace Go.Proofs.Ytgmkldfjbjnkcaa
set_option linter.unusedVariables false
open Go.RowKit Go.Maps
open Lz (g)
open Crc (ent more)
open Frm Mtr Frg

set_option maxRecDepth 100000 in
set_option maxHeartbeats 1000000 in
theorem refFRead_any (m cap pn pc : Nat) (number off n : Int) (ao po : Option Addr) (z P : List Int) (w : World) (hB : Bs w ao m z) (hc : m ≤ cap) (hnil : ao = none → cap = 0) (hl : m ≤ 100000) (hcm : cap ≤ 9223372036854775807)
    (hP : Zs w po pn P) (hPi : ∀ x ∈ P, In64 x) (hpn : pn ≤ 9223372036854775807) (h1 : In64 number) (h2 : In64 off) (h3 : In64 n) :
    Calls Try.prog 15 #[.slice ao m cap, .slice po pn pc, .int .i64 number, .int .i64 off, .int .i64 n] w fun r w' => FReads ent z P number off n w w' r := by
  have hPl := hP.1
  unfold In64 at h1 h2 h3
  by_cases hbad : number < 1 ∨ (P.length : Int) < number ∨ off < 0 ∨ n < 0
  · have HA := hide (FReads.none (rd_arg (T := ent) (z := z) hbad) (Below.refl _ w))
    have hcs : (decide (number < 1) = true ∧ number < 1) ∨ (decide (number < 1) = false ∧ decide ((pn : Int) < number) = true ∧ (pn : Int) < number) ∨ (decide (number < 1) = false ∧ decide ((pn : Int) < number) = false ∧ decide (off < 0) = true ∧ off < 0) ∨ (decide (number < 1) = false ∧ decide ((pn : Int) < number) = false ∧ decide (off < 0) = false ∧ decide (n < 0) = true ∧ n < 0) := by
      rw [hPl] at hbad
      by_cases a1 : number < 1
      · exact .inl ⟨by simp [a1], a1⟩
      · by_cases a2 : (pn : Int) < number
        · exact .inr (.inl ⟨by simp; omega, by simp [a2], a2⟩)
        · by_cases a3 : off < 0
          · exact .inr (.inr (.inl ⟨by simp; omega, by simp; omega, by simp [a3], a3⟩))
          · exact .inr (.inr (.inr ⟨by simp; omega, by simp; omega, by simp; omega, by simp; omega, by omega⟩))
    clear hB hnil hP hPi hPl hbad
    rcases hcs with ⟨a1, _⟩ | ⟨a1, a2, _⟩ | ⟨a1, a2, a3, _⟩ | ⟨a1, a2, a3, a4, _⟩
    all_goals
      go_enter Try.func15, Try.ntmps15
      go_wp2
      go_ret2
      exact HA.out
  · have hbad' := hbad
    rw [hPl] at hbad'
    obtain ⟨ix, hix⟩ : ∃ ix : Nat, number - 1 = ix := ⟨(number - 1).toNat, by omega⟩
    obtain ⟨o, rfl⟩ : ∃ o : Nat, off = o := ⟨off.toNat, by omega⟩
    obtain ⟨k, rfl⟩ : ∃ k : Nat, n = k := ⟨n.toNat, by omega⟩
    have hixl : ix < pn := by omega
    obtain ⟨pb, pf, rfl, hpl, hpc⟩ := hP.at (by omega)
    have hcell := hpc ix hixl
    have hai := hPi (g P ix) (by rw [g_get _ _ (by omega)]; exact List.getElem_mem _)
    have HTk := hide (refTake_any m cap (g P ix) ao z w hB hc hnil hl hcm hai)
    have htl := Mtr.take_len ent hB.bytes (g P ix)
    have HIO := hide (fun h => rd_io (T := ent) (z := z) hbad h)
    have HOK := hide (fun h => rd_ok (T := ent) (z := z) hbad h)
    rw [show (number - 1).toNat = ix by omega] at HIO HOK
    obtain ⟨TT, hTT⟩ : ∃ TT, take ent z (g P ix) = TT := ⟨_, rfl⟩
    unfold RTakes at HTk
    rw [hTT] at HTk htl HIO HOK
    generalize g P ix = at' at *
    obtain ⟨Y, nx, er⟩ := TT
    simp only [] at HTk htl HIO HOK
    obtain ⟨yl, hyl⟩ : ∃ yl, Y.length = yl := ⟨_, rfl⟩
    rw [hyl] at HTk htl HIO HOK
    have HYl := hide hyl
    have a1 : decide (number < 1) = false := by simp; omega
    have a2 : decide ((pn : Int) < number) = false := by simp; omega
    have a5 : IntKind.i64.wrap (number - 1) = (ix : Int) := by rw [IntKind.wrap_i64]; omega
    have a6 : (ix : Int) < (pn : Int) := by omega
    have a7 : IntKind.i64.wrap ((yl : Int) - (o : Int)) = (yl : Int) - o := by rw [IntKind.wrap_i64]; omega
    clear hB hnil hP hPi hPl hbad hbad' hpc hTT hyl hai
    go_enter Try.func15, Try.ntmps15
    go_wp2_with fail
    refine HTk.out.mono ?_
    rintro r w1 ⟨aoT, cT, rfl, hBT, hbe, hb1, hnT, _⟩
    have HF := hide hBT
    have HBe := hide hbe
    have HNT := hide hnT
    clear hBT hbe hnT HTk hcell
    by_cases he : er = 0
    · subst he
      by_cases hy0 : yl = 0
      · have HA := hide (FReads.none (HIO.out (.inr (.inl hy0))) HBe.out)
        subst hy0
        go_wp2
        go_ret2
        exact HA.out
      · have q1 : ((yl : Int) == 0) = false := by simp; omega
        by_cases hn : (yl : Int) - (o : Int) < (k : Int)
        · have HA := hide (FReads.none (HIO.out (.inr (.inr hn))) HBe.out)
          have q2 : decide ((yl : Int) - (o : Int) < (k : Int)) = true := by simp; omega
          by_cases ho : (yl : Int) < (o : Int)
          · have q3 : decide (yl < o) = true := by simp; omega
            go_wp2
            go_ret2
            exact HA.out
          · have q3 : decide (yl < o) = false := by simp; omega
            go_wp2
            go_ret2
            exact HA.out
        · have q2 : decide ((yl : Int) - (o : Int) < (k : Int)) = false := by simp; omega
          have ho : ¬ (yl : Int) < (o : Int) := by omega
          have q2' : decide (yl < o) = false := by simp; omega
          have HR := hide (HOK.out (by intro h; rcases h with h | h | h <;> omega))
          have q3 : IntKind.i64.wrap ((o : Int) + (k : Int)) = ((o + k : Nat) : Int) := by rw [IntKind.wrap_i64]; omega
          obtain ⟨e, hee⟩ : ∃ e, o + k = e := ⟨_, rfl⟩
          rw [hee] at q3
          have q4 : o ≤ e := by omega
          have q5 : e ≤ cT := by omega
          have q6 : e ≤ yl := by omega
          have HE := hide hee
          clear hee
          have hb := (HF.out.toB.rest (cap := cT) o (by omega) (by omega))
          have hb2 := Bs.take hb (e - o) (by omega)
          have HB2 := hide (hb2.alloc (.cells #[] 5))
          have HO := hide (emptyB (w := w1) (B := w1.heap.size) (Nat.le_refl _))
          have HNT2 : Hid ((if cT = o then aoT else Option.map (fun x : Addr => x.add o) aoT) = none → cT - o = 0) := fun h => by
            have : aoT = none := by
              by_cases e : cT = o
              · rw [if_pos e] at h; exact h
              · rw [if_neg e] at h; simpa using h
            have := HNT.out this
            omega
          clear hb hb2
          go_wp2_with (first
            | (at_builtin
               refine wpList_append_bs _ rfl (.tmp 63) (.tmp 69) rfl w1.heap.size _ _ _ _ rfl HO.out _ (e - o) (cT - o) _ rfl HB2.out HNT2.out (by omega) (by simp) ?_
               intro ao' c' w2 ho2 hg2
               have HA : Hid (FReads ent z P number o k w w2 (.returned (.tuple #[.slice ao' (e - o) c', .int .i64 0]))) := by
                 show FReads ent z P number o k w w2 _
                 unfold FReads
                 rw [HR.out]
                 rw [Nat.zero_add] at ho2
                 rw [List.nil_append] at ho2
                 have hk : e - o = k := by have := HE.out; omega
                 have hlen : ((Y.drop (o : Int).toNat).take (k : Int).toNat).length = k := by
                   simp only [Int.toNat_natCast, List.length_take, List.length_drop, HYl.out]
                   have := HE.out
                   omega
                 refine ⟨ao', c', by simp only []; rw [hlen, hk], ?_⟩
                 simp only []
                 rw [hlen]
                 simp only [Int.toNat_natCast]
                 rw [hk] at ho2
                 have hB12 : Below w1.heap.size w1 w2 := ((Below.refl _ w1).alloc (Nat.le_refl _) _).grown hg2 (by simp) (fun k e => (HO.out.lt k e).1)
                 have hN := New.of_owns ho2 ((HF.out.bytes.drop o).take k) (Nat.le_refl _) hB12
                 exact (hN.from HBe.out).fresh
               clear ho2 hg2))
          all_goals
            go_ret2
            exact HA.out
    · have q1 : (er != 0) = true := by simp; exact he
      have HA := hide (FReads.none (HIO.out (.inl he)) HBe.out)
      go_wp2
      go_ret2
      exact HA.out
end Go.Proofs.Ytgmkldfjbjnkcaa

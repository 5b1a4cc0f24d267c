/- Layer 7: the first wrong name; nodes gone through by a function that is handed in: all, IndexFunc, ContainsFunc; isDeep. -/
import Derived.Test.YtgkclldiphcogaaTreAlike
namespace Go.Proofs.Ytgkclldiphcogaa
set_option linter.unusedVariables false
open Go.RowKit Go.Maps
open Nam Tre
open Lz (g)

namespace Tre
/-- The place of the first one of which p holds; -1 where there is none. -/
def fi (p : Nod → Bool) : Nat → List Nod → Int
  | _, [] => -1
  | i, n :: r => if p n = true then i else fi p (i + 1) r
theorem fi_ge (p : Nod → Bool) : ∀ (l : List Nod) (i : Nat), decide (0 ≤ fi p i l) = l.any p
  | [], i => rfl
  | n :: r, i => by
    unfold fi
    rw [List.any_cons]
    cases h : p n with
    | true => simp
    | false => rw [if_neg (by simp), Bool.false_or]; exact fi_ge p r (i + 1)
theorem fv_drop (l : List ByteArray) (i : Nat) (h : i < l.length) : fv (l.drop i) = if valid (gs l i).toList = 0 then fv (l.drop (i + 1)) else valid (gs l i).toList := by
  rw [List.drop_eq_getElem_cons h, gs_lt l i h, fv]
end Tre
/-- What a function that is handed in answers of each node, in whatever world comes behind. -/
def Asks (fn : Nat) (caps : Array Value) (p : Nod → Bool) (L : List (Nv × Nod)) (w : World) : Prop :=
  ∀ q ∈ L, ∀ w1, Below w.heap.size w w1 → Calls Try.prog fn (#[.agg q.1.cells] ++ caps) w1 fun e w' => e = .returned (.bool (p q.2)) ∧ Below w1.heap.size w1 w'
set_option maxRecDepth 100000 in
theorem all_any (a : Option Addr) (n c : Nat) (L : List (Nv × Nod)) (fn : Nat) (caps : Array Value) (p : Nod → Bool) (w : World) (hl : Ns w a n L) (hc : n ≤ c) (hcm : c ≤ 9223372036854775807)
    (hen : ∀ (args : Array Value) (w : World), (callFunc fn args).run Try.prog w = .ok (.enter fn args) w) (hp : Asks fn caps p L w) :
    Calls Try.prog 68 #[.slice a n c, .func (.func fn) #[] caps] w fun e w' => e = .returned (.bool ((nds L).all p)) ∧ Below w.heap.size w w' := by
  have HL := hide hl
  have HLN := hide hl.1
  have HP := hide hp
  clear hl hp
  go_enter Try.func68, Try.ntmps68
  go_wp2
  go_loopw [6, 9] (fun _ r wr => ∃ i : Nat, r = .int .i64 i ∧ i ≤ n ∧ Below w.heap.size w wr ∧ (nds L).all p = ((nds L).drop i).all p) (fun _ r _ => n - (intOf r).toNat)
  case atStart => exact ⟨0, rfl, Nat.zero_le _, Below.refl _ _, rfl⟩
  case round =>
    obtain ⟨i, rfl, hi0, hbel, hinv⟩ := hrel
    have HI := hide hinv
    have HB := hide hbel
    by_cases hi : i < n
    · have hd : decide ((i : Int) < n) = true := by simpa using hi
      obtain ⟨ba, oa, rfl, hba, hca⟩ := (HL.out.below hbel).at (by omega)
      obtain ⟨c0, c1, c2, c3, c4, c5, c6, c7, c8, c9⟩ := hca i hi
      have HE := hide (nds_drop L i (by rw [HLN.out]; exact hi))
      obtain ⟨z, hz⟩ : ∃ z, p (gl L i).2 = z := ⟨_, rfl⟩
      have HZ := hide hz
      have HQ := hide (fun w1 hb => HP.out (gl L i) (gl_mem L i (by rw [HLN.out]; exact hi)) w1 hb)
      have bel : Hid (∀ o, Below w.heap.size w (wr.alloc o)) := fun o => HB.out.alloc HB.out.size _
      clear hca hinv hbel hz
      go_wp2_with fail
      refine (HQ.out _ (bel.out _)).mono ?_
      rw [HZ.out]
      rintro e w1 ⟨rfl, hb1⟩
      have e1 := hide ((bel.out _).trans (hb1.mono (bel.out _).size))
      clear hb1
      cases z with
      | false =>
        go_wp2
        go_ret
        exact ⟨ret_bool (by rw [HI.out, HE.out, List.all_cons, HZ.out]; rfl), e1.out⟩
      | true =>
        go_wp2
        refine ⟨⟨i + 1, by go_num, by omega, e1.out, ?_⟩, by simp [intOf]; omega⟩
        rw [HI.out, HE.out, List.all_cons, HZ.out]; rfl
    · have hd : decide ((i : Int) < n) = false := by simpa using hi
      go_wp2
      go_ret
      refine ⟨ret_bool ?_, HB.out⟩
      rw [HI.out, List.drop_eq_nil_of_le (by rw [nds_length, HLN.out]; omega)]; rfl
set_option maxRecDepth 100000 in
theorem IndexFunc_any (a : Option Addr) (n c : Nat) (L : List (Nv × Nod)) (fn : Nat) (caps : Array Value) (p : Nod → Bool) (w : World) (hl : Ns w a n L) (hc : n ≤ c) (hcm : c ≤ 9223372036854775807)
    (hen : ∀ (args : Array Value) (w : World), (callFunc fn args).run Try.prog w = .ok (.enter fn args) w) (hp : Asks fn caps p L w) :
    Calls Try.prog 84 #[.slice a n c, .func (.func fn) #[] caps] w fun e w' => e = .returned (.int .i64 (fi p 0 (nds L))) ∧ Below w.heap.size w w' := by
  have HL := hide hl
  have HLN := hide hl.1
  have HP := hide hp
  clear hl hp
  go_enter Try.func84, Try.ntmps84
  go_wp2
  go_loopw [5, 8] (fun _ r wr => ∃ i : Nat, r = .int .i64 i ∧ i ≤ n ∧ Below w.heap.size w wr ∧ fi p 0 (nds L) = fi p i ((nds L).drop i)) (fun _ r _ => n - (intOf r).toNat)
  case atStart => exact ⟨0, rfl, Nat.zero_le _, Below.refl _ _, rfl⟩
  case round =>
    obtain ⟨i, rfl, hi0, hbel, hinv⟩ := hrel
    have HI := hide hinv
    have HB := hide hbel
    by_cases hi : i < n
    · have hd : decide ((i : Int) < n) = true := by simpa using hi
      obtain ⟨ba, oa, rfl, hba, hca⟩ := (HL.out.below hbel).at (by omega)
      obtain ⟨c0, c1, c2, c3, c4, c5, c6, c7, c8, c9⟩ := hca i hi
      have HE := hide (nds_drop L i (by rw [HLN.out]; exact hi))
      obtain ⟨z, hz⟩ : ∃ z, p (gl L i).2 = z := ⟨_, rfl⟩
      have HZ := hide hz
      have HQ := hide (fun w1 hb => HP.out (gl L i) (gl_mem L i (by rw [HLN.out]; exact hi)) w1 hb)
      clear hca hinv hbel hz
      go_wp2_with fail
      refine (HQ.out _ HB.out).mono ?_
      rw [HZ.out]
      rintro e w1 ⟨rfl, hb1⟩
      have e1 := hide (HB.out.trans (hb1.mono HB.out.size))
      clear hb1
      cases z with
      | true =>
        go_wp2
        go_ret
        exact ⟨ret_int (by rw [HI.out, HE.out, fi, HZ.out]; rfl), e1.out⟩
      | false =>
        go_wp2
        refine ⟨⟨i + 1, by go_num, by omega, e1.out, ?_⟩, by simp [intOf]; omega⟩
        rw [HI.out, HE.out, fi, HZ.out]; rfl
    · have hd : decide ((i : Int) < n) = false := by simpa using hi
      go_wp2
      go_ret
      refine ⟨ret_int ?_, HB.out⟩
      rw [HI.out, List.drop_eq_nil_of_le (by rw [nds_length, HLN.out]; omega)]; rfl
theorem ContainsFunc_any (a : Option Addr) (n c : Nat) (L : List (Nv × Nod)) (fn : Nat) (caps : Array Value) (p : Nod → Bool) (w : World) (hl : Ns w a n L) (hc : n ≤ c) (hcm : c ≤ 9223372036854775807)
    (hen : ∀ (args : Array Value) (w : World), (callFunc fn args).run Try.prog w = .ok (.enter fn args) w) (hp : Asks fn caps p L w) :
    Calls Try.prog 63 #[.slice a n c, .func (.func fn) #[] caps] w fun e w' => e = .returned (.bool ((nds L).any p)) ∧ Below w.heap.size w w' := by
  have H := hide (IndexFunc_any a n c L fn caps p w hl hc hcm hen hp)
  have HE := hide (fi_ge p (nds L) 0)
  clear hl hp
  go_enter Try.func63, Try.ntmps63
  go_wp2_with (go_at_call 84; refine H.out.mono ?_; rintro e w' ⟨rfl, hb⟩)
  go_ret
  exact ⟨ret_bool HE.out, hb⟩
theorem isDeep_any (v : Nv) (n : Nod) (w : World) (h : Rep w v n) : Calls Try.prog 64 #[.agg v.cells] w fun e w' => e = .returned (.bool (deep n)) ∧ Below w.heap.size w w' := by
  have HE : Hid (decide ((16 : Int) < v.nn) = deep n) := by
    show _ = _
    rw [deep, h.names.1, Bool.eq_iff_iff, decide_eq_true_eq, decide_eq_true_eq]; omega
  clear h
  unfold Nv.cells
  go_enter Try.func64, Try.ntmps64
  go_wp2
  go_ret
  exact ⟨ret_bool (by rw [← HE.out]), (Below.refl _ _).alloc (Nat.le_refl _) _⟩
set_option maxRecDepth 100000 in
theorem wrongName_any (a : Option Addr) (n c : Nat) (L : List (Nv × Nod)) (w : World) (hl : Ns w a n L) (hc : n ≤ c) (hcm : c ≤ 9223372036854775807) :
    Calls Try.prog 62 #[.slice a n c] w fun e w' => e = .returned (.int .i64 (wrong (nds L))) ∧ Below w.heap.size w w' := by
  have HL := hide hl
  have HLN := hide hl.1
  clear hl
  go_enter Try.func62, Try.ntmps62
  go_wp2
  go_loopw [4, 6, 7, 10, 15, 16, 17] (fun _ _ _ r _ _ _ wr => ∃ i : Nat, r = .int .i64 i ∧ i ≤ n ∧ Below w.heap.size w wr ∧ wrong (nds L) = wrong ((nds L).drop i)) (fun _ _ _ r _ _ _ _ => n - (intOf r).toNat)
  case atStart => exact ⟨0, rfl, Nat.zero_le _, Below.refl _ _, rfl⟩
  case round =>
    obtain ⟨i, rfl, hi0, hbel, hinv⟩ := hrel
    have HI := hide hinv
    have HB := hide hbel
    by_cases hi : i < n
    · have hd : decide ((i : Int) < n) = true := by simpa using hi
      obtain ⟨ba, oa, rfl, hba, hca⟩ := (HL.out.below hbel).at (by omega)
      obtain ⟨c0, c1, c2, c3, c4, c5, c6, c7, c8, c9⟩ := hca i hi
      have HE := hide (nds_drop L i (by rw [HLN.out]; exact hi))
      have hr := HL.out.rep i hi
      obtain ⟨na, nn, nc, c0', hN, n1, n2⟩ : ∃ na nn nc, wr.cell? ⟨ba, oa + i * 10, none⟩ = some (.slice na nn nc) ∧ Rs w na nn (gl L i).2.names ∧ nn ≤ nc ∧ nc ≤ 9223372036854775807 := ⟨_, _, _, c0, hr.names, hr.nc, hr.ncm⟩
      have HN := hide hN
      have HNN := hide hN.1
      have bel : Hid (∀ o, Below w.heap.size w (wr.alloc o)) := fun o => HB.out.alloc HB.out.size _
      clear hca hinv hbel hr c0 hN
      go_wp2
      go_loopw [6, 7, 17] (fun _ _ r ws => ∃ k : Nat, r = .int .i64 k ∧ k ≤ nn ∧ Below w.heap.size w ws ∧ fv (gl L i).2.names = fv ((gl L i).2.names.drop k)) (fun _ _ r _ => nn - (intOf r).toNat)
      case atStart => exact ⟨0, rfl, Nat.zero_le _, bel.out _, rfl⟩
      case round =>
        obtain ⟨k, rfl, hk0, hbel2, hinv2⟩ := hrel
        have HI2 := hide hinv2
        have HB2 := hide hbel2
        by_cases hk : k < nn
        · have hd2 : decide ((k : Int) < nn) = true := by simpa using hk
          obtain ⟨bb, ob, rfl, hbb, hcb⟩ := (HN.out.below hbel2).at (by omega)
          have d1 := hcb k hk
          have HE2 := hide (fv_drop (gl L i).2.names k (by rw [HNN.out]; exact hk))
          obtain ⟨z, hz⟩ : ∃ z, valid (gs (gl L i).2.names k).toList = z := ⟨_, rfl⟩
          have HZ := hide hz
          clear hcb hinv2 hbel2 hz
          go_wp2_with (go_at_call 83; refine (Valid_any _ _).mono ?_)
          rw [HZ.out]
          rintro e w2 ⟨rfl, hb2⟩
          have e2 := hide (HB2.out.trans (hb2.mono HB2.out.size))
          clear hb2
          by_cases hzz : z = 0
          · have hz1 : (z != 0) = false := by simp [hzz]
            have HZZ := hide hzz
            clear hzz
            go_wp2
            refine ⟨⟨k + 1, by go_num, by omega, e2.out, ?_⟩, by simp [intOf]; omega⟩
            rw [HI2.out, HE2.out, HZ.out, if_pos HZZ.out]
          · have hz1 : (z != 0) = true := by simpa using hzz
            have HZZ := hide hzz
            clear hzz
            go_wp2
            go_ret
            refine ⟨ret_int ?_, e2.out⟩
            have hfv : fv (gl L i).2.names = z := by rw [HI2.out, HE2.out, HZ.out, if_neg HZZ.out]
            rw [HI.out, HE.out, wrong, hfv, if_neg HZZ.out]
        · have hd2 : decide ((k : Int) < nn) = false := by simpa using hk
          go_wp2
          refine ⟨⟨i + 1, by go_num, by omega, HB2.out, ?_⟩, by simp [intOf]; omega⟩
          have hfv : fv (gl L i).2.names = 0 := by rw [HI2.out, List.drop_eq_nil_of_le (by rw [HNN.out]; omega)]; rfl
          rw [HI.out, HE.out, wrong, if_pos hfv]
    · have hd : decide ((i : Int) < n) = false := by simpa using hi
      go_wp2
      go_ret
      refine ⟨ret_int ?_, HB.out⟩
      rw [HI.out, List.drop_eq_nil_of_le (by rw [nds_length, HLN.out]; omega)]; rfl
end Go.Proofs.Ytgkclldiphcogaa

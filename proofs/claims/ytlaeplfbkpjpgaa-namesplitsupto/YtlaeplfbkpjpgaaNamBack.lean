/- Layer 6: the walk of NameBack. -/
import Derived.Test.YtlaeplfbkpjpgaaNamShown
import Derived.Test.YtlaeplfbkpjpgaaNamJoin
namespace Go.Proofs.Ytlaeplfbkpjpgaa
set_option linter.unusedVariables false
open Go.RowKit Go.Maps
open Nam

/-- Split's answer for the names' path. -/
theorem Split_join (p : ByteArray) (l : List ByteArray) (n : Nat) (b : Bool) (w : World) (hp : p.toList = join (nm l)) (hn : l.length = n) (hb : decide (n = 0) = b) (h : ∀ x ∈ nm l, valid x = 0) (hs : p.size ≤ 1000) :
    Calls Try.prog 19 #[.string p] w fun e w' => ∃ ao c, e = .returned (.tuple #[.slice ao n c, .bool b, .int .i64 0]) ∧ Rs w' ao n l ∧ Below w.heap.size w w' := by
  subst hn hb
  refine Split_at _ (join (nm l)) l _ _ hp ?_ w
  rw [split_join h (by rw [← hp, toList_length]; exact hs), nm_length]
theorem Split_join_slash (p : ByteArray) (l : List ByteArray) (n : Nat) (w : World) (hp : p.toList = join (nm l)) (hn : l.length = n) (h : ∀ x ∈ nm l, valid x = 0) (hs : p.size < 1000) :
    Calls Try.prog 19 #[.string (p ++ ⟨#[47]⟩)] w fun e w' => ∃ ao c, e = .returned (.tuple #[.slice ao n c, .bool true, .int .i64 0]) ∧ Rs w' ao n l ∧ Below w.heap.size w w' := by
  subst hn
  refine Split_at _ (join (nm l) ++ [47]) l _ _ ?_ (split_join_slash h (by rw [← hp, toList_length]; exact hs)) w
  rw [toList_append, hp]; exact congrArg _ (toList_mk [47])
theorem Split_long (p : ByteArray) (w : World) (h : 1000 < p.size) :
    Calls Try.prog 19 #[.string p] w fun e w' => ∃ ao n c, e = .returned (.tuple #[.slice ao n c, .bool false, .int .i64 23]) ∧ Below w.heap.size w w' := by
  refine (Split_any p w).mono ?_
  rintro e w' ⟨ao, n, c, S, rfl, _, _, _, hb⟩
  rw [split_long (by rw [toList_length]; exact h)]
  exact ⟨ao, n, c, rfl, hb⟩
theorem refSame_self (a b : Option Addr) (n c d : Nat) (l : List ByteArray) (w : World) (hl : Rs w a n l) (hk : Rs w b n l) (hn : n ≤ 1000000) :
    Calls Try.prog 16 #[.slice a n c, .slice b n d] w fun e w' => e = .returned (.bool true) ∧ ∃ q, w' = w.drewN q := by
  refine (refSame_any a b n c n d l l w hl hk hn hn).mono ?_
  rintro e w' ⟨rfl, hq⟩
  exact ⟨ret_bool (by simp), hq⟩
set_option maxRecDepth 100000 in
theorem back_walk (a0 : Option Addr) (n0 c0 : Nat) (l0 : List ByteArray) (w : World) (h0 : Rs w a0 n0 l0) (h0c : n0 ≤ c0) (h0m : c0 ≤ 9223372036854775807) (h0s : ∀ s ∈ l0, s.size ≤ 9223372036854775807) :
    Calls Try.prog 6 #[.slice a0 n0 c0] w fun e w' => e = .returned (.bool true) ∧ Below w.heap.size w w' := by
  clear h0s
  go_enter Try.func6, Try.ntmps6
  go_wp2_with (go_at_call 9; refine (shown_any w).mono ?_)
  rintro e w1 ⟨rfl, hb1⟩
  replace h0 := h0.below hb1
  have HB1 := hide hb1
  clear hb1
  go_wp2_with (go_at_call 12; refine (few_any a0 n0 c0 l0 w1 h0 h0c h0m).mono ?_)
  rintro e w' ⟨n, rfl, r0, q0, t0, rfl⟩
  clear h0 h0c
  generalize l0.take 30 = l at r0
  have R := hide r0
  have HN := hide r0.1
  clear r0
  go_wp2
  go_loopw [4] (fun u wr => ∃ i : Nat, u = .int .i64 i ∧ i ≤ n ∧ Below w'.heap.size w' wr ∧ ∀ x ∈ nm (l.take i), valid x = 0) (fun u _ => n - (intOf u).toNat)
  case atStart => exact ⟨0, rfl, Nat.zero_le _, Below.refl _ _, by simp [nm]⟩
  case round =>
    obtain ⟨i, rfl, hi, hbel, hval⟩ := hrel
    have HB := hide hbel
    have HV := hide hval
    have hsz := hbel.size
    by_cases hq : i < n
    · have d1 : decide ((i : Int) < n) = true := by simpa using hq
      obtain ⟨ba, oa, rfl, hba, hca⟩ := R.out.at (by omega)
      have k1 : wr.cell? ⟨ba, oa + i, none⟩ = some (.string (gs l i)) := (hbel.cell (by exact hba)).trans (hca i hq)
      have ht : l.take (i + 1) = l.take i ++ [gs l i] := by rw [List.take_succ_eq_append_getElem (by rw [HN.out]; exact hq), gs_lt l i (by rw [HN.out]; exact hq)]
      have HT := hide ht
      clear hbel hval hca ht
      generalize gs l i = t at *
      by_cases hv : valid t.toList = 0
      · have hv' : (valid t.toList != 0) = false := by simpa using hv
        have HV2 := hide hv
        clear hv
        go_wp2_with (go_at_call 10; refine (Valid_any t _).mono ?_)
        rintro e w2 ⟨rfl, hb2⟩
        have HB2 := hide (HB.out.trans (hb2.mono hsz))
        clear hb2
        go_wp2
        refine ⟨⟨i + 1, by go_num, by omega, HB2.out, ?_⟩, by simp [intOf]; omega⟩
        rw [HT.out, nm_append]
        intro x hx
        rcases List.mem_append.1 hx with hx | hx
        · exact HV.out x hx
        · simp only [nm, List.map_cons, List.map_nil, List.mem_singleton] at hx
          rw [hx]; exact HV2.out
      · have hv' : (valid t.toList != 0) = true := by simpa using hv
        clear hv
        go_wp2_with (go_at_call 10; refine (Valid_any t _).mono ?_)
        rintro e w2 ⟨rfl, hb2⟩
        have HB2 := hide (HB1.out.trans ((HB.out.trans (hb2.mono hsz)).mono HB1.out.size))
        clear hb2
        go_wp2
        go_ret
        exact ⟨rfl, HB2.out⟩
    · have d1 : decide ((i : Int) < n) = false := by simpa using hq
      rw [List.take_of_length_le (by rw [HN.out]; omega)] at hval
      have HV2 := hide hval
      have hjl : (jn l).length ≤ 1000000000 := by
        have := join_length (nm l) (fun x hx => (valid_zero (hval x hx)).1)
        rw [nm_length, HN.out] at this
        unfold jn; omega
      have HJ := hide hjl
      have R2 := hide (R.out.below hbel)
      have HB2 := hide (HB1.out.trans (hbel.mono HB1.out.size))
      clear hbel hval hjl HB HV
      go_wp2_with (go_at_call 21; refine (Join_any a0 n c0 l _ R2.out (by omega) HJ.out).mono ?_)
      rintro e w2 ⟨rfl, hb2⟩
      have R3 := hide (R2.out.below hb2)
      have HB3 := hide (HB2.out.trans (hb2.mono HB2.out.size))
      clear hb2
      obtain ⟨p, hp⟩ : ∃ p : ByteArray, p = ⟨(join (nm l)).toArray⟩ := ⟨_, rfl⟩
      have HP : Hid (p.toList = join (nm l)) := by rw [hp]; exact toList_mk _
      rw [← hp]
      clear hp
      have hcs : (decide (n = 0) = true ∧ ((n : Int) == 0) = true) ∨ (decide (n = 0) = false ∧ ((n : Int) == 0) = false) := by
        by_cases h : n = 0
        · exact .inl ⟨by simpa using h, by simpa using h⟩
        · exact .inr ⟨by simpa using h, beq_eq_false_iff_ne.2 (by omega)⟩
      have hps : p.size ≤ 100000 := by
        rw [← toList_length, HP.out]
        have e := join_length (nm l) (fun x hx => (valid_zero (HV2.out x hx)).1)
        rw [nm_length, HN.out] at e
        unfold join
        split
        · simp
        · omega
      by_cases hlong : 1000 < p.size
      · have d2 : decide ((1000 : Int) ≤ p.size) = true := by simp; omega
        have d3 : ((p.size : Int) == 1000) = false := beq_eq_false_iff_ne.2 (by omega)
        go_wp2_with (go_at_call 19; refine (Split_long p _ hlong).mono ?_)
        rintro e w3 ⟨ao, m, c, rfl, hb3⟩
        have HB4 := hide (HB3.out.trans (hb3.mono HB3.out.size))
        clear hb3
        go_wp2
        go_ret
        exact ⟨rfl, HB4.out⟩
      · rcases hcs with ⟨z1, z2⟩ | ⟨z1, z2⟩
        all_goals
          go_wp2_with (go_at_call 19; refine (Split_join p l n _ _ HP.out HN.out z1 HV2.out (by omega)).mono ?_)
          rintro e w3 ⟨ao, c, rfl, ra, hb3⟩
          have HB4 := hide (HB3.out.trans (hb3.mono HB3.out.size))
          have R4 := hide (R3.out.below hb3)
          have RA := hide ra
          clear hb3 ra
          by_cases hq2 : p.size = 1000
          · have d2 : decide ((1000 : Int) ≤ p.size) = true := by simp; omega
            have d3 : ((p.size : Int) == 1000) = true := by rw [hq2]; rfl
            clear hq2
            go_wp2
            go_ret
            exact ⟨rfl, HB4.out⟩
          · have d2 : decide ((1000 : Int) ≤ p.size) = false := by simp; omega
            go_wp2_with (go_at_call 19; refine (Split_join_slash p l n _ HP.out HN.out HV2.out (by omega)).mono ?_)
            rintro e w4 ⟨bo, d, rfl, rb, hb4⟩
            have HB5 := hide (HB4.out.trans (hb4.mono HB4.out.size))
            have R5 := hide (R4.out.below hb4)
            have RA5 := hide (RA.out.below hb4)
            have RB := hide rb
            clear hb4 rb
            go_wp2_with (go_at_call 16; refine (refSame_self ao a0 n c c0 l _ RA5.out R5.out (by omega)).mono ?_)
            rintro e w5 ⟨rfl, q, rfl⟩
            go_wp2_with (go_at_call 16; refine (refSame_self bo a0 n d c0 l _ (RB.out.drewN q) (R5.out.drewN q) (by omega)).mono ?_)
            rintro e w6 ⟨rfl, q2, rfl⟩
            go_wp2
            go_ret
            exact ⟨rfl, below_drewN HB5.out _⟩
end Go.Proofs.Ytlaeplfbkpjpgaa

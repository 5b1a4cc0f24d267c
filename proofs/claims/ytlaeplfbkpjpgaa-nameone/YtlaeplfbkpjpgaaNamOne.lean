/- Layer 6: the walk of NameOne. -/
import Derived.Test.YtlaeplfbkpjpgaaNamRows
import Derived.Test.YtlaeplfbkpjpgaaNamJoin
namespace Go.Proofs.Ytlaeplfbkpjpgaa
set_option linter.unusedVariables false
open Go.RowKit Go.Maps
open Nam

/-- Two rows of names of the call's own, in blocks g and h: all names are valid. -/
def Two (w : World) (B g m c : Nat) (S : List ByteArray) (h k d : Nat) (T : List ByteArray) : Prop :=
  w.ownsRow B 9 1 (.slice (some ⟨g, 0, none⟩) m c) m (sv S) ∧ (∀ x ∈ nm S, valid x = 0) ∧ w.ownsRow B 9 1 (.slice (some ⟨h, 0, none⟩) k d) k (sv T) ∧ (∀ x ∈ nm T, valid x = 0) ∧ g ≠ h
theorem Two.symm {w : World} {B g m c h k d : Nat} {S T : List ByteArray} (t : Two w B g m c S h k d T) : Two w B h k d T g m c S := ⟨t.2.2.1, t.2.2.2.1, t.1, t.2.1, Ne.symm t.2.2.2.2⟩
theorem Two.below {w w' : World} {B g m c h k d : Nat} {S T : List ByteArray} (t : Two w B g m c S h k d T) (hb : Below w.heap.size w w') : Two w' B g m c S h k d T := ⟨owns_below t.1 hb, t.2.1, owns_below t.2.2.1 hb, t.2.2.2⟩
theorem valid_snoc {S : List ByteArray} {t : ByteArray} (h : ∀ x ∈ nm S, valid x = 0) (ht : valid t.toList = 0) : ∀ x ∈ nm (S ++ [t]), valid x = 0 := fun x hx => by
  rw [nm_append, List.mem_append] at hx
  rcases hx with hx | hx
  · exact h x hx
  · simp only [nm, List.map_cons, List.map_nil, List.mem_singleton] at hx
    rw [hx]; exact ht
/-- 'append' of a valid name to the first of two rows. -/
theorem wpList_append_two (w : World) {ops : Array Oper} {rest : List Oper} {o : Oper} {a : Act} {Q : Exit → Act → World → Prop} (hgd : o.guard = none) (s x : Operand)
    (ho : o.op = .call { callee := .builtin .append, args := #[s, x], argTypes := #[26, 26] })
    (B g m c : Nat) (S : List ByteArray) (hh k d : Nat) (T : List ByteArray) (two : Two w B g m c S hh k d T) (t : ByteArray) (ht : valid t.toList = 0) (hs : a.eval s = .slice (some ⟨g, 0, none⟩) m c)
    (hx : a.eval x = .slice (some ⟨w.heap.size, 0, none⟩) 1 1) (hbd : m + 1 ≤ 100000000) (hbase : B ≤ w.heap.size)
    (h : ∀ g' c' w', Two w' B g' (m + 1) c' (S ++ [t]) hh k d T → Below B w w' → wpList Try.prog ops Q rest (a.put o.dst (.slice (some ⟨g', 0, none⟩) (m + 1) c')) w') :
    wpList Try.prog ops Q (o :: rest) a (w.alloc (.cells #[.string t] 9)) := by
  obtain ⟨i0, hi, hz0, hz1, hz2⟩ := info_parts infoStr
  obtain ⟨t1, t2, t3, t4, t5⟩ := two
  refine wpList_append_lies _ hgd s x _ ho B 9 i0 (.string ⟨#[]⟩) 1 16 Try.underlying26 hi hz0 hz1 hz2 rfl (by decide) _ m (sv S) hs (t1.alloc _) ⟨w.heap.size, 0, none⟩ 1 1 (sv [t]) hx (by simp [sv]) ?_ (sv_one _) (by omega) (by unfold maxLen; omega) (by omega) (by simp; omega) _ rfl ?_
  · intro j u hj
    match j, hj with
    | 0, hj => simp [sv] at hj; subst hj; simp [Addr.add]
  · intro g' c' w' h1 h2 h3 h4
    have hg := grown_alloc h2
    have hk := (t3.lt hh rfl).2
    refine h g' c' w' ⟨by rw [sv_append]; exact h1, valid_snoc t2 ht, t3.kept hg (.inr (by simp [Value.ownBlock]; exact Ne.symm t5)), t4, ?_⟩ (grown_below hbase t1 hg)
    rcases h3 with h3 | h3
    · have : g = g' := by simpa [Value.ownBlock] using h3
      rw [← this]; exact t5
    · rw [h3]; simp; omega
theorem Same_self (a : Option Addr) (n c : Nat) (l : List ByteArray) (w : World) (hl : Rs w a n l) (hn : n ≤ 1000000) :
    Calls Try.prog 15 #[.slice a n c, .slice a n c] w fun e w' => e = .returned (.bool true) ∧ ∃ q, w' = w.drewN q := by
  refine (Same_any a a n c n c l l w hl hl hn hn).mono ?_
  rintro e w' ⟨rfl, hq⟩
  exact ⟨ret_bool (by simp), hq⟩
theorem Less_self (a : Option Addr) (n c : Nat) (l : List ByteArray) (w : World) (hl : Rs w a n l) (hn : n ≤ 1000000) :
    Calls Try.prog 13 #[.slice a n c, .slice a n c] w fun e w' => e = .returned (.bool false) ∧ ∃ q, w' = w.drewN q := by
  refine (Less_any a a n c n c l l w hl hl hn hn).mono ?_
  rintro e w' ⟨rfl, hq⟩
  exact ⟨ret_bool (less_irrefl _), hq⟩
theorem Below_self (a : Option Addr) (n c : Nat) (l : List ByteArray) (w : World) (hl : Rs w a n l) (hn : n ≤ 1000000) (hc : n ≤ c) (hm : c ≤ 9223372036854775807) :
    Calls Try.prog 17 #[.slice a n c, .slice a n c] w fun e w' => e = .returned (.bool false) ∧ ∃ q, w' = w.drewN q := by
  refine (Below_any a a n c n c l l w hl hl hn hn hc hm).mono ?_
  rintro e w' ⟨rfl, hq⟩
  exact ⟨ret_bool (below_irrefl _), hq⟩
theorem jn_valid {S : List ByteArray} (h : ∀ x ∈ nm S, valid x = 0) (hn : S.length ≤ 30) : (jn S).length ≤ 1000000000 := by
  have := join_length (nm S) (fun n hn => (valid_zero (h n hn)).1)
  rw [nm_length] at this
  unfold jn
  omega
theorem join_eq {S T : List ByteArray} (h : ∀ x ∈ nm S, valid x = 0) (k : ∀ x ∈ nm T, valid x = 0) : ((⟨(join (nm S)).toArray⟩ : ByteArray).toList == (⟨(join (nm T)).toArray⟩ : ByteArray).toList) = decide (nm S = nm T) := by
  rw [toList_mk, toList_mk, Bool.eq_iff_iff, beq_iff_eq, decide_eq_true_eq]
  exact ⟨fun e => join_inj h k e, fun e => by rw [e]⟩
set_option maxRecDepth 100000 in
theorem one_walk (a0 : Option Addr) (n0 c0 : Nat) (l0 : List ByteArray) (a1 : Option Addr) (n1 c1 : Nat) (l1 : List ByteArray) (w : World) (h0 : Rs w a0 n0 l0) (h0c : n0 ≤ c0) (h0m : c0 ≤ 9223372036854775807) (h0s : ∀ s ∈ l0, s.size ≤ 9223372036854775807)
    (h1 : Rs w a1 n1 l1) (h1c : n1 ≤ c1) (h1m : c1 ≤ 9223372036854775807) (h1s : ∀ s ∈ l1, s.size ≤ 9223372036854775807) :
    Calls Try.prog 8 #[.slice a0 n0 c0, .slice a1 n1 c1] w fun e w' => e = .returned (.bool true) ∧ Below w.heap.size w w' := by
  clear h0s h1s
  have hn0 : n0 ≤ 9223372036854775807 := by omega
  have hn1 : n1 ≤ 9223372036854775807 := by omega
  clear h0c h1c h0m h1m
  go_enter Try.func8, Try.ntmps8
  go_wp2_with (go_at_call 9; refine (shown_any w).mono ?_)
  rintro e w1 ⟨rfl, hb1⟩
  replace h0 := h0.below hb1
  replace h1 := h1.below hb1
  have R0 := hide h0
  have R1 := hide h1
  have HB1 := hide hb1
  clear hb1 h0 h1
  go_wp2
  go_loopw [6, 8] (fun r u wr => ∃ (g m c i : Nat) (S : List ByteArray), r = .slice (some ⟨g, 0, none⟩) m c ∧ u = .int .i64 i ∧ m ≤ i ∧ i ≤ 30 ∧ Two wr w1.heap.size g m c S (w1.heap.size + 1) 0 0 [] ∧ Below w1.heap.size w1 wr) (fun _ u _ => 30 - (intOf u).toNat)
  case atStart =>
    have e := emptyS (w := w1.alloc (.cells #[] 9)) (B := w1.heap.size) (by simp)
    rw [alloc2_size] at e
    exact ⟨w1.heap.size, 0, 0, 0, [], rfl, rfl, Nat.le_refl _, by omega, ⟨(emptyS (Nat.le_refl _)).alloc _, by simp [nm], e, by simp [nm], by omega⟩, ((Below.refl _ _).alloc (Nat.le_refl _) _).alloc (by simp) _⟩
  case round =>
    obtain ⟨g, m, c, i, S, rfl, rfl, hmi, hi, two, hbel⟩ := hrel
    have TW := hide two
    have HB := hide hbel
    have hsz := hbel.size
    by_cases hqq : i < n0 ∧ i < 30
    · obtain ⟨hq, hq2⟩ := hqq
      · have d1 : decide ((i : Int) < n0) = true := by simpa using hq
        have d2 : decide ((i : Int) < 30) = true := by simp; omega
        obtain ⟨ba, oa, rfl, hba, hca⟩ := R0.out.at (by omega)
        have k1 : wr.cell? ⟨ba, oa + i, none⟩ = some (.string (gs l0 i)) := (hbel.cell (by exact hba)).trans (hca i hq)
        clear two hbel hca
        generalize gs l0 i = t at *
        by_cases hv : valid t.toList = 0
        · have hv' : (valid t.toList == 0) = true := by simpa using hv
          have HV := hide hv
          clear hv
          go_wp2_with (go_at_call 10; refine (Valid_any t _).mono ?_)
          rintro e w2 ⟨rfl, hb2⟩
          have k2 : w2.cell? ⟨ba, oa + i, none⟩ = some (.string t) := (hb2.cell (Nat.lt_of_lt_of_le hba hsz)).trans k1
          have TW2 := hide (TW.out.below hb2)
          have HB2 := hide (HB.out.trans (hb2.mono hsz))
          have hs2 := hb2.size
          clear hb2
          go_wp2_with (at_builtin; refine wpList_append_two w2 rfl _ _ rfl w1.heap.size g m c S (w1.heap.size + 1) 0 0 [] TW2.out t HV.out rfl rfl (by omega) (by omega) ?_)
          intro g' c' w3 two hb3
          have TW3 := hide two
          have HB3 := hide hb3
          clear two hb3
          go_wp2
          exact ⟨⟨g', m + 1, c', i + 1, S ++ [t], rfl, by go_num, by omega, by omega, TW3.out, HB2.out.trans HB3.out⟩, by simp [intOf]; omega⟩
        · have hv' : (valid t.toList == 0) = false := by simpa using hv
          clear hv
          go_wp2_with (go_at_call 10; refine (Valid_any t _).mono ?_)
          rintro e w2 ⟨rfl, hb2⟩
          have TW2 := hide (TW.out.below hb2)
          have HB2 := hide (HB.out.trans (hb2.mono hsz))
          clear hb2
          go_wp2
          exact ⟨⟨g, m, c, i + 1, S, rfl, by go_num, by omega, by omega, TW2.out, HB2.out⟩, by simp [intOf]; omega⟩
    · have hex : (¬ i < n0 ∧ decide ((i : Int) < n0) = false) ∨ (i < n0 ∧ decide ((i : Int) < n0) = true ∧ ¬ i < 30 ∧ decide ((i : Int) < 30) = false) := by
        by_cases h : i < n0
        · exact .inr ⟨h, by simpa using h, fun k => hqq ⟨h, k⟩, by simp; omega⟩
        · exact .inl ⟨h, by simpa using h⟩
      have hm30 : m ≤ 30 := by omega
      clear two hbel hqq
      rcases hex with ⟨d0, d1⟩ | ⟨d0, d1, d2, d3⟩
      all_goals
        go_wp2
        clear d0 d1
        go_loopw [7, 9] (fun r u wt => ∃ (h k d j : Nat) (T : List ByteArray), r = .slice (some ⟨h, 0, none⟩) k d ∧ u = .int .i64 j ∧ k ≤ j ∧ j ≤ 30 ∧ Two wt w1.heap.size g m c S h k d T ∧ Below w1.heap.size w1 wt) (fun _ u _ => 30 - (intOf u).toNat)
        case atStart => exact ⟨w1.heap.size + 1, 0, 0, 0, [], rfl, rfl, Nat.le_refl _, by omega, TW.out, HB.out⟩
        case round =>
          obtain ⟨h, k, d, j, T, rfl, rfl, hkj, hj, two, hbel⟩ := hrel
          clear TW HB hsz
          have TW := hide two
          have HB := hide hbel
          have hsz := hbel.size
          by_cases hqq : j < n1 ∧ j < 30
          · obtain ⟨hq, hq2⟩ := hqq
            have e1 : decide ((j : Int) < n1) = true := by simpa using hq
            have e2 : decide ((j : Int) < 30) = true := by simp; omega
            obtain ⟨ba, oa, rfl, hba, hca⟩ := R1.out.at (by omega)
            have k1 := (hbel.cell (p := ⟨ba, oa + j, none⟩) (by exact hba)).trans (hca j hq)
            clear two hbel hca
            generalize gs l1 j = t at *
            by_cases hv : valid t.toList = 0
            · have hv' : (valid t.toList == 0) = true := by simpa using hv
              have HV := hide hv
              clear hv
              go_wp2_with (go_at_call 10; refine (Valid_any t _).mono ?_)
              rintro e w2 ⟨rfl, hb2⟩
              have k2 : w2.cell? ⟨ba, oa + j, none⟩ = some (.string t) := (hb2.cell (Nat.lt_of_lt_of_le hba hsz)).trans k1
              have TW2 := hide (TW.out.below hb2)
              have HB2 := hide (HB.out.trans (hb2.mono hsz))
              have hs2 := hb2.size
              clear hb2
              go_wp2_with (at_builtin; refine wpList_append_two w2 rfl _ _ rfl w1.heap.size h k d T g m c S TW2.out.symm t HV.out rfl rfl (by omega) (by omega) ?_)
              intro h' d' w3 two hb3
              have TW3 := hide two.symm
              have HB3 := hide hb3
              clear two hb3
              go_wp2
              exact ⟨⟨h', k + 1, d', j + 1, T ++ [t], rfl, by go_num, by omega, by omega, TW3.out, HB2.out.trans HB3.out⟩, by simp [intOf]; omega⟩
            · have hv' : (valid t.toList == 0) = false := by simpa using hv
              clear hv
              go_wp2_with (go_at_call 10; refine (Valid_any t _).mono ?_)
              rintro e w2 ⟨rfl, hb2⟩
              have TW2 := hide (TW.out.below hb2)
              have HB2 := hide (HB.out.trans (hb2.mono hsz))
              clear hb2
              go_wp2
              exact ⟨⟨h, k, d, j + 1, T, rfl, by go_num, by omega, by omega, TW2.out, HB2.out⟩, by simp [intOf]; omega⟩
          · have hex : (¬ j < n1 ∧ decide ((j : Int) < n1) = false) ∨ (j < n1 ∧ decide ((j : Int) < n1) = true ∧ ¬ j < 30 ∧ decide ((j : Int) < 30) = false) := by
              by_cases h : j < n1
              · exact .inr ⟨h, by simpa using h, fun k => hqq ⟨h, k⟩, by simp; omega⟩
              · exact .inl ⟨h, by simpa using h⟩
            have hk30 : k ≤ 30 := by omega
            have hcs : ((join (nm S) == join (nm T)) = true ∧ decide (nm S = nm T) = true) ∨ ((join (nm S) == join (nm T)) = false ∧ decide (nm S = nm T) = false) := by
              by_cases e : nm S = nm T
              · exact .inl ⟨by rw [e]; simp, by simpa using e⟩
              · exact .inr ⟨beq_eq_false_iff_ne.2 (fun k => e (join_inj two.2.1 two.2.2.2.1 k)), by simpa using e⟩
            have LS := hide (jn_valid two.2.1 (by have := two.1.1; rw [sv_length] at this; omega))
            have LT := hide (jn_valid two.2.2.2.1 (by have := two.2.2.1.1; rw [sv_length] at this; omega))
            have hmc : m ≤ c ∧ c ≤ 9223372036854775807 := by
              rcases two.1.2 with ⟨e, _⟩ | ⟨_, _, _, e, _, _, h1, h2, _⟩
              · simp at e
              · simp at e; unfold maxLen at h2; omega
            clear two hbel hqq
            rcases hex with ⟨f0, f1⟩ | ⟨f0, f1, f2, f3⟩
            all_goals rcases hcs with ⟨y1, y2⟩ | ⟨y1, y2⟩
            all_goals
              go_wp2_with (go_at_call 21; refine (Join_any (some ⟨g, 0, none⟩) m c S _ (rs_of_owns TW.out.1) (by omega) LS.out).mono ?_)
              rintro e w2 ⟨rfl, hb2⟩
              have TW2 := hide (TW.out.below hb2)
              have HB2 := hide (HB.out.trans (hb2.mono hsz))
              have hs2 := HB2.out.size
              clear hb2
              go_wp2_with (go_at_call 21; refine (Join_any (some ⟨h, 0, none⟩) k d T _ (rs_of_owns TW2.out.2.2.1) (by omega) LT.out).mono ?_)
              rintro e w3 ⟨rfl, hb3⟩
              have H : Hid (Ok w (some ⟨g, 0, none⟩, m, S) (some ⟨h, 0, none⟩, k, T) (some ⟨h, 0, none⟩, k, T) w3) :=
                ⟨HB1.out.trans ((HB2.out.trans (hb3.mono hs2)).mono HB1.out.size), rs_of_owns (TW2.out.below hb3).1, rs_of_owns (TW2.out.below hb3).2.2.1, rs_of_owns (TW2.out.below hb3).2.2.1⟩
              clear hb3
              go_wp2_with (go_at_call 15; refine (Same_any _ _ m c k d S T _ H.out.2.1 H.out.2.2.1 (by omega) (by omega)).mono ?_)
              rintro e w4 ⟨rfl, hq⟩
              replace H := Ok.drew H hq
              clear hq
              go_wp2_with (go_at_call 15; refine (Same_self _ m c S _ H.out.2.1 (by omega)).mono ?_)
              rintro e w5 ⟨rfl, hq⟩
              replace H := Ok.drew H hq
              clear hq
              go_wp2_with (go_at_call 13; refine (Less_self _ m c S _ H.out.2.1 (by omega)).mono ?_)
              rintro e w6 ⟨rfl, hq⟩
              replace H := Ok.drew H hq
              clear hq
              go_wp2_with (go_at_call 17; refine (Below_self _ m c S _ H.out.2.1 (by omega) hmc.1 hmc.2).mono ?_)
              rintro e w7 ⟨rfl, hq⟩
              replace H := Ok.drew H hq
              clear hq
              go_wp2
              go_ret
              exact ⟨rfl, H.out.1⟩
end Go.Proofs.Ytlaeplfbkpjpgaa

/- Layer 6: the reference's Split. -/
import Derived.Test.YtlaeplfbkpjpgaaNamSplit
namespace Go.Proofs.Ytlaeplfbkpjpgaa
set_option linter.unusedVariables false
open Go.RowKit Go.Maps
open Nam

/-- The parts that are left at a place, behind what stands from a on. -/
def rem (p : List UInt8) (i a : Nat) : List (List UInt8) := if i ≤ p.length then pc ((p.take i).drop a) (p.drop i) else []
theorem rem_end {p : List UInt8} {i a : Nat} (h : ¬ i ≤ p.length) : rem p i a = [] := by rw [rem, if_neg h]
theorem rem_byte {p : List UInt8} {i a : Nat} (h : i < p.length) (ha : a ≤ i) (hb : p[i] ≠ 47) : rem p i a = rem p (i + 1) a := by
  rw [rem, if_pos (by omega), rem, if_pos (by omega), List.drop_eq_getElem_cons h, pc_byte _ _ _ hb, ← cut_more p a i 1 ha]
  congr 2
  rw [List.drop_eq_getElem_cons h]; rfl
theorem rem_slash {p : List UInt8} {i a : Nat} (h : i < p.length) (hb : p[i] = 47) : rem p i a = (p.take i).drop a :: rem p (i + 1) (i + 1) := by
  rw [rem, if_pos (by omega), rem, if_pos (by omega), List.drop_eq_getElem_cons h, hb, pc_slash]
  have e : (p.take (i + 1)).drop (i + 1) = [] := List.drop_eq_nil_of_le (by rw [List.length_take]; omega)
  rw [e, pc_nil]
theorem rem_last {p : List UInt8} {i a : Nat} (h : i = p.length) : rem p i a = (p.take i).drop a :: rem p (i + 1) (i + 1) := by
  have e : p.drop i = [] := List.drop_eq_nil_of_le (by omega)
  rw [rem_end (by omega : ¬ i + 1 ≤ p.length), rem, if_pos (by omega), e, pc_end]
theorem byte_get (s : ByteArray) (i : Nat) (h : i < s.size) : s.toList[i]'(by rw [toList_length]; exact h) = s[i] := by
  have e := ByteArray.toList_eq (bs := s)
  simp only [e]; rfl
theorem pre_cons {p : List UInt8} (h : [47] <+: p) : p = 47 :: p.drop 1 ∧ 0 < p.length := by
  obtain ⟨t, rfl⟩ := h
  exact ⟨rfl, by simp⟩
/-- What is left at the loop's head, and what was found. -/
def At (p : List UInt8) (S : List ByteArray) (last : List UInt8) (i a : Nat) : Prop :=
  nms (parts p) = nm S ++ nms (rem p i a) ∧ err (parts p) = err (rem p i a) ∧ dir (parts p) = dir (last :: rem p i a)
theorem At.start {p : List UInt8} (h : [47] <+: p) : At p [] [] 1 1 := by
  obtain ⟨e, hl⟩ := pre_cons h
  have hr : rem p 1 1 = parts (p.drop 1) := by
    rw [rem, if_pos (by omega), show (p.take 1).drop 1 = [] from List.drop_eq_nil_of_le (by rw [List.length_take]; omega), pc_nil]
  have hp : parts p = [] :: rem p 1 1 := by rw [hr]; conv => lhs; rw [e, parts_slash]
  rw [At, hp]
  exact ⟨by rw [nms_here rfl]; rfl, err_here rfl, rfl⟩
theorem At.byte {p : List UInt8} {S : List ByteArray} {last : List UInt8} {i a : Nat} (h : At p S last i a) (hi : i < p.length) (ha : a ≤ i) (hb : p[i] ≠ 47) : At p S last (i + 1) a := by
  rw [At, rem_byte hi ha hb] at h; exact h
theorem At.here {p : List UInt8} {S : List ByteArray} {last l : List UInt8} {i a : Nat} (h : At p S last i a) (hr : rem p i a = l :: rem p (i + 1) (i + 1)) (hh : here l = true) : At p S l (i + 1) (i + 1) := by
  rw [At, hr] at h
  exact ⟨by rw [h.1, nms_here hh], by rw [h.2.1, err_here hh], by rw [h.2.2, dir_cons (by simp)]⟩
theorem At.name {p : List UInt8} {S : List ByteArray} {last : List UInt8} {i a : Nat} (l : ByteArray) (h : At p S last i a) (hr : rem p i a = l.toList :: rem p (i + 1) (i + 1)) (hh : Nam.here l.toList = false) (hk : ¬ (l.toList ≠ [46, 46] ∧ valid l.toList ≠ 0)) : At p (S ++ [l]) l.toList (i + 1) (i + 1) := by
  rw [At, hr] at h
  exact ⟨by rw [h.1, nms_name hh, nm_append, List.append_assoc]; rfl, by rw [h.2.1, err_name hh hk], by rw [h.2.2, dir_cons (by simp)]⟩
theorem At.bad {p : List UInt8} {S : List ByteArray} {last l : List UInt8} {i a : Nat} (h : At p S last i a) (hr : rem p i a = l :: rem p (i + 1) (i + 1)) (hh : Nam.here l = false) (hk : l ≠ [46, 46] ∧ valid l ≠ 0) : err (parts p) = valid l := by
  rw [At, hr] at h
  rw [h.2.1, err_bad hh hk]
theorem At.done {p : List UInt8} {S : List ByteArray} {last : List UInt8} {i a : Nat} (h : At p S last i a) (hi : ¬ i ≤ p.length) : nms (parts p) = nm S ∧ err (parts p) = 0 ∧ dir (parts p) = (Nam.here last || decide (last = [46, 46])) := by
  rw [At, rem_end hi] at h
  exact ⟨by rw [h.1]; simp [nms], h.2.1, h.2.2⟩
theorem splitAns_of {p : List UInt8} {w w' : World} {ao : Option Addr} {m c : Nat} {S : List ByteArray} {b b' : Bool} (h : split p = (nm S, b, 0)) (hb : b' = b) (hr : Rs w' ao m S) (hm : m ≤ 1001) (hw : Below w.heap.size w w') :
    SplitAns p w (.returned (.tuple #[.slice ao m c, .bool b', .int .i64 0])) w' := ⟨ao, m, c, S, by rw [h, hb], hr, by rw [h], hm, hw⟩
set_option maxRecDepth 100000 in
theorem refSplit_any (p : ByteArray) (w : World) : Calls Try.prog 20 #[.string p] w (SplitAns p.toList w) := by
  have HS := hide (toList_length p)
  by_cases hl : (1000 : Int) < p.size
  · have hd : decide ((1000 : Int) < p.size) = true := by simpa using hl
    have H := hide (splitAns_nil (w := w) (w' := w) (split_long (p := p.toList) (by rw [HS.out]; omega)) (Below.refl _ _))
    go_enter Try.func20, Try.ntmps20
    go_wp2
    go_ret3
    exact H.out
  · have hd : decide ((1000 : Int) < p.size) = false := by simpa using hl
    have hp : p.size ≤ 1000 := by omega
    have HL : Hid (¬ 1000 < p.toList.length) := by show ¬ _; rw [HS.out]; omega
    by_cases hk : [47] <+: p.toList
    · have hp0 : 0 < p.size := by rw [← HS.out]; exact (pre_cons hk).2
      have e0 : ((p[0]'hp0).toNat : Int) = 47 := by
        rw [← byte_get p 0 hp0]
        obtain ⟨t, ht⟩ := hk
        simp only [← ht]
        rfl
      have e1 : p.toList.isEmpty = false := by
        rw [List.isEmpty_eq_false_iff]; intro e; rw [e] at hk; simp at hk
      have e2 : (((p[0]'hp0).toNat : Int) != 47) = false := by rw [e0]; rfl
      have HA := hide (At.start hk)
      have HK := hide hk
      clear hk e0
      go_enter Try.func20, Try.ntmps20
      go_wp2
      go_loopw [5, 6, 7, 8, 9] (fun r f t u _ wr => ∃ (ao : Option Addr) (m c a i : Nat) (S : List ByteArray) (last : ByteArray), r = .slice ao m c ∧ f = .string last ∧ t = .int .i64 a ∧ u = .int .i64 i ∧ 1 ≤ i ∧ a ≤ i ∧ i ≤ p.size + 1 ∧ m ≤ i ∧ wr.ownsRow w.heap.size 9 1 (.slice ao m c) m (sv S) ∧ Below w.heap.size w wr ∧ At p.toList S last.toList i a) (fun _ _ _ u _ _ => p.size + 1 - (intOf u).toNat)
      case atStart => exact ⟨some ⟨w.heap.size, 0, none⟩, 0, 0, 1, 1, [], ⟨#[]⟩, rfl, rfl, rfl, rfl, Nat.le_refl _, Nat.le_refl _, by omega, by omega, emptyS (Nat.le_refl _), (Below.refl _ _).alloc (Nat.le_refl _) _, by rw [toList_mk []]; exact HA.out⟩
      case round =>
        obtain ⟨ao, m, c, a, i, S, last, rfl, rfl, rfl, rfl, hi1, hai, hi0, hmi, hown, hbel, hat⟩ := hrel
        have HO := hide hown
        have HB := hide hbel
        have HT := hide hat
        have hsz := hbel.size
        clear hown hbel hat
        by_cases hq : i ≤ p.size
        · have hd2 : decide ((i : Int) ≤ p.size) = true := by simp; omega
          by_cases hc : ∃ h : i < p.size, p[i]'h ≠ 47
          · obtain ⟨h, hb⟩ := hc
            have hd3 : decide ((i : Int) < p.size) = true := by simp; omega
            have hb2 : (((p[i]'h).toNat : Int) != 47) = true := by
              simp only [bne_iff_ne, ne_eq]
              intro e
              exact hb (UInt8.toNat_inj.1 (by simpa using (by omega : (p[i]'h).toNat = 47)))
            have HT2 := hide (HT.out.byte (by rw [HS.out]; exact h) hai (by rw [byte_get p i h]; exact hb))
            clear hb
            go_wp2
            exact ⟨⟨ao, m, c, a, i + 1, S, last, rfl, rfl, rfl, by go_num, by omega, by omega, by omega, by omega, HO.out, HB.out, HT2.out⟩, by simp [intOf]; omega⟩
          · have hr : rem p.toList i a = (p.extract a i).toList :: rem p.toList (i + 1) (i + 1) := by
              rw [toList_extract]
              by_cases h : i < p.size
              · refine rem_slash (by rw [HS.out]; exact h) ?_
                rw [byte_get p i h]
                exact Classical.byContradiction (fun k => hc ⟨h, k⟩)
              · exact rem_last (by rw [HS.out]; omega)
            have hvar : (∃ h : i < p.size, decide ((i : Int) < p.size) = true ∧ (((p[i]'h).toNat : Int) != 47) = false) ∨ (¬ i < p.size ∧ decide ((i : Int) < p.size) = false) := by
              by_cases h : i < p.size
              · have : p[i]'h = 47 := Classical.byContradiction (fun k => hc ⟨h, k⟩)
                exact .inl ⟨h, by simp; omega, by rw [this]; rfl⟩
              · exact .inr ⟨h, by simp; omega⟩
            have HR := hide hr
            clear hr hc
            by_cases hh : here (p.extract a i).toList = true
            · have HH := hide hh
              have hh2 : (p.extract a i).toList.isEmpty = true ∨ ((p.extract a i).toList.isEmpty = false ∧ ((p.extract a i).toList == [46]) = true) := by
                rw [← here_eq] at hh
                cases h : (p.extract a i).toList.isEmpty with
                | true => exact .inl rfl
                | false => rw [h, Bool.false_or] at hh; exact .inr ⟨rfl, hh⟩
              have HT2 := hide (HT.out.here HR.out hh)
              clear hh
              rcases hvar with ⟨h, hd3, hb2⟩ | ⟨h, hd3⟩
              all_goals rcases hh2 with k1 | ⟨k1, k2⟩
              all_goals
                go_wp2
                exact ⟨⟨ao, m, c, i + 1, i + 1, S, p.extract a i, rfl, rfl, by go_num, by go_num, by omega, by omega, by omega, by omega, HO.out, HB.out, HT2.out⟩, by simp [intOf]; omega⟩
            · have hh' : here (p.extract a i).toList = false := by simpa using hh
              clear hh
              have HH := hide hh'
              have k1 : (p.extract a i).toList.isEmpty = false := by
                rw [← here_eq, Bool.or_eq_false_iff] at hh'; exact hh'.1
              have k2 : ((p.extract a i).toList == [46]) = false := by
                rw [← here_eq, Bool.or_eq_false_iff] at hh'; exact hh'.2
              clear hh'
              by_cases hbad : (p.extract a i).toList ≠ [46, 46] ∧ valid (p.extract a i).toList ≠ 0
              · have b1 : (valid (p.extract a i).toList != 0) = true := by simpa using hbad.2
                have b2 : ((p.extract a i).toList == [46, 46]) = false := by simpa using hbad.1
                have e := HT.out.bad HR.out HH.out hbad
                have HF := hide (splitAns_nil (w := w) (w' := wr) (n := valid (p.extract a i).toList) (by rw [split_err HL.out HK.out (by rw [e]; exact hbad.2), e]) HB.out)
                clear hbad e
                rcases hvar with ⟨h, hd3, hb2⟩ | ⟨h, hd3⟩
                all_goals
                  go_wp2_with (go_at_call 11; refine (refValid_any _ _).mono ?_; rintro e w' ⟨rfl, rfl⟩)
                  go_ret3
                  exact HF.out
              · have HT2 := hide (HT.out.name (p.extract a i) HR.out HH.out hbad)
                have hcs : ((p.extract a i).toList == [46, 46]) = true ∨ (((p.extract a i).toList == [46, 46]) = false ∧ (valid (p.extract a i).toList != 0) = false) := by
                  cases h2 : ((p.extract a i).toList == [46, 46]) with
                  | true => exact .inl rfl
                  | false =>
                    refine .inr ⟨rfl, ?_⟩
                    cases h1 : (valid (p.extract a i).toList != 0) with
                    | false => rfl
                    | true => exact absurd ⟨by simpa using h2, by simpa using h1⟩ hbad
                clear hbad
                rcases hvar with ⟨h, hd3, hb2⟩ | ⟨h, hd3⟩
                all_goals rcases hcs with b2 | ⟨b2, b1⟩
                all_goals
                  go_wp2_with (first
                    | (go_at_call 11; refine (refValid_any _ _).mono ?_; rintro e w' ⟨rfl, rfl⟩)
                    | (at_builtin; refine wpList_append_str _ rfl _ _ rfl w.heap.size ao m c S rfl (HO.out.alloc _) _ (p.extract a i) rfl (cell_one_str _ _) (by omega) ?c2 ?_))
                  case c2 => simp; omega
                  intro ao' c' w4 hown' hgrow
                  have HB4 := hide (HB.out.trans (grown_below hsz HO.out (grown_alloc hgrow)))
                  have HO4 := hide hown'
                  clear hown' hgrow
                  go_wp2
                  exact ⟨⟨ao', m + 1, c', i + 1, i + 1, S ++ [p.extract a i], p.extract a i, rfl, rfl, by go_num, by go_num, by omega, by omega, by omega, by omega, HO4.out, HB4.out, HT2.out⟩, by simp [intOf]; omega⟩
        · have hd2 : decide ((i : Int) ≤ p.size) = false := by simp; omega
          obtain ⟨a1, a2, a3⟩ := HT.out.done (by rw [HS.out]; omega)
          have HF : Hid (split p.toList = (nm S, here last.toList || decide (last.toList = [46, 46]), 0)) := by
            show _ = _
            rw [split_ok HL.out HK.out a2, a1, a3]
          clear a1 a2 a3
          go_wp2
          all_goals
            go_ret3
            refine splitAns_of HF.out ?_ (rs_of_owns HO.out) (by omega) HB.out
          · have h : last.toList = [] := by assumption
            rw [h]; rfl
          · have h : last.toList = [46] := by assumption
            rw [h]; rfl
          · show (last.toList.isEmpty || last.toList == [46] || last.toList == [46, 46]) = _
            rw [here_eq]
            congr 1
            rw [Bool.eq_iff_iff, beq_iff_eq, decide_eq_true_eq]
    · have H := hide (splitAns_nil (w := w) (w' := w) (split_pre (p := p.toList) HL.out hk) (Below.refl _ _))
      by_cases hp0 : 0 < p.size
      · have e1 : p.toList.isEmpty = false := by
          rw [List.isEmpty_eq_false_iff]; intro e; rw [← HS.out, e] at hp0; simp at hp0
        have e2 : (((p[0]'hp0).toNat : Int) != 47) = true := by
          simp only [bne_iff_ne, ne_eq]
          intro e
          apply hk
          have e3 : p.toList[0]'(by rw [HS.out]; exact hp0) = 47 := by
            rw [byte_get p 0 hp0]
            exact UInt8.toNat_inj.1 (by simpa using (by omega : (p[0]'hp0).toNat = 47))
          refine ⟨p.toList.drop 1, ?_⟩
          conv => rhs; rw [← List.drop_zero (l := p.toList), List.drop_eq_getElem_cons (by rw [HS.out]; exact hp0), e3]
          rfl
        clear hk
        go_enter Try.func20, Try.ntmps20
        go_wp2
        go_ret3
        exact H.out
      · have e : p = ⟨#[]⟩ := ByteArray.ext (Array.eq_empty_of_size_eq_zero (by show p.size = 0; omega))
        subst e
        clear hk
        go_enter Try.func20, Try.ntmps20
        go_wp2
        go_ret3
        rw [toList_mk []] at H
        exact H.out
end Go.Proofs.Ytlaeplfbkpjpgaa

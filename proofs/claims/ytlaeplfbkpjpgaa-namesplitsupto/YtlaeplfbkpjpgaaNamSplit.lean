/- Layer 6: Split. -/
import Derived.Test.YtlaeplfbkpjpgaaNamParts
import Derived.Test.YtlaeplfbkpjpgaaNamClone
namespace Go.Proofs.Ytlaeplfbkpjpgaa
set_option linter.unusedVariables false
open Go.RowKit Go.Maps
open Nam

/-- What Split answers, in the world behind it. -/
def SplitAns (p : List UInt8) (w : World) (e : Ending) (w' : World) : Prop :=
  ∃ ao n c S, e = .returned (.tuple #[.slice ao n c, .bool (split p).2.1, .int .i64 (split p).2.2]) ∧ Rs w' ao n S ∧ nm S = (split p).1 ∧ n ≤ 1001 ∧ Below w.heap.size w w'
theorem split_long {p : List UInt8} (h : 1000 < p.length) : split p = ([], false, 23) := by rw [split, if_pos h]
theorem split_pre {p : List UInt8} (h : ¬ 1000 < p.length) (k : ¬ [47] <+: p) : split p = ([], false, 22) := by rw [split, if_neg h, if_pos k]
theorem split_err {p : List UInt8} (h : ¬ 1000 < p.length) (k : [47] <+: p) (e : err (parts p) ≠ 0) : split p = ([], false, err (parts p)) := by rw [split, if_neg h, if_neg (by simpa using k), if_pos e]
theorem split_ok {p : List UInt8} (h : ¬ 1000 < p.length) (k : [47] <+: p) (e : err (parts p) = 0) : split p = (nms (parts p), dir (parts p), 0) := by rw [split, if_neg h, if_neg (by simpa using k), if_neg (by simpa using e)]
theorem splitAns_nil {p : List UInt8} {w w' : World} {n : Int} (h : split p = ([], false, n)) (hb : Below w.heap.size w w') : SplitAns p w (.returned (.tuple #[.slice none 0 0, .bool false, .int .i64 n])) w' :=
  ⟨none, 0, 0, [], by rw [h], Rs.nil _ _, by rw [h]; rfl, by omega, hb⟩
theorem hasSlash_any (s : ByteArray) (w : World) : Calls Try.prog 25 #[.string s, .string ⟨#[47]⟩] w fun e w' => e = .returned (.bool (decide ([47] <+: s.toList))) ∧ w' = w := by
  refine (hasPrefix_any s ⟨#[47]⟩ w).mono ?_
  rintro e w' ⟨rfl, rfl⟩
  exact ⟨ret_bool (by rw [show (⟨#[47]⟩ : ByteArray).toList = [47] from toList_mk [47]]), rfl⟩
set_option maxRecDepth 100000 in
theorem Split_any (p : ByteArray) (w : World) : Calls Try.prog 19 #[.string p] w (SplitAns p.toList w) := by
  have HS := hide (toList_length p)
  by_cases hl : (1000 : Int) < p.size
  · have hd : decide ((1000 : Int) < p.size) = true := by simpa using hl
    have H := hide (splitAns_nil (w := w) (w' := w) (split_long (p := p.toList) (by rw [HS.out]; omega)) (Below.refl _ _))
    go_enter Try.func19, Try.ntmps19
    go_wp2
    go_ret3
    exact H.out
  · have hd : decide ((1000 : Int) < p.size) = false := by simpa using hl
    have hp : p.size ≤ 1000 := by omega
    have HL : Hid (¬ 1000 < p.toList.length) := by show ¬ _; rw [HS.out]; omega
    by_cases hk : [47] <+: p.toList
    · have hk' : decide ([47] <+: p.toList) = true := by simpa using hk
      have HK := hide hk
      clear hk
      go_enter Try.func19, Try.ntmps19
      go_wp2_with (go_at_call 25; refine (hasSlash_any p w).mono ?_; rintro e w' ⟨rfl, rfl⟩)
      refine (parts_any p _ hp).mono ?_
      rintro e w1 ⟨ao1, n, c1, PS, rfl, hrs, hnm, hn, hn0, hb1⟩
      obtain ⟨ba, oa, rfl, hba, hca⟩ := hrs.at hn0
      have HR := hide hrs
      have HM := hide hnm
      have HC := hide hca
      have HB1 := hide hb1
      have HPN := hide hrs.1
      clear hrs hnm hca hb1 hk'
      go_wp2
      go_loopw [6, 8, 9, 21] (fun r _ _ t wr => ∃ (ao : Option Addr) (m c i : Nat) (S : List ByteArray), r = .slice ao m c ∧ t = .int .i64 i ∧ i ≤ n ∧ m ≤ i ∧ wr.ownsRow w1.heap.size 9 1 (.slice ao m c) m (sv S) ∧ Below w1.heap.size w1 wr ∧
        nms (parts p.toList) = nm S ++ nms ((parts p.toList).drop i) ∧ err (parts p.toList) = err ((parts p.toList).drop i)) (fun _ _ _ t _ => n - (intOf t).toNat)
      case atStart => exact ⟨none, 0, 0, 0, [], rfl, rfl, Nat.zero_le _, Nat.le_refl _, World.ownsRow_nil _ _ _ _, Below.refl _ _, rfl, rfl⟩
      case round =>
        obtain ⟨ao, m, c, i, S, rfl, rfl, hi0, hmi, hown, hbel, hnms, herr⟩ := hrel
        have HO := hide hown
        have HB := hide hbel
        have HN := hide hnms
        have HE := hide herr
        have hsz := hbel.size
        by_cases hq : i < n
        · have hd2 : decide ((i : Int) < n) = true := by simpa using hq
          have k1 : wr.cell? ⟨ba, oa + i, none⟩ = some (.string (gs PS i)) := (hbel.cell (by exact hba)).trans (HC.out i hq)
          have hdr := nm_drop PS i (by rw [HPN.out]; exact hq)
          rw [HM.out] at hdr
          have HD := hide hdr
          clear hown hbel hnms herr hdr
          generalize gs PS i = g at *
          by_cases hh : here g.toList = true
          · go_wp2_with (go_at_call 27; refine (isHere_any g _).mono ?_; rintro e w' ⟨rfl, rfl⟩)
            refine ⟨⟨ao, m, c, i + 1, S, rfl, by go_num, by omega, by omega, HO.out, HB.out, ?_, ?_⟩, by simp [intOf]; omega⟩
            · rw [HN.out, HD.out, nms_here hh]
            · rw [HE.out, HD.out, err_here hh]
          · have hh' : here g.toList = false := by simpa using hh
            clear hh
            by_cases hbad : g.toList ≠ [46, 46] ∧ valid g.toList ≠ 0
            · have b1 : (valid g.toList != 0) = true := by simpa using hbad.2
              have b2 : (g.toList == [46, 46]) = false := by simpa using hbad.1
              have HBD := hide hbad
              clear hbad
              go_wp2_with (first
                | (go_at_call 27; refine (isHere_any g _).mono ?_; rintro e w' ⟨rfl, rfl⟩)
                | (go_at_call 10; refine (Valid_any g _).mono ?_; rintro e w2 ⟨rfl, hb2⟩))
              go_ret3
              refine splitAns_nil ?_ ((HB1.out.trans (HB.out.mono HB1.out.size)).trans (hb2.mono (Nat.le_trans HB1.out.size hsz)))
              have e := HE.out
              rw [HD.out, err_bad hh' HBD.out] at e
              rw [split_err HL.out HK.out (by rw [e]; exact HBD.out.2), e]
            · have hgs : g.size ≤ 255 := by
                rw [← toList_length]
                by_cases e : g.toList = [46, 46]
                · rw [e]; simp
                · have : valid g.toList = 0 := by
                    apply Classical.byContradiction
                    exact fun k => hbad ⟨e, k⟩
                  exact (valid_zero this).1
              have HBD := hide hbad
              have hcs : ((valid g.toList != 0) = false) ∨ ((valid g.toList != 0) = true ∧ (g.toList == [46, 46]) = true) := by
                cases h1 : (valid g.toList != 0) with
                | false => exact .inl rfl
                | true =>
                  refine .inr ⟨rfl, ?_⟩
                  cases h2 : (g.toList == [46, 46]) with
                  | true => rfl
                  | false => exact absurd ⟨by simpa using h2, by simpa using h1⟩ hbad
              clear hbad
              rcases hcs with b1 | ⟨b1, b2⟩
              all_goals
                go_wp2_with (first
                  | (go_at_call 27; refine (isHere_any g _).mono ?_; rintro e w' ⟨rfl, rfl⟩)
                  | (go_at_call 10; refine (Valid_any g _).mono ?_; rintro e w2 ⟨rfl, hb2⟩)
                  | (go_at_call 28; refine (Clone_any g _ (by omega)).mono ?_; rintro e w3 ⟨rfl, hb3⟩)
                  | (at_builtin; refine wpList_append_str _ rfl _ _ rfl w1.heap.size ao m c S rfl ((owns_below (owns_below HO.out hb2) hb3).alloc _) w3.heap.size g rfl (cell_one_str _ _) (by omega) ?c2 ?_))
                case c2 => have := hb2.size; have := hb3.size; simp; omega
                intro ao' c' w' hown' hgrow
                have hg := grown_alloc hgrow
                have hb4 : Below w1.heap.size w1 w' := ((HB.out.trans (hb2.mono hsz)).trans (hb3.mono (Nat.le_trans hsz hb2.size))).trans (grown_below (Nat.le_trans hsz (Nat.le_trans hb2.size hb3.size)) (owns_below (owns_below HO.out hb2) hb3) hg)
                have HB4 := hide hb4
                have HO4 := hide hown'
                clear hb4 hown' hg hgrow hb2 hb3
                go_wp2
                refine ⟨⟨ao', m + 1, c', i + 1, S ++ [g], rfl, by go_num, by omega, by omega, HO4.out, HB4.out, ?_, ?_⟩, by simp [intOf]; omega⟩
                · rw [HN.out, HD.out, nms_name hh', nm_append, List.append_assoc]; rfl
                · rw [HE.out, HD.out, err_name hh' HBD.out]
        · have hd2 : decide ((i : Int) < n) = false := by simpa using hq
          have hlast := nm_drop PS (n - 1) (by rw [HPN.out]; omega)
          have kc : wr.cell? ⟨ba, oa + (n - 1), none⟩ = some (.string (gs PS (n - 1))) := (hbel.cell (by exact hba)).trans (HC.out (n - 1) (by omega))
          rw [HM.out] at hlast
          have hpl : (parts p.toList).length = n := by rw [← HM.out, nm_length, HPN.out]
          have hgl : (parts p.toList).getLast?.getD [] = (gs PS (n - 1)).toList := by
            have e : ((parts p.toList).drop (n - 1))[0]? = (parts p.toList)[n - 1]? := by simp
            rw [List.getLast?_eq_getElem?, hpl, ← e, hlast]; rfl
          have hdr : (parts p.toList).drop i = [] := List.drop_eq_nil_of_le (by omega)
          rw [hdr] at hnms herr
          have HA : Hid (split p.toList = (nm S, here (gs PS (n - 1)).toList || decide ((gs PS (n - 1)).toList = [46, 46]), 0)) := by
            show _ = _
            rw [split_ok HL.out HK.out herr, hnms, dir, hgl]
            simp [nms]
          clear hown hbel hnms herr hdr hlast hpl hgl
          generalize gs PS (n - 1) = g at *
          have hidx : (n : Int) - 1 = ((n - 1 : Nat) : Int) := by omega
          go_wp2_with (go_at_call 27; refine (isHere_any g _).mono ?_; rintro e w' ⟨rfl, rfl⟩)
          all_goals
            go_ret3
            refine ⟨ao, m, c, S, ?_, rs_of_owns HO.out, by rw [HA.out], by omega, HB1.out.trans (HB.out.mono HB1.out.size)⟩
            rw [HA.out]
          · have h : here g.toList = true := by assumption
            exact congrArg (fun x => Ending.returned (Value.tuple #[.slice ao m c, .bool x, .int .i64 0])) (by rw [h]; rfl)
          · have h : ¬ here g.toList = true := by assumption
            refine congrArg (fun x => Ending.returned (Value.tuple #[.slice ao m c, .bool x, .int .i64 0])) ?_
            rw [show here g.toList = false by simpa using h, Bool.false_or, Bool.eq_iff_iff, beq_iff_eq, decide_eq_true_eq]
    · have hk' : decide ([47] <+: p.toList) = false := by simpa using hk
      have H := hide (splitAns_nil (w := w) (w' := w) (split_pre (p := p.toList) HL.out hk) (Below.refl _ _))
      go_enter Try.func19, Try.ntmps19
      go_wp2_with (go_at_call 25; refine (hasSlash_any p w).mono ?_; rintro e w' ⟨rfl, rfl⟩)
      go_ret3
      exact H.out
end Go.Proofs.Ytlaeplfbkpjpgaa

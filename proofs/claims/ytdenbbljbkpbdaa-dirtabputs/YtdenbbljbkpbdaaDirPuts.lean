/- Layer 10: DirtabPuts: any list is written as the document says, or refused. -/
import Derived.Test.YtdenbbljbkpbdaaDirShown
import Derived.Test.YtdenbbljbkpbdaaDirRefPut
namespace Go.Proofs.Ytdenbbljbkpbdaa
set_option linter.unusedVariables false
set_option maxRecDepth 100000
open Go.RowKit Go.Maps
open Nam Cur Cap Dir

namespace Dir
theorem news_es {w : World} {b off : Nat} {L : List Ent} (h : ∀ i, i < L.length → w.rangeAt b (off + i * 3) (ev (gl L i)).toList) : ∀ j u, (evs L)[j]? = some u → w.cell? ((⟨b, off, none⟩ : Addr).add j) = some u := fun j u hu => by
  have hj : j < L.length * 3 := by have := (List.getElem?_eq_some_iff.1 hu).1; rw [evs_length] at this; exact this
  have e : j = j / 3 * 3 + j % 3 := by omega
  have h2 := evs_get L (j / 3) (j % 3) (by omega) (by omega)
  rw [← e, hu] at h2
  have h3 := h (j / 3) (by omega)
  rw [gl_lt L _ (by omega)] at h3
  have h4 := h3 (j % 3) u h2.symm
  rw [Addr.add_lit, show off + j = off + j / 3 * 3 + j % 3 by omega]
  exact h4
/-- 'append' of entries to a row of the call's own. -/
theorem wpList_append_es (w : World) {ops : Array Oper} {rest : List Oper} {o : Oper} {a : Act} {Q : Exit → Act → World → Prop} (hgd : o.guard = none) (s x : Operand)
    (ho : o.op = .call { callee := .builtin .append, args := #[s, x], argTypes := #[22, 22] })
    (base : Nat) (vo : Option Addr) (n vc : Nat) (xs : List Ent) (hs : a.eval s = .slice vo n vc) (hown : w.ownsRow base 35 3 (.slice vo n vc) n (evs xs))
    (ao : Option Addr) (m c : Nat) (zs : List Ent) (hx : a.eval x = .slice ao m c) (hb : Es w ao m zs) (hnil : ao = none → c = 0)
    (hbd : n + m ≤ 100000000) (hbase : base ≤ w.heap.size)
    (h : ∀ ao' c' w', w'.ownsRow base 35 3 (.slice ao' (n + m) c') (n + m) (evs (xs ++ zs)) → w.grownBy w' (Value.slice vo n vc).ownBlock → wpList Try.prog ops Q rest (a.put o.dst (.slice ao' (n + m) c')) w') :
    wpList Try.prog ops Q (o :: rest) a w := by
  obtain ⟨ir, hir, hy0, hy1, hy2⟩ := info_parts infoRecs
  obtain ⟨hz, h0⟩ := hb
  cases ao with
  | none =>
    obtain rfl : c = 0 := hnil rfl
    obtain rfl : m = 0 := by
      rcases h0 with h0 | ⟨b, off, h1, _⟩
      · exact h0
      · simp at h1
    obtain rfl : zs = [] := List.eq_nil_of_length_eq_zero hz
    refine wpList_append_own_none hgd s x _ ho base 35 ir 3 Try.underlying22 hir _ n (evs xs) hs hown hx ?_
    have := h vo vc w (by simpa using hown) (World.grownBy.refl _ _)
    simpa using this
  | some ad =>
    refine wpList_append_own w hgd s x _ ho base 35 ir (.agg (ev z0)) 3 32 Try.underlying22 hir hy0 hy1 hy2 rfl (by decide) _ n (evs xs) hs hown ad m c (evs zs) hx (by rw [evs_length]; omega) ?_ (evs_ones _) (by unfold maxLen; omega) (by omega) hbase ?_
    · rcases h0 with h0 | ⟨b, off, h1, _, hseg⟩
      · have : zs = [] := List.eq_nil_of_length_eq_zero (by omega)
        subst this
        intro j u hu; simp [evs] at hu
      · obtain rfl := Option.some.inj h1
        exact news_es (fun i hi => hseg i (by omega))
    · intro v' w' h2 h3 _
      obtain ⟨ao', c', rfl⟩ := owns_shape h2
      exact h ao' c' w' (by rw [evs_append]; exact h2) h3
end Dir
set_option maxHeartbeats 2000000 in
theorem puts_walk (a0 : Option Addr) (len0 cap0 : Nat) (L0 : List Ent) (w : World) (f0 : Es w a0 len0 L0) (fc0 : len0 ≤ cap0) (fm0 : cap0 ≤ 9223372036854775807) (fi0 : ∀ E ∈ L0, E.In) (fn0 : a0 = none → cap0 = 0) :
    Calls Try.prog 3 #[.slice a0 len0 cap0] w fun e w' => e = .returned (.bool true) ∧ Below w.heap.size w w' := by
  obtain ⟨ir, hir, hy0, hy1, hy2⟩ := info_parts infoRecs
  have HF := hide f0
  clear f0 fi0
  go_enter Try.func3, Try.ntmps3
  go_wp2_with fail
  refine (shown_any w).mono ?_
  rintro r w1 ⟨rfl, b1⟩
  have HB1 := hide b1
  have HF1 := hide (HF.out.below b1)
  clear b1 HF
  go_wp2_with fail
  refine (few_any a0 len0 cap0 L0 w1 HF1.out fc0 fm0).mono ?_
  rintro r w1' ⟨n, rfl, hE, hnc, hn60, rfl⟩
  generalize L0.take 60 = L at *
  have hEn := hE.1
  have HE := hide hE
  have ho := emptyR (w := w1') (B := w1'.heap.size) (t := 35) (size := 3) (Nat.le_refl _)
  have HO := hide ho
  have HE2 := hide (hE.below (below_one w1' (.cells #[] 35)))
  have HNil := hide fn0
  have hk8 : 0 + n ≤ 100000000 := by omega
  clear hE ho fn0 HF1
  go_wp2_with (first
    | (at_builtin
       refine wpList_append_es _ (by rfl) (.tmp 13) (.tmp 14) (by rfl) w1'.heap.size _ 0 0 [] (by rfl) HO.out a0 n cap0 L (by rfl) HE2.out HNil.out hk8 (by simp) ?_
       intro ao4 c4 w4 ho4 hg4
       have b4 : Below w1'.heap.size w1' w4 := ((Below.refl _ w1').alloc (Nat.le_refl _) _).grown hg4 (by simp) (fun kk e => (HO.out.lt kk e).1)
       rw [Nat.zero_add, List.nil_append] at ho4
       have HB4 := hide b4
       have HE4 := hide (es_of_owns ho4)
       have hcap := cap_own ho4
       have HEL := hide (HE.out.below b4)
       have HC4 := hide hcap
       clear ho4 hg4 b4 hcap))
  have HP := hide (dPut_any ao4 n c4 L w4 HE4.out HC4.out.1 HC4.out.2.1 (by omega))
  unfold DPuts at HP
  have HR := hide (fun w5 (h : Es w5 a0 n L) => refDPut_any a0 n cap0 L w5 h (by omega))
  unfold RPuts at HR
  obtain ⟨m, hm⟩ : ∃ m, m = (putB L).length := ⟨_, rfl⟩
  obtain ⟨Z, hZ⟩ : ∃ Z, Z = putB L := ⟨_, rfl⟩
  rw [← hm, ← hZ] at HP HR
  have HWw := hide (HB1.out.trans (HB4.out.mono HB1.out.size))
  clear hm hZ HO HE2 HE HB4 HB1
  cases hq : may L with
  | true =>
    rw [hq] at HP HR
    refine HP.out.mono ?_
    rintro r w5 (⟨_, aP, cP, rfl, hN⟩ | ⟨h, _⟩)
    rotate_left
    · cases h
    have HN := hide hN
    have HEa := hide (HEL.out.below hN.bel)
    have HEb := hide (HE4.out.below hN.bel)
    have HW5 := hide (HWw.out.trans (hN.bel.mono HWw.out.size))
    clear hN hq HP
    go_wp2_with fail
    refine (HR.out w5 HEa.out).mono ?_
    rintro r w6 (⟨_, aR, cR, rfl, hB6, _, _, _, b6⟩ | ⟨h, _⟩)
    rotate_left
    · cases h
    have HB6 := hide hB6
    have HP6 := hide (HN.out.bs.below b6)
    have HEa6 := hide (HEa.out.below b6)
    have HEb6 := hide (HEb.out.below b6)
    have HW6 := hide (HW5.out.trans (b6.mono HW5.out.size))
    clear hB6 b6 HR
    go_wp2_with fail
    refine (same_any ao4 a0 n c4 n cap0 L L w6 HEb6.out HEa6.out (by omega) (by omega)).mono ?_
    rintro r w7 ⟨rfl, q, rfl⟩
    have hs1 := str_any (HP6.out.below (below_drewN (Below.refl _ _) q)) cP
    have hs2 := str_any (HB6.out.below (below_drewN (Below.refl _ _) q)) cR
    have HW7 := hide (below_drewN HW6.out q)
    rw [sameL_refl]
    have hst : ((strOfNums Z).toList == (strOfNums Z).toList) = true := by simp
    generalize w6.drewN q = w7 at *
    clear HP6 HB6
    go_wp2
    go_ret
    exact ⟨rfl, HW7.out⟩
  | false =>
    rw [hq] at HP HR
    refine HP.out.mono ?_
    rintro r w5 (⟨h, _⟩ | ⟨_, rfl, b5⟩)
    · cases h
    have HEa := hide (HEL.out.below b5)
    have HEb := hide (HE4.out.below b5)
    have HW5 := hide (HWw.out.trans (b5.mono HWw.out.size))
    clear b5 hq HP
    go_wp2_with fail
    refine (HR.out w5 HEa.out).mono ?_
    rintro r w6 (⟨h, _⟩ | ⟨_, rfl, b6⟩)
    · cases h
    have HEa6 := hide (HEa.out.below b6)
    have HEb6 := hide (HEb.out.below b6)
    have HW6 := hide (HW5.out.trans (b6.mono HW5.out.size))
    clear b6 HR
    go_wp2_with fail
    refine (same_any ao4 a0 n c4 n cap0 L L w6 HEb6.out HEa6.out (by omega) (by omega)).mono ?_
    rintro r w7 ⟨rfl, q, rfl⟩
    have HW7 := hide (below_drewN HW6.out q)
    rw [sameL_refl]
    generalize w6.drewN q = w7 at *
    have hs1 := str_any (w := w7) (ao := none) (n := 0) (zs := []) ⟨rfl, fun i => by simp [Lz.g], .inl rfl⟩ 0
    go_wp2
    go_ret
    exact ⟨rfl, HW7.out⟩
end Go.Proofs.Ytdenbbljbkpbdaa

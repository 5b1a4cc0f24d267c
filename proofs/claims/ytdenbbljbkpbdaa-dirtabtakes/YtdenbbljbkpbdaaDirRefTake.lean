/- Layer 10: the reference's Take. -/
import Derived.Test.YtdenbbljbkpbdaaDirRefPut
import Derived.Test.YtdenbbljbkpbdaaCurRef
namespace Go.Proofs.Ytdenbbljbkpbdaa
set_option linter.unusedVariables false
set_option maxRecDepth 100000
open Go.RowKit Go.Maps
open Lz (g)
open Nam Cur Cap Dir

namespace Dir
theorem RdR.above {S : Nat → Prop} {w w' : World} {p L : Nat} {s : St} (h : RdR w p L s) (hf : Fr S w w') (hS : ∀ k, S k → L ≤ k) (hp : ¬ S p) : RdR w' p L s := by
  obtain ⟨ao, n, c, zs, hd, hb, h3, h4, h5, h6, hL, h8⟩ := h
  exact ⟨ao, n, c, zs, hd.fr hf hp, hb.fr hL hf (fun a ha hlt hn0 hx => by have := hS _ hx; omega), h3, h4, h5, h6, Nat.le_trans hL hf.size, h8⟩
theorem RdR.below {w w' : World} {p L : Nat} {s : St} (h : RdR w p L s) (hb : Below w.heap.size w w') : RdR w' p L s :=
  RdR.above h (Fr.of_below (S := fun _ => False) hb) (fun k hk => hk.elim) (fun hk => hk)
theorem RdR.bigR {w : World} {p L : Nat} {s : St} (h : RdR w p L s) : L ≤ w.heap.size := by
  obtain ⟨_, _, _, _, _, _, _, _, _, _, h7, _⟩ := h; exact h7
theorem RdR.canR {w : World} {p L : Nat} {s : St} (h : RdR w p L s) : s.2 = 0 ∨ s.1 = [] := by
  obtain ⟨_, _, _, _, _, _, _, _, _, _, _, _, h8⟩ := h; exact h8
/-- How far the reference's reader is from its end. -/
def rdM (p : Nat) (w : World) : Nat := match w.cell? ⟨p, 1, none⟩ with
  | some (.int _ 0) => rdLen p w + 1
  | _ => 0
theorem RdR.far {w : World} {p L : Nat} {s : St} (h : RdR w p L s) (h0 : s.2 = 0) : rdM p w = s.1.length + 1 := by
  obtain ⟨ao, n, c, zs, hd, hb, _, _, _, _, _, hz, _⟩ := h
  unfold rdM rdLen
  rw [hd.c1, hd.c0, h0]
  have := hb.1
  rw [hz h0] at this
  simp [this]
theorem RdR.off {w : World} {p L : Nat} {s : St} (h : RdR w p L s) (h0 : s.2 ≠ 0) : rdM p w = 0 := by
  obtain ⟨ao, n, c, zs, hd, _⟩ := h
  unfold rdM
  rw [hd.c1]
  split
  · next heq =>
    simp at heq
    exact absurd heq.2 h0
  · rfl
/-- The reference's reader and its list, since w0. -/
structure RT (w0 : World) (p Lp B : Nat) (s : St) (l : List Ent) (v : Value) (w : World) : Prop where
  rd : RdR w p Lp s
  row : w.ownsRow B 35 3 v l.length (evs l)
  bel : Below w0.heap.size w0 w
  big : B ≤ w.heap.size
theorem RT.below {w0 w w' : World} {p Lp B : Nat} {s : St} {l : List Ent} {v : Value} (h : RT w0 p Lp B s l v w) (hb : Below w.heap.size w w') : RT w0 p Lp B s l v w' :=
  ⟨RdR.below h.rd hb, owns_below h.row hb, h.bel.trans (hb.mono h.bel.size), Nat.le_trans h.big hb.size⟩
theorem RT.call {w0 w w' : World} {p Lp B : Nat} {s s' : St} {l : List Ent} {v : Value} (h : RT w0 p Lp B s l v w) (hpB : p < B) (hp : w0.heap.size ≤ p) (hR : RdR w' p Lp s') (hF : Fr (One p) w w') : RT w0 p Lp B s' l v w' :=
  ⟨hR, owns_fr h.row hF (fun k hk hx => by have h1 := (h.row.lt k hk).1; have h2 : k = p := hx; omega), h.bel.trans (hF.one_below h.bel.size hp), Nat.le_trans h.big hF.size⟩
theorem RT.app {w0 w w' : World} {p Lp B : Nat} {s : St} {l : List Ent} {v v' : Value} {E : Ent} (h : RT w0 p Lp B s l v w) (hpB : p < B) (hLB : Lp ≤ B) (hB0 : w0.heap.size ≤ B) (hg : w.grownBy w' v.ownBlock) (ho : w'.ownsRow B 35 3 v' (l.length + 1) (evs l ++ (ev E).toList)) : RT w0 p Lp B s (l ++ [E]) v' w' := by
  have f : Fr (fun j => v.ownBlock = some j) w w' := Fr.of_grown hg (fun k hk => hk)
  have hB : ∀ k, v.ownBlock = some k → B ≤ k := fun k hk => (h.row.lt k hk).1
  refine ⟨RdR.above h.rd f (fun k hk => by have := hB k hk; omega) (fun hk => by have := hB p hk; omega), ?_, h.bel.trans (f.below _ h.bel.size (fun k hk => by have := hB k hk; omega)), Nat.le_trans h.big f.size⟩
  rw [evs_append, evs_one, List.length_append]
  exact ho
end Dir
theorem rt_num (w0 : World) (p Lp B : Nat) (s : St) (l : List Ent) (v : Value) (n : Int) (w : World) (h : RT w0 p Lp B s l v w) (hpB : p < B) (hp : w0.heap.size ≤ p) (hn : In64 n) :
    Calls Try.prog 29 #[.pointer (some ⟨p, 0, none⟩), .int .i64 n] w fun r w' => r = .returned (.int .i64 (numA n s)) ∧ RT w0 p Lp B (numS n s) l v w' :=
  (refNum_any p Lp n s w h.rd hn).mono (by rintro r w' ⟨h1, h2, h3⟩; exact ⟨h1, h.call hpB hp h2 h3⟩)
theorem rt_text (w0 : World) (p Lp B : Nat) (s : St) (l : List Ent) (v : Value) (w : World) (h : RT w0 p Lp B s l v w) (hpB : p < B) (hp : w0.heap.size ≤ p) (hb : Bytes s.1) :
    Calls Try.prog 28 #[.pointer (some ⟨p, 0, none⟩)] w fun r w' => r = .returned (.string (strOfNums (txtA s))) ∧ RT w0 p Lp B (txtS s) l v w' :=
  (refText_any p Lp s w h.rd hb).mono (by rintro r w' ⟨h1, h2, h3⟩; exact ⟨h1, h.call hpB hp h2 h3⟩)
set_option maxHeartbeats 4000000 in
theorem refDTake_any (n c : Nat) (ao : Option Addr) (zs : List Int) (w : World) (hb : Bs w ao n zs) (hc : n ≤ c) (hnil : ao = none → c = 0) (hn : n ≤ 3000) :
    Calls Try.prog 14 #[.slice ao n c] w fun r w' => DTakes zs w r w' := by
  obtain ⟨ir, hir, hy0, hy1, hy2⟩ := info_parts infoRecs
  have HBs := hide hb
  have HBy := hide hb.bytes
  have hzl := hb.1
  have HNil := hide hnil
  have ho := emptyB (w := w) (Nat.le_refl _)
  have hsrc : Bs (w.alloc (.cells #[] 5)) ao n zs := hb.alloc _
  have hk8 : 0 + n ≤ 100000000 := by omega
  clear hb hnil
  go_enter Try.func14, Try.ntmps14
  go_wp2_with (first
    | (at_builtin
       refine wpList_append_bs _ (by rfl) (.tmp 10) (.tmp 11) (by rfl) w.heap.size _ 0 0 [] (by rfl) ho ao n c zs (by rfl) hsrc HNil.out hk8 (by simp) ?_
       intro ao1 c1 w1 ho1 hg1
       have b1 : Below w.heap.size w w1 := ((Below.refl _ w).alloc (Nat.le_refl _) _).grown hg1 (by simp) (fun kk e => (ho.lt kk e).1)
       rw [Nat.zero_add, List.nil_append] at ho1
       obtain ⟨w2, hw2⟩ : ∃ w2, w2 = w1.alloc (.cells #[.slice ao1 n c1, .int .i64 0] 56) := ⟨_, rfl⟩
       have b12 : Below w1.heap.size w1 w2 := by rw [hw2]; exact below_one _ _
       have hRd : RdR w2 w1.heap.size w1.heap.size (zs, 0) := by
         rw [hw2]
         exact ⟨ao1, n, c1, zs, Hd.new _ _ _ _ _ _, (bs_of_owns ho1 HBy.out).toB.below (below_one _ _), cap_of_owns ho1, max_of_owns ho1, by omega, nil_cap ho1, by simp, fun _ => rfl, .inl rfl⟩
       have hs2 : w2.heap.size = w1.heap.size + 1 := by rw [hw2]; simp
       have hp1 : w.heap.size ≤ w1.heap.size := b1.size
       have HT0 : Hid (RT w w1.heap.size w1.heap.size w2.heap.size (zs, 0) [] (.slice none 0 0) w2) := ⟨hRd, ⟨rfl, .inl ⟨rfl, rfl⟩⟩, b1.trans (b12.mono b1.size), Nat.le_refl _⟩
       have HW2 := hide hw2
       obtain ⟨B, hB⟩ : ∃ B, B = w2.heap.size := ⟨_, rfl⟩
       rw [← hB] at HT0 hs2
       have hpB : w1.heap.size < B := by omega
       clear ho1 hg1 b1 b12 hRd hw2 ho hsrc hB hs2))
  rw [← HW2.out]
  go_loopw [5, 6, 7] (fun r5 _ _ wr => ∃ (s : St) (l : List Ent) (a5 : Option Addr) (c5 : Nat), r5 = .slice a5 l.length c5 ∧ RT w w1.heap.size w1.heap.size B s l (.slice a5 l.length c5) wr ∧ Bytes s.1 ∧ (s.2 = 0 → 6 * l.length + s.1.length ≤ n ∧ par zs = (l ++ (par s.1).1, (par s.1).2)) ∧ (s.2 ≠ 0 → (par zs).2 = false) ∧ l.length ≤ 3000) (fun _ _ _ wr => rdM w1.heap.size wr)
  case atStart => exact ⟨(zs, 0), [], none, 0, rfl, HT0.out, HBy.out, fun _ => ⟨by simp; omega, by simp⟩, fun h => absurd rfl h, by simp⟩
  case round =>
    clear HT0 HW2
    obtain ⟨s, l, a5, c5, rfl, hT, hby, hok, hbad, hll⟩ := hrel
    have HT := hide hT
    have HBs' := hide hby
    have HOk := hide hok
    have HBad := hide hbad
    have hcan := RdR.canR hT.rd
    obtain ⟨a4, n4, c4, z4, hd, hb4, _, _, _, _, _, hz4, _⟩ := id hT.rd
    have r0 : wr.cell? ⟨w1.heap.size, 0, none⟩ = some (.slice a4 n4 c4) := hd.c0
    have r1 : wr.cell? ⟨w1.heap.size, 1, none⟩ = some (.int .i64 s.2) := hd.c1
    have hn4 : s.2 = 0 → s.1.length = n4 := fun h => by rw [← hz4 h]; exact hb4.1
    obtain ⟨s1, s2⟩ := s
    simp only at HT HBs' HOk HBad hcan r1 hn4
    clear hT hby hok hbad hd hb4 hz4
    by_cases h0 : s2 = 0
    · subst h0
      have hln := hn4 rfl
      subst hln
      by_cases hz : s1 = []
      · subst hz
        have HPz : Hid (par zs = (l, true)) := by
          have := (HOk.out rfl).2
          rw [par_nil, List.append_nil] at this
          exact this
        have HEs := hide (es_of_owns HT.out.row)
        have hcap := cap_own HT.out.row
        have hc1 := hcap.1
        have hc2 := hcap.2.1
        have hwr := HT.out.bel
        have HWr := hide hwr
        clear hcap hwr
        go_wp2_with fail
        refine (refDPut_any a5 l.length c5 l wr HEs.out hll).mono ?_
        rintro r w5 (⟨hm, a6, c6, rfl, hb6, hc6, hm6, hn6, bel6⟩ | ⟨hm, rfl, bel6⟩)
        · have hT5 := HT.out.below bel6
          obtain ⟨a7, n7, c7, z7, hd7, _⟩ := hT5.rd
          have r2 : w5.cell? ⟨w1.heap.size, 1, none⟩ = some (.int .i64 0) := hd7.c1
          have HPz2 : Hid (putB l = zs) := by
            have := put_par zs HBy.out (by rw [HPz.out])
            rw [HPz.out] at this
            exact this
          have hz5 : (putB l).length = n := by rw [HPz2.out]; exact hzl
          rw [HPz2.out] at hb6
          rw [hzl] at hb6
          rw [hz5] at hc6
          have hs1 := str_any hb6 c6
          have HB5 := hide (HWr.out.trans (bel6.mono HWr.out.size))
          have hs2 := str_any (HBs.out.below HB5.out) c
          have HX : Hid (DTakes zs w (.returned (.tuple #[.slice a5 l.length c5, .int .i64 0])) w5) := by
            refine .inl ⟨?_, a5, c5, ?_, ?_, ?_, hc2, HB5.out⟩
            · unfold tk; rw [HPz.out, hm]; rfl
            · rw [HPz.out]
            · rw [HPz.out]; exact HEs.out.below bel6
            · rw [HPz.out]; exact hc1
          rw [hz5]
          have hst : ((strOfNums zs).toList == (strOfNums zs).toList) = true := by simp
          clear hd7 hT5 hb6 bel6 hm6 hn6 hm hz5 r0 r1
          go_wp2
          go_ret2
          exact HX.out
        · have hT5 := HT.out.below bel6
          obtain ⟨a7, n7, c7, z7, hd7, _⟩ := hT5.rd
          have r2 : w5.cell? ⟨w1.heap.size, 1, none⟩ = some (.int .i64 0) := hd7.c1
          have HB5 := hide (HWr.out.trans (bel6.mono HWr.out.size))
          have HTk : Hid (tk zs = false) := by show tk zs = false; unfold tk; rw [HPz.out, hm]; rfl
          clear hd7 hT5 bel6 hm r0 r1
          go_wp2
          go_ret2
          exact .inr ⟨HTk.out, rfl, HB5.out⟩
      · have hzl1 : 0 < s1.length := List.length_pos_iff.2 hz
        have hzi : (0 : Int) < (s1.length : Int) := by omega
        obtain ⟨E, hE⟩ : ∃ E, E = rE (s1, 0) := ⟨_, rfl⟩
        obtain ⟨t1, ht1⟩ : ∃ t1, t1 = txtS (s1, 0) := ⟨_, rfl⟩
        obtain ⟨t2, ht2⟩ : ∃ t2, t2 = numS 1 t1 := ⟨_, rfl⟩
        obtain ⟨t3, ht3⟩ : ∃ t3, t3 = numS 4 t2 := ⟨_, rfl⟩
        have e1 : strOfNums (txtA (s1, 0)) = E.name := by rw [hE]; rfl
        have e2 : numA 1 t1 = E.kind := by rw [hE, ht1]; rfl
        have e3 : numA 4 t2 = E.ref := by rw [hE, ht2, ht1]; rfl
        have e4 : t3 = rS (s1, 0) := by rw [ht3, ht2, ht1]; rfl
        have HTx := hide (rt_text w w1.heap.size w1.heap.size B (s1, 0) l (.slice a5 l.length c5) wr HT.out hpB hp1 HBs'.out)
        rw [e1, ← ht1] at HTx
        have HE2 := hide e2
        have HE3 := hide e3
        have HE4 := hide e4
        have HEE := hide hE
        have HS2 := hide ht2
        have HS3 := hide ht3
        have HFar := hide (RdR.far HT.out.rd rfl)
        clear e1 e2 e3 e4 hE ht1 ht2 ht3
        go_wp2_with fail
        refine HTx.out.mono ?_
        rintro r v1 ⟨rfl, hT1⟩
        have HT1 := hide hT1
        clear hT1 HTx r0 r1
        go_wp2_with fail
        refine (rt_num w w1.heap.size w1.heap.size B t1 l (.slice a5 l.length c5) 1 v1 HT1.out hpB hp1 (by unfold In64; omega)).mono ?_
        rintro r v2 ⟨rfl, hT2⟩
        rw [HE2.out]
        rw [← HS2.out] at hT2
        have HT2 := hide hT2
        clear hT2 HT1
        go_wp2_with fail
        refine (rt_num w w1.heap.size w1.heap.size B t2 l (.slice a5 l.length c5) 4 v2 HT2.out hpB hp1 (by unfold In64; omega)).mono ?_
        rintro r v3 ⟨rfl, hT3⟩
        rw [HE3.out]
        rw [← HS3.out] at hT3
        obtain ⟨vB, hvB⟩ : ∃ vB, vB = v3.alloc (.cells (ev E) 35) := ⟨_, rfl⟩
        have hbB : Below v3.heap.size v3 vB := by rw [hvB]; exact below_one _ _
        have hB1 : vB.heap[v3.heap.size]? = some (.cells (ev E) 35 (0, 0)) := by rw [hvB]; exact heap_new rfl
        have HTB := hide (hT3.below hbB)
        have HNews : Hid (∀ i u, (ev E).toList[i]? = some u → vB.cell? ((⟨v3.heap.size, 0, none⟩ : Addr).add i) = some u) := fun i u hu => by
          rw [Addr.add_lit, Nat.zero_add, cell_of_row _ _ _ _ _ _ hB1]
          simpa using hu
        have HOne : Hid (∀ u ∈ (ev E).toList, u.oneCell' = true) := by
          have := evs_ones [E]
          rw [evs_one] at this
          exact this
        have hk6 : (l.length + 1) * 32 ≤ 140737488355328 := by omega
        have hBB := HTB.out.big
        have hB0 : w.heap.size ≤ B := by omega
        have HVB := hide hvB
        clear hT3 hvB hbB hB1 HT2
        unfold ev at HVB
        go_wp2_with (first
          | (at_builtin
             rw [← HVB.out]
             refine wpList_append_own_at _ (by rfl) (.tmp 25) (.tmp 30) 22 (by rfl) B 35 ir (.agg (ev z0)) 3 32 Try.underlying22 hir hy0 hy1 hy2 rfl (by decide) _ l.length (evs l) (by rfl) HTB.out.row ⟨v3.heap.size, 0, none⟩ 1 1 (ev E).toList (by rfl) rfl HNews.out HOne.out (by unfold maxLen; omega) hk6 hBB ?_
             intro v6 w6 ho6 hg6 _ hl6
             have hT6 := HTB.out.app hpB (Nat.le_of_lt hpB) hB0 hg6 ho6
             obtain ⟨ao6, c6, rfl⟩ := owns_shape ho6
             have HT6 := hide hT6
             clear hT6 ho6 hg6 hl6))
        go_roundw
        case rel =>
          obtain ⟨q1, q2⟩ := HOk.out (by simp)
          refine ⟨t3, l ++ [E], ao6, c6, by simp, by rw [List.length_append]; exact HT6.out, by rw [HE4.out]; exact rS_bytes (s := (s1, 0)) HBs'.out, fun h => ?_, fun h => ?_, by simp; omega⟩
          · rw [HE4.out] at h ⊢
            have h1 := rS_less HBs'.out h
            have h2 := par_step HBs'.out hz h
            refine ⟨by simp; omega, ?_⟩
            rw [q2, h2, ← HEE.out]
            simp
          · rw [HE4.out] at h
            rw [q2, par_bad hz h]
        case measure =>
          rw [HFar.out]
          by_cases h : t3.2 = 0
          · rw [RdR.far HT6.out.rd h]
            have h1 := rS_less HBs'.out (by rw [← HE4.out]; exact h)
            rw [HE4.out]
            omega
          · rw [Dir.RdR.off HT6.out.rd h]; omega
    · have hse : s1 = [] := hcan.resolve_left h0
      subst hse
      have HEs := hide (es_of_owns HT.out.row)
      have HTk : Hid (tk zs = false) := by show tk zs = false; unfold tk; rw [HBad.out h0]; rfl
      have hwr := HT.out.bel
      have HWr := hide hwr
      have h0' : (s2 == 0) = false := by simpa using h0
      clear hwr
      go_wp2_with fail
      refine (refDPut_any a5 l.length c5 l wr HEs.out hll).mono ?_
      rintro r w5 hP
      have bel6 : Below wr.heap.size wr w5 := by
        rcases hP with ⟨_, _, _, _, _, _, _, _, h⟩ | ⟨_, _, h⟩ <;> exact h
      have hT5 := HT.out.below bel6
      obtain ⟨a7, n7, c7, z7, hd7, _⟩ := hT5.rd
      have r2 : w5.cell? ⟨w1.heap.size, 1, none⟩ = some (.int .i64 s2) := hd7.c1
      have HB5 := hide (HWr.out.trans (bel6.mono HWr.out.size))
      obtain ⟨a8, n8, c8, x8, rfl⟩ : ∃ a8 n8 c8 x8, r = .returned (.tuple #[.slice a8 n8 c8, .int .i64 x8]) := by
        rcases hP with ⟨_, a8, c8, h, _⟩ | ⟨_, h, _⟩
        · exact ⟨_, _, _, _, h⟩
        · exact ⟨_, _, _, _, h⟩
      have h1' : (s2 != 0) = true := by simpa using h0
      clear hd7 hT5 bel6 hP r0 r1
      go_wp2
      go_ret2
      exact .inr ⟨HTk.out, rfl, HB5.out⟩
end Go.Proofs.Ytdenbbljbkpbdaa

/- Layer 12: Add, by the reference. -/
import Derived.Test.YtifmikdknifcoaaDatRefW
namespace Go.Proofs.Ytifmikdknifcoaa
set_option linter.unusedVariables false
open Go.RowKit Go.Maps
open Lz (g)
open Crc (ent more)
open Frm Mtr Dat

/-- A slice's length. -/
def Dat.sl : Value → Nat
  | .slice _ m _ => m
  | _ => 0
/-- What the reference's Add answers, and leaves. -/
def RAdds (first : Nat) (s : Ws) (z : List Int) (q : Nat) (O : Nat → Prop) (w w' : World) (e : Ending) : Prop :=
  ∃ ao c, e = .returned (.tuple #[.int .i64 (addA first s (run ent z) : Nat), .slice ao (tl z).length c]) ∧ Bs w' ao (tl z).length (tl z) ∧ ∃ O', WrZ w' q first O' (addS first s (run ent z)) ∧ Fr O w w' ∧ Gr O O' w
/-- A round of the first loop. -/
structure RJ (w : World) (n : Nat) (z : List Int) (i : Nat) (ai : Option Addr) (ci : Nat) (ro : Option Addr) (rn rc : Nat) (wr : World) : Prop where
  le : 128 * i ≤ n
  bs : Bs w ai (n - 128 * i) (z.drop (128 * i))
  cap : n - 128 * i ≤ ci
  max : ci ≤ 9223372036854775807
  nil : ai = none → ci = 0
  rw : Rw wr w.heap.size ro rn rc (frs ent z i)
  bel : Below w.heap.size w wr
theorem RJ.next {w wr wr' : World} {n i ci rn rc rn' rc' : Nat} {z : List Int} {ai ro ro' : Option Addr} (h : RJ w n z i ai ci ro rn rc wr) (hm : 128 ≤ n - 128 * i) (hR : Rw wr' w.heap.size ro' rn' rc' (frs ent z i ++ bf ent (blk z i))) (hb : Below w.heap.size w wr') :
    RJ w n z (i + 1) (if ci = 128 then ai else Option.map (fun x : Addr => x.add 128) ai) (ci - 128) ro' rn' rc' wr' := by
  have h1 := h.bs.toB.rest (cap := ci) 128 hm h.cap
  have e1 : n - 128 * i - 128 = n - 128 * (i + 1) := by omega
  have e2 : (z.drop (128 * i)).drop 128 = z.drop (128 * (i + 1)) := by rw [List.drop_drop]; congr 1
  rw [e1, e2] at h1
  have hc := h.cap
  have hx := h.max
  refine ⟨by omega, h1, by omega, by omega, fun e => ?_, by rw [frs_succ]; exact hR, hb⟩
  by_cases e4 : ci = 128
  · omega
  · rw [if_neg e4] at e
    cases ai with
    | none => have := h.nil rfl; omega
    | some a => simp at e
set_option maxRecDepth 100000 in
set_option maxHeartbeats 2000000 in
theorem refDAdd_any (q first n c : Nat) (O : Nat → Prop) (ao : Option Addr) (s : Ws) (z : List Int) (w : World) (h : WrZ w q first O s) (hb : Bs w ao n z) (hc : n ≤ c) (hcm : c ≤ 9223372036854775807) (hnil : ao = none → c = 0) (hf : first ≤ 1000000) (hL : s.1.length ≤ 500000) (hM : s.2.length ≤ 500000) (hn : n ≤ 100000) :
    Calls Try.prog 15 #[.pointer (some ⟨q, 0, none⟩), .slice ao n c] w fun e w' => RAdds first s z q O w w' e := by
  have hz := hb.1
  have HW := hide h
  have HJ : Hid (RJ w n z 0 ao c (some ⟨w.heap.size, 0, none⟩) 0 0 (w.alloc (.cells #[] 5))) :=
    ⟨by omega, by simpa using hb, by omega, hcm, hnil, Rw.of_owns (emptyB (Nat.le_refl _)) Bytes.nil, below_one _ _⟩
  clear h hb hnil
  go_enter Try.func15, Try.ntmps15
  go_wp2_with fail
  go_loopw [1, 6] (fun s1 s6 wr => ∃ (i : Nat) (ai : Option Addr) (ci : Nat) (ro : Option Addr) (rn rc m : Nat), s1 = .slice ai m ci ∧ s6 = .slice ro rn rc ∧ n - 128 * i = m ∧ RJ w n z i ai ci ro rn rc wr) (fun s1 _ _ => Dat.sl s1)
  case atStart => exact ⟨0, _, _, _, _, _, _, rfl, rfl, by omega, HJ.out⟩
  case round =>
    clear HJ
    obtain ⟨i, ai, ci, ro, rn, rc, m, rfl, rfl, hm, hJ⟩ := hrel
    have HJ := hide hJ
    have hm1 := hJ.cap
    have hm2 := hJ.max
    have hm3 := hJ.le
    rw [hm] at hm1
    by_cases hgo : 128 ≤ m
    · have hBw : Bs wr ai 128 (blk z i) := (hJ.bs.below hJ.bel).take 128 (by omega)
      have HBw := hide hBw
      have hcl : (128 : Int) ≤ (ci : Int) := by omega
      have hml : (128 : Int) ≤ (m : Int) := by omega
      have hrn := hJ.rw.1
      have hfl := (frs_length ent z i).2
      have Hm := hide hm
      have hrb : rn ≤ 200000 := by omega
      have HH := hide (refHole_any 128 ci ai (blk z i) wr hBw (by omega))
      have hbl := blk_length z i
      have hbl2 : (blk z i).length = 128 := by rw [hbl]; omega
      have HBl := hide hbl2
      clear hJ hBw hbl hrn hfl hm hbl2
      go_wp2_with fail
      refine HH.out.mono ?_
      rintro r w1 ⟨rfl, rfl⟩
      clear HH
      obtain ⟨P, hP⟩ : ∃ P, put ent (eb (blk z i)) = P := ⟨_, rfl⟩
      have HPe : Hid (bf ent (blk z i) = P) := hP
      obtain ⟨pm, hpm⟩ : ∃ pm, P.length = pm := ⟨_, rfl⟩
      have hpl : pm ≤ 135 := by
        have := (put_length (T := ent) (b := eb (blk z i)) (eb_le (by have := HBl.out; omega))).2.2
        rw [hP, hpm] at this; exact this
      cases hh : hol (blk z i) with
      | true =>
        have hpe : eb (blk z i) = [] := by unfold eb; rw [if_pos hh]
        rw [hpe] at hP
        have HP := hide (refPut_any 0 0 none [] w1 (BsB.nil _ _ _) (by omega) (fun _ => rfl) (by omega))
        clear hh
        unfold RPuts at HP
        rw [hP, hpm] at HP
        clear hP hpm hpe
        go_wp2_with fail
        refine HP.out.mono ?_
        rintro r w2 (⟨h1, _⟩ | ⟨_, ao2, c2, rfl, hB2, hb2, hn2⟩)
        · first | (simp at h1; done) | (have := HBl.out; omega)
        have HR2 : Hid (Rw w2 w.heap.size ro rn rc (frs ent z i)) := HJ.out.rw.fr (Fr.of_below (S := fun _ => False) hb2) (fun _ _ => id)
        have HB2 := hide hB2
        have HN2 := hide hn2
        have Hb2 := hide (HJ.out.bel.trans (hb2.mono HJ.out.bel.size))
        have hs2 := Hb2.out.size
        clear hB2 hn2 hb2 HP
        by_cases e4 : ci = 128
        · subst e4
          go_wp2_with (first
            | (at_builtin; refine wpList_append_rw _ rfl (.tmp 26) (.tmp 27) rfl w.heap.size ro rn rc (frs ent z i) rfl HR2.out ao2 pm c2 P rfl HB2.out HN2.out (by omega) hs2 ?_
               intro ao3 k3 w3 hA hg hl
               have HX := hide (HJ.out.next (by have := Hm.out; omega) (by rw [HPe.out]; exact hA) (Hb2.out.grown hg hs2 (fun k hk => (HR2.out.own hk).1)))
               clear hA hg hl))
          go_roundw
          case rel =>
            have hX := HX.out
            first
              | (rw [if_neg e4] at hX; exact ⟨i + 1, _, _, _, _, _, _, rfl, rfl, by have := Hm.out; omega, hX⟩)
              | (rw [if_pos rfl] at hX; exact ⟨i + 1, _, _, _, _, _, _, rfl, rfl, by have := Hm.out; omega, hX⟩)
          case measure => simp [Dat.sl]; omega
        · have e5 : ¬ 128 = ci := by omega
          go_wp2_with (first
            | (at_builtin; refine wpList_append_rw _ rfl (.tmp 26) (.tmp 27) rfl w.heap.size ro rn rc (frs ent z i) rfl HR2.out ao2 pm c2 P rfl HB2.out HN2.out (by omega) hs2 ?_
               intro ao3 k3 w3 hA hg hl
               have HX := hide (HJ.out.next (by have := Hm.out; omega) (by rw [HPe.out]; exact hA) (Hb2.out.grown hg hs2 (fun k hk => (HR2.out.own hk).1)))
               clear hA hg hl))
          go_roundw
          case rel =>
            have hX := HX.out
            first
              | (rw [if_neg e4] at hX; exact ⟨i + 1, _, _, _, _, _, _, rfl, rfl, by have := Hm.out; omega, hX⟩)
              | (rw [if_pos rfl] at hX; exact ⟨i + 1, _, _, _, _, _, _, rfl, rfl, by have := Hm.out; omega, hX⟩)
          case measure => simp [Dat.sl]; omega
      | false =>
        have hpe : eb (blk z i) = blk z i := by unfold eb; rw [if_neg (by rw [hh]; simp)]
        rw [hpe] at hP
        have HP := hide (refPut_any 128 ci ai (blk z i) w1 HBw.out (by omega) HJ.out.nil (by omega))
        clear hh
        unfold RPuts at HP
        rw [hP, hpm] at HP
        clear hP hpm hpe
        go_wp2_with fail
        refine HP.out.mono ?_
        rintro r w2 (⟨h1, _⟩ | ⟨_, ao2, c2, rfl, hB2, hb2, hn2⟩)
        · first | (simp at h1; done) | (have := HBl.out; omega)
        have HR2 : Hid (Rw w2 w.heap.size ro rn rc (frs ent z i)) := HJ.out.rw.fr (Fr.of_below (S := fun _ => False) hb2) (fun _ _ => id)
        have HB2 := hide hB2
        have HN2 := hide hn2
        have Hb2 := hide (HJ.out.bel.trans (hb2.mono HJ.out.bel.size))
        have hs2 := Hb2.out.size
        clear hB2 hn2 hb2 HP
        by_cases e4 : ci = 128
        · subst e4
          go_wp2_with (first
            | (at_builtin; refine wpList_append_rw _ rfl (.tmp 26) (.tmp 27) rfl w.heap.size ro rn rc (frs ent z i) rfl HR2.out ao2 pm c2 P rfl HB2.out HN2.out (by omega) hs2 ?_
               intro ao3 k3 w3 hA hg hl
               have HX := hide (HJ.out.next (by have := Hm.out; omega) (by rw [HPe.out]; exact hA) (Hb2.out.grown hg hs2 (fun k hk => (HR2.out.own hk).1)))
               clear hA hg hl))
          go_roundw
          case rel =>
            have hX := HX.out
            first
              | (rw [if_neg e4] at hX; exact ⟨i + 1, _, _, _, _, _, _, rfl, rfl, by have := Hm.out; omega, hX⟩)
              | (rw [if_pos rfl] at hX; exact ⟨i + 1, _, _, _, _, _, _, rfl, rfl, by have := Hm.out; omega, hX⟩)
          case measure => simp [Dat.sl]; omega
        · have e5 : ¬ 128 = ci := by omega
          go_wp2_with (first
            | (at_builtin; refine wpList_append_rw _ rfl (.tmp 26) (.tmp 27) rfl w.heap.size ro rn rc (frs ent z i) rfl HR2.out ao2 pm c2 P rfl HB2.out HN2.out (by omega) hs2 ?_
               intro ao3 k3 w3 hA hg hl
               have HX := hide (HJ.out.next (by have := Hm.out; omega) (by rw [HPe.out]; exact hA) (Hb2.out.grown hg hs2 (fun k hk => (HR2.out.own hk).1)))
               clear hA hg hl))
          go_roundw
          case rel =>
            have hX := HX.out
            first
              | (rw [if_neg e4] at hX; exact ⟨i + 1, _, _, _, _, _, _, rfl, rfl, by have := Hm.out; omega, hX⟩)
              | (rw [if_pos rfl] at hX; exact ⟨i + 1, _, _, _, _, _, _, rfl, rfl, by have := Hm.out; omega, hX⟩)
          case measure => simp [Dat.sl]; omega
    · have hml : ¬ (128 : Int) ≤ (m : Int) := by omega
      have hi : z.length / 128 = i := by rw [hz]; omega
      have hrun : frs ent z i = run ent z := by unfold run; rw [hi]
      have htl : z.drop (128 * i) = tl z := by unfold tl; rw [hi]
      have htll : (tl z).length = m := by rw [← htl, List.length_drop]; omega
      have hR := hJ.rw
      rw [hrun] at hR
      have hrn := hR.1
      have hrb : rn ≤ 150000 := by have := (run_length ent z).2; omega
      have hB : Bs wr ai m (tl z) := by
        have := hJ.bs.below hJ.bel
        rw [hm, htl] at this
        exact this
      have HE : Hid (Rw (wr.alloc (.cells #[] 5)) wr.heap.size (some ⟨wr.heap.size, 0, none⟩) 0 0 []) := Rw.of_owns (emptyB (Nat.le_refl _)) Bytes.nil
      have HBa := hide (hB.alloc (.cells #[] 5))
      have HNa := hide hJ.nil
      have HB1 := hide hJ.bel
      have HR1 := hide hR
      have HTl := hide htll
      have hs1 := hJ.bel.size
      have HRB := hide hR.2.1
      have HRn := hide hrn
      clear hJ HJ hi hrun htl htll hR hrn hB hm hm3 hgo
      go_upto_region 10 with (first
        | (at_builtin; refine wpList_append_rw _ rfl (.tmp 31) (.tmp 32) rfl wr.heap.size (some ⟨wr.heap.size, 0, none⟩) 0 0 [] rfl HE.out ai m ci (tl z) rfl HBa.out HNa.out (by omega) (by simp) ?_
           intro ao3 k3 w3 hA hg hl
           have Hb3 : Hid (Below wr.heap.size wr w3) := ((Below.refl _ wr).alloc (Nat.le_refl _) _).grown hg (by simp) (fun k hk => by simp [Value.ownBlock] at hk; omega)
           rw [Nat.zero_add] at hA
           have HA := hide hA
           clear hA hg hl))
      clear HE HBa HNa
      have Hb := hide (HB1.out.trans (Hb3.out.mono hs1))
      have HR3 : Hid (Rw w3 w.heap.size ro rn rc (run ent z)) := HR1.out.fr (Fr.of_below (S := fun _ => False) Hb3.out) (fun _ _ => id)
      have HT3 : Hid (Rw w3 wr.heap.size ao3 m k3 (tl z)) := HA.out
      have HRlt : Hid (∀ k, (Value.slice ro rn rc).ownBlock = some k → k < wr.heap.size) := fun k hk => (HR1.out.own hk).2.1
      have HOlt := hide HW.out.olt
      clear HA HR1 HB1 hm1 hm2
      by_cases h0 : rn = 0
      · have hr0 : run ent z = [] := List.eq_nil_of_length_eq_zero (by rw [HRn.out, h0])
        have HAns : Hid (RAdds first s z q O w w3 (.returned (.tuple #[.int .i64 0, .slice ao3 m k3]))) := by
          refine ⟨ao3, k3, ?_, ?_, O, ?_, Fr.of_below Hb.out, Gr.refl _ _⟩
          · rw [hr0, (add_nil first s).1, HTl.out]; rfl
          · rw [HTl.out]; exact HT3.out.bs
          · rw [hr0, (add_nil first s).2]; exact HW.out.below Hb.out
        have h0' : ((rn : Int) == 0) = true := by simp; omega
        clear h0 hr0
        go_wp2
        go_ret2
        exact HAns.out
      · have h0' : ((rn : Int) == 0) = false := by simp; omega
        have HRne : Hid (run ent z ≠ []) := fun e => h0 (by have := HRn.out; rw [e] at this; exact this.symm)
        obtain ⟨L, bo, bn, bc, vo, vc, hz3⟩ := HW.out.below Hb.out
        have HZ := hide hz3
        have hLl : L.length ≤ 500000 := by have := hM; rw [hz3.m] at this; simpa [rnm] using this
        have C2 := hide hz3.zw.c2
        clear hz3 h0
        go_wp2_with fail
        go_loopw [11] (fun s11 wx => ∃ (i k : Nat), s11 = .int .i64 i ∧ i ≤ L.length ∧ wx = w3.drewN k ∧ ∀ j (hj : j < L.length), j < i → L[j].r ≠ run ent z) (fun s11 _ => L.length - (intOf s11).toNat)
        case atStart => exact ⟨0, 0, rfl, Nat.zero_le _, rfl, fun j _ hj => by omega⟩
        case round =>
          obtain ⟨i, k, rfl, hi, hwk, hall⟩ := hrel
          have HAll := hide hall
          have HWk := hide hwk
          have HC : Hid (∀ a, wr.cell? a = w3.cell? a) := fun a => by rw [hwk]; rfl
          have HS : Hid (∀ ao n l, Bs w3 ao n l → Bs wr ao n l) := fun ao n l h => by rw [hwk]; exact h
          clear hall hwk
          have c2k : wr.cell? ⟨q, 2, none⟩ = some (.slice vo L.length vc) := (HC.out _).trans C2.out
          by_cases hgo : i < L.length
          · obtain ⟨vb, vc', hv, _, _⟩ := HZ.out.rr.form (by omega)
            obtain ⟨rfl, rfl⟩ : vo = some ⟨vb, 0, none⟩ ∧ vc = vc' := by simpa using hv
            have hcap : L.length ≤ vc := by
              rcases HZ.out.rr.2 with ⟨h1, _⟩ | ⟨_, cap, _, h1, _, _, h2, _⟩
              · simp at h1
              · simp at h1; omega
            have x0 : wr.cell? ⟨vb, i * 2, none⟩ = some (.slice L[i].a L[i].n L[i].c) := by
              have h1 := HZ.out.rr.cellAt (i * 2 + 0) (by omega)
              rw [rnv_get L i 0 hgo (by omega)] at h1
              exact (HC.out _).trans h1
            have x1 : wr.cell? ⟨vb, i * 2 + 1, none⟩ = some (.int .i64 (L[i].st : Nat)) := by
              have h1 := HZ.out.rr.cellAt (i * 2 + 1) (by omega)
              rw [rnv_get L i 1 hgo (by omega)] at h1
              exact (HC.out _).trans h1
            have hxR := (HZ.out.each L[i] (List.getElem_mem hgo)).1
            have hst1 : ∀ k, (convert 34 9 (.slice L[i].a L[i].n L[i].c)).run Try.prog (wr.drewN k) = .ok (.string (strOfNums L[i].r)) (wr.drewN k) := fun k => str_any (show Bs (wr.drewN k) _ _ _ from HS.out _ _ _ hxR.bs) _
            have hst2 : ∀ k, (convert 34 9 (.slice ro rn rc)).run Try.prog (wr.drewN k) = .ok (.string (strOfNums (run ent z))) (wr.drewN k) := fun k => str_any (show Bs (wr.drewN k) _ _ _ from HS.out _ _ _ HR3.out.bs) _
            have hq : ((strOfNums L[i].r).toList == (strOfNums (run ent z)).toList) = decide (L[i].r = run ent z) := str_eq hxR.2.1 HRB.out
            have hg1 : (i : Int) < (L.length : Int) := by omega
            have HLk := hide (rnm_look (run ent z) L i hgo (fun j hj => HAll.out j (by omega) hj))
            have HeqL : Hid (∀ j (hj : j < L.length), j = i → L[j].r = L[i].r) := fun j hj e => by subst e; rfl
            clear hxR hv
            obtain ⟨xa, hxa⟩ : ∃ xa, L[i].a = xa := ⟨_, rfl⟩
            obtain ⟨xn, hxn⟩ : ∃ xn, L[i].n = xn := ⟨_, rfl⟩
            obtain ⟨xc, hxc⟩ : ∃ xc, L[i].c = xc := ⟨_, rfl⟩
            obtain ⟨xr, hxr⟩ : ∃ xr, L[i].r = xr := ⟨_, rfl⟩
            obtain ⟨xs, hxs⟩ : ∃ xs, L[i].st = xs := ⟨_, rfl⟩
            rw [hxa, hxn, hxc] at x0 hst1
            rw [hxs] at x1 HLk
            rw [hxr] at hst1 hq HLk HeqL
            clear hxa hxn hxc hxr hxs
            have hil : (i : Int) ≤ (vc : Int) := by omega
            by_cases hxe : xr = run ent z
            · rw [decide_eq_true hxe] at hq
              have HAns : Hid (∀ k, RAdds first s z q O w (wr.drewN k) (.returned (.tuple #[.int .i64 (xs : Nat), .slice ao3 m k3]))) := fun k' => by
                have hlk := HLk.out hxe
                rw [← HZ.out.m] at hlk
                obtain ⟨a1, a2⟩ := add_some (first := first) HRne.out hlk
                refine ⟨ao3, k3, by rw [a1, HTl.out], by rw [HTl.out]; exact HS.out _ _ _ HT3.out.bs, O, ?_, ?_, Gr.refl _ _⟩
                · rw [a2, HWk.out]; exact (HW.out.below Hb.out).below (below_drewN (below_drewN (Below.refl _ _) k) k')
                · rw [HWk.out]; exact ((Fr.of_below Hb.out).drewN k).drewN k'
              clear hxe
              go_wp2_with fail
              go_quiet (fail)
              have c2q : (wr.drewN nq).cell? ⟨q, 2, none⟩ = some (.slice (some ⟨vb, 0, none⟩) L.length vc) := c2k
              have x1q : (wr.drewN nq).cell? ⟨vb, i * 2 + 1, none⟩ = some (.int .i64 (xs : Nat)) := x1
              clear c2k x1 x0 hst1 hst2 hq
              go_wp2
              go_ret2
              exact HAns.out _
            · rw [decide_eq_false hxe] at hq
              have Hxe := hide hxe
              clear hxe
              go_wp2_with fail
              go_quiet (fail)
              clear c2k x1 x0 hst1 hst2 hq
              go_wp2
              go_roundw
              case rel => exact ⟨i + 1, k + nq, by go_num, by omega, by rw [HWk.out, World.drewN_drewN], fun j hj hji => by
                by_cases e : j = i
                · rw [HeqL.out j hj e]; exact Hxe.out
                · exact HAll.out j hj (by omega)⟩
              case measure => simp [intOf]; omega
          · obtain rfl : i = L.length := by omega
            have hg1 : decide ((L.length : Int) < (L.length : Int)) = false := by simp
            have HLk := hide (rnm_none (run ent z) L (fun j hj => HAll.out j hj hj))
            have hq3 : Below w3.heap.size w3 wr := by rw [HWk.out]; exact below_drewN (Below.refl _ _) k
            have hZ := HZ.out.below hq3
            have Hbw := hide (Hb.out.trans (hq3.mono Hb.out.size))
            have c0k := hZ.zw.c0
            have c1k := hZ.zw.c1
            have hbn := hZ.b.1
            have HBn := hide hbn
            have HZw := hide hZ
            have HRw : Hid (Rw wr w.heap.size ro rn rc (run ent z)) := HR3.out.fr (Fr.of_below (S := fun _ => False) hq3) (fun _ _ => id)
            have HTw : Hid (Rw wr w.heap.size ao3 m k3 (tl z) ∧ ∀ k, (Value.slice ao3 m k3).ownBlock = some k → (Value.slice ro rn rc).ownBlock ≠ some k) :=
              ⟨(HT3.out.mono hs1).fr (Fr.of_below (S := fun _ => False) hq3) (fun _ _ => id), fun k hk e => by
                have := (HT3.out.own hk).1
                have := HRlt.out k e
                omega⟩
            obtain ⟨A, hA⟩ : ∃ A, A = first + bn := ⟨_, rfl⟩
            have e1 : IntKind.i64.wrap ((first : Int) + (bn : Int)) = (A : Int) := by rw [IntKind.wrap_i64]; omega
            have HAe := hide hA
            have hbb : bn ≤ 500000 := by omega
            clear hA hZ hq3 hbn HZ HR3 HT3 HW HAll HWk HC HS Hb Hb3 hgo hi
            go_wp2_with fail
            go_quiet (fail)
            have hqn : Below wr.heap.size wr (wr.drewN nq) := below_drewN (Below.refl _ _) nq
            have Hbq := hide (Hbw.out.trans (hqn.mono Hbw.out.size))
            have HZq := hide (HZw.out.below hqn)
            have HRq : Hid (Rw (wr.drewN nq) w.heap.size ro rn rc (run ent z)) := HRw.out
            have HTq : Hid (Rw (wr.drewN nq) w.heap.size ao3 m k3 (tl z)) := HTw.out.1
            have HTn := hide HTw.out.2
            have c2q : (wr.drewN nq).cell? ⟨q, 2, none⟩ = some (.slice vo L.length vc) := c2k
            clear c0k c1k c2k hqn HZw HRw HTw Hbw e1
            generalize wr.drewN nq = wq at *
            obtain ⟨X, hX⟩ : ∃ X : Rn, X = ⟨ro, rn, rc, run ent z, A⟩ := ⟨_, rfl⟩
            obtain ⟨wa, hwa⟩ : ∃ wa, wa = wq.alloc (.cells #[.slice ro rn rc, .int .i64 (A : Nat)] 69) := ⟨_, rfl⟩
            have hqa : Below wq.heap.size wq wa := by rw [hwa]; exact below_one _ _
            have HZa := hide (HZq.out.below hqa)
            have HXr : Hid (Rw wa 0 X.a X.n X.c X.r) := by
              have h1 : Rw wa w.heap.size ro rn rc (run ent z) := HRq.out.fr (Fr.of_below (S := fun _ => False) hqa) (fun _ _ => id)
              rw [hX]; exact h1.mono (Nat.zero_le _)
            have HXn : Hid (∀ k, (Value.slice X.a X.n X.c).ownBlock = some k → w.heap.size ≤ k ∧ ¬ O k) := fun k hk => by
              rw [hX] at hk
              have h1 := (HRq.out.own hk).1
              exact ⟨h1, fun hx => by have := HOlt.out k hx; omega⟩
            have HTa : Hid (Rw wa w.heap.size ao3 m k3 (tl z)) := HTq.out.fr (Fr.of_below (S := fun _ => False) hqa) (fun _ _ => id)
            have HNews : Hid (∀ j u, (rnc X)[j]? = some u → wa.cell? ((⟨wq.heap.size, 0, none⟩ : Addr).add j) = some u) := fun j u hj => by
              rw [hX] at hj
              rw [hwa]
              match j, hj with
              | 0, hj => simp [rnc] at hj; subst hj; simp [Addr.add]
              | 1, hj => simp [rnc] at hj; subst hj; simp [Addr.add]
            have HOne := hide (rnc_ones X)
            have Hba := hide (Hbq.out.trans (hqa.mono Hbq.out.size))
            have HWa := hide hwa
            have HX := hide hX
            obtain ⟨ir, hir, hy0, hy1, hy2⟩ := info_parts infoRun
            have hk6 : (L.length + 1) * 32 ≤ 140737488355328 := by omega
            have hXl : (rnc X).length = 1 * 2 := rfl
            clear hwa hqa hX HZq HRq HTq Hbq
            go_wp2_with (first
              | (at_builtin
                 rw [← HWa.out]
                 refine wpList_append_own_at _ (by rfl) (.tmp 82) (.tmp 86) 35 (by rfl) 0 69 ir (.agg #[.slice none 0 0, .int .i64 0]) 2 32 Try.underlying35 hir hy0 hy1 hy2 rfl (by decide) _ L.length (rnv L) (by rfl) HZa.out.rr ⟨wq.heap.size, 0, none⟩ 1 1 (rnc X) (by rfl) hXl HNews.out HOne.out (by unfold maxLen; omega) hk6 (Nat.zero_le _) ?_
                 intro v6 w6 ho6 hg6 _ hl6
                 obtain ⟨vo6, vc6, rfl⟩ := owns_shape ho6
                 have HX6 := hide (HZa.out.file (x := X) HXr.out (fun k hk => (HXn.out k hk).2) ho6 hg6 (hl6.imp id (fun h k hk => by rw [h] at hk; cases hk; exact Nat.le_refl _)))
                 have c26 := HX6.out.1.c2
                 have f26 := HX6.out.1.f 2
                 have c16 : (w6.setCell ⟨q, 2, none⟩ (.slice vo6 (L.length + 1) vc6)).cell? ⟨q, 1, none⟩ = some (.slice bo bn bc) := by
                   obtain ⟨_, O6, hZ6, _⟩ := HX6.out
                   exact hZ6.zw.c1
                 clear ho6 hg6 hl6)
              | (at_builtin
                 obtain ⟨_, O6, hZ6, hF6, hG6⟩ := HX6.out
                 have hB6 : Bs (w6.setCell ⟨q, 2, none⟩ (.slice vo6 (L.length + 1) vc6)) ro rn (run ent z) := by
                   have := (hZ6.each X (by simp)).1.bs
                   rw [HX.out] at this
                   exact this
                 have hN6 : ro = none → rc = 0 := by
                   have := (hZ6.each X (by simp)).1.nil
                   rw [HX.out] at this
                   exact this
                 refine wpList_append_rw _ rfl (.tmp 94) (.tmp 95) rfl 0 bo bn bc s.1 rfl hZ6.b ro rn rc (run ent z) rfl hB6 hN6 (by omega) (Nat.zero_le _) ?_
                 intro bo7 bc7 w7 hA hg hl
                 have HX7 := hide (hZ6.lay hA hg hl)
                 have c17 := HX7.out.1.c1
                 have f17 := HX7.out.1.f 1
                 have HZ6 := hide hZ6
                 have HF6 := hide hF6
                 have HG6 := hide hG6
                 clear hA hg hl hB6 hN6 hZ6 hF6 hG6))
            go_ret2
            obtain ⟨_, O7, hZ7, hF7, hG7⟩ := HX7.out
            have hlk := HLk.out
            have hwa := Hba.out.size
            have hw6 := HF6.out.size
            have hg06 : Gr O O6 w := fun k hk => by
              rcases HG6.out k hk with h | h | h
              · exact .inl h
              · exact .inr (HXn.out k h).1
              · exact .inr (by omega)
            have hF : Fr O w (w6.setCell ⟨q, 2, none⟩ (.slice vo6 (L.length + 1) vc6)) := (Fr.of_below Hba.out).then HF6.out
            have hTO : ∀ a, ao3 = some a → 0 < m → w.heap.size ≤ a.block ∧ a.block < wa.heap.size ∧ (Value.slice ro rn rc).ownBlock ≠ some a.block := fun a ha hm => by
              have hk : (Value.slice ao3 m k3).ownBlock = some a.block := by rw [ha]; rfl
              exact ⟨(HTa.out.own hk).1, (HTa.out.own hk).2.1, HTn.out _ hk⟩
            have hT6 : Bs (w6.setCell ⟨q, 2, none⟩ (.slice vo6 (L.length + 1) vc6)) ao3 m (tl z) := HTa.out.bs.fr HF6.out (fun a ha hm hx => by
              have := hTO a ha hm
              have := HOlt.out _ hx
              omega)
            have hT7 := hT6.fr hF7 (fun a ha hm hx => by
              obtain ⟨t1, t2, t3⟩ := hTO a ha hm
              rcases HG6.out _ hx with h | h | h
              · have := HOlt.out _ h; omega
              · rw [HX.out] at h; exact t3 h
              · omega)
            rw [← HZa.out.m] at hlk
            obtain ⟨a1, a2⟩ := add_none (first := first) HRne.out hlk
            rw [HBn.out, ← HAe.out] at a1 a2
            refine ⟨ao3, k3, by rw [a1, HTl.out]; rfl, by rw [HTl.out]; exact hT7, O7, ?_, hF.gr hg06 hF7, ?_⟩
            · rw [a2]
              have hXe : (X.r, X.st) = (run ent z, A) := by rw [HX.out]
              rw [← hXe]
              exact hZ7
            · exact hg06.trans hG7 (by omega)
end Go.Proofs.Ytifmikdknifcoaa

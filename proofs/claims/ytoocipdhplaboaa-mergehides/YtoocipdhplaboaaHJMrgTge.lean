import Derived.Test.YtoocipdhplaboaaHJMrgPl
import Derived.Test.YtoocipdhplaboaaHJMrgOut
import Derived.Deep.CutRange
import Derived.Deep.CutBlock
import Derived.Deep.RegionHeld
import Derived.BigQuiet
set_option linter.unusedVariables false
namespace Go.Proofs.Ytoocipdhplaboaa
set_option maxRecDepth 100000
open Go.RowKit Go.Maps
open Nam Tre Mrg Stb Plc
theorem cell_new1 (w : World) (x : Value) (t : TypeId) : (w.alloc (.cells #[x] t)).cell? ⟨w.heap.size, 0, none⟩ = some x := by
 have h := heap_alloc_new w (.cells #[x] t)
 unfold World.cell?; rw [h]; rfl
structure Sp where
 a : Option Addr
 n : Nat
 c : Nat
def Sp.v (s : Sp) : Value := .slice s.a s.n s.c
def svs (V : List Sp) : List Value := V.map Sp.v
theorem svs_append (V U : List Sp) : svs (V ++ U) = svs V ++ svs U := by simp [svs]
theorem svs_length (V : List Sp) : (svs V).length = V.length := by simp [svs]
theorem infoPls : (Try.prog.info? 59).map (fun i => (i.zero, i.size, i.bytes)) = some (some (.slice none 0 0), 1, 24) := by kernel_rfl
theorem wpList_append_sp (w : World) {ops : Array Oper} {rest : List Oper} {o : Oper} {a : Act} {Q : Exit → Act → World → Prop} (hgd : o.guard = none) (s x : Operand)
  (ho : o.op = .call { callee := .builtin .append, args := #[s, x], argTypes := #[57, 57] })
  (base : Nat) (vo : Option Addr) (n vc : Nat) (L : List Sp) (hs : a.eval s = .slice vo n vc) (hown : w.ownsRow base 59 1 (.slice vo n vc) n (svs L))
  (p : Nat) (t : Sp) (hx : a.eval x = .slice (some ⟨p, 0, none⟩) 1 1) (hp : w.cell? ⟨p, 0, none⟩ = some (.slice t.a t.n t.c))
  (hbd : n + 1 ≤ 1000000) (hbase : base ≤ w.heap.size)
  (h : ∀ ao' c' w', w'.ownsRow base 59 1 (.slice ao' (n + 1) c') (n + 1) (svs (L ++ [t])) → w.grownBy w' (Value.slice vo n vc).ownBlock → wpList Try.prog ops Q rest (a.put o.dst (.slice ao' (n + 1) c')) w') :
  wpList Try.prog ops Q (o :: rest) a w := by
 obtain ⟨i0, hi, hz0, hz1, hz2⟩ := info_parts infoPls
 refine wpList_append_own w hgd s x _ ho base 59 i0 (.slice none 0 0) 1 24 Try.underlying57 hi hz0 hz1 hz2 rfl (by decide) _ n (svs L) hs hown ⟨p, 0, none⟩ 1 1 (svs [t]) hx (by simp [svs]) ?_ (by intro u hu; simp [svs, Sp.v] at hu; rw [hu]; rfl) (by unfold maxLen; omega) (by omega) hbase ?_
 ·intro j u hj
  match j, hj with
  | 0, hj => simp [svs, Sp.v] at hj; subst hj; simpa [Addr.add] using hp
 ·intro v' w' h2 h3 _
  obtain ⟨ao', c', rfl⟩ := owns_shape h2
  exact h ao' c' w' (by rw [svs_append]; exact h2) h3
def gsp (V : List Sp) (i : Nat) : Sp := V.getD i ⟨none, 0, 0⟩
theorem gsp_lt (V : List Sp) (i : Nat) (h : i < V.length) : gsp V i = V[i] := by simp [gsp, h]
def PsR (w : World) (ao : Option Addr) (n : Nat) (V : List Sp) (R : List (List Pl)) : Prop :=
 V.length = n ∧ R.length = n ∧ (n = 0 ∨ ∃ b off, ao = some ⟨b, off, none⟩ ∧ b < w.heap.size ∧ ∀ i, i < n → w.cell? ⟨b, off + i, none⟩ = some (.slice (gsp V i).a (gsp V i).n (gsp V i).c) ∧ (gsp V i).n ≤ (gsp V i).c ∧ Ps w (gsp V i).a (gsp V i).n (R.getD i []))
def spOf (blk cap : Nat) (v : Nat × Nat) : Sp := ⟨some ⟨blk, v.1 * 2, none⟩, v.2 - v.1, cap - v.1⟩
theorem Ps.cut {w : World} {blk n : Nat} {D : Nat → Nat} {c : Nat} (h : Ps w (some ⟨blk, 0, none⟩) n (plsD n D)) {v : Nat × Nat} (h1 : v.1 ≤ v.2) (h2 : v.2 ≤ n) : Ps w (spOf blk c v).a (spOf blk c v).n (rowOf D v) := by
 refine ⟨rowOf_length D v, ?_⟩
 by_cases e : v.2 - v.1 = 0
 ·exact .inl e
 ·rcases h.2 with h0 | ⟨b, off, h3, h4, h5⟩
  ·omega
  ·injection h3 with h3
   injection h3 with h3 h6
   subst h3; subst h6
   refine .inr ⟨blk, v.1 * 2, rfl, h4, fun i hi => ?_⟩
   have hi' : i < v.2 - v.1 := hi
   have h7 := h5 (v.1 + i) (by omega)
   rw [gq_plsD (by omega)] at h7
   have e2 : gq (rowOf D v) i = (pa (D (v.1 + i)), pb (D (v.1 + i))) := by rw [gq_lt _ _ (by rw [rowOf_length]; exact hi'), rowOf_get D v i hi']
   rw [e2]
   have a1 : 0 + (v.1 + i) * 2 = v.1 * 2 + i * 2 := by omega
   have a2 : 0 + (v.1 + i) * 2 + 1 = v.1 * 2 + i * 2 + 1 := by omega
   rw [a1, ] at h7
   exact h7
theorem Ps.grown {w w' : World} {ao bo : Option Addr} {n m c base : Nat} {l : List Pl} {xs : List Value} (h : Ps w ao n l) (ho : w.ownsRow base 59 1 (.slice bo m c) m xs) (hg : w.grownBy w' (Value.slice bo m c).ownBlock) : Ps w' ao n l := by
 refine h.keep ((KeepT.refl _ w).grown hg fun k hk cur fz he => ?_)
 obtain ⟨c2, q2⟩ := owns_obj ho hk
 rw [q2] at he
 injection he with he
 injection he with _ he _
 exact absurd he (by decide)
theorem Mrg.Cuts.len {f : Nat → List ByteArray} {D : Nat → Nat} {n : Nat} {V : List (Nat × Nat)} {fr i : Nat} (h : Cuts f D n V fr i) : ∀ v ∈ V, v.1 < v.2 ∧ v.2 ≤ n := fun v hv => by
 have h1 := h.one v hv
 have := h.le
 have := h.le2
 exact ⟨h1.1, by omega⟩
set_option maxHeartbeats 2000000 in
theorem together_any (a : Option Addr) (n c : Nat) (Q : List Ly) (w : World) (hq : NsR w a n Q) (hn : n ≤ 1000) (hs : ∀ l k, InQ Q l k → (gp Q l k).1.nn ≤ 1000000) (ht : cntP Q n ≤ 1000) (hd : ∀ t ∈ lys Q, (t.map Nod.names).Nodup) :
  Calls Try.prog 31 #[.slice a n c] w fun e w' => ∃ ao m mc V R, e = .returned (.slice ao m mc) ∧ PsR w' ao m V R ∧ m ≤ 1000 ∧ Tog (lys Q) R ∧ Below w.heap.size w w' := by
 have HQ := hide hq
 have HS := hide hs
 have HT := hide ht
 have HD := hide hd
 clear hq hs ht hd
 go_enter Try.func31, Try.ntmps31
 go_wp2_with fail
 go_loopw [3, 4, 5, 6, 12] (fun r3 _ _ _ r12 wr => ∃ (i k : Nat) (ao' : Option Addr) (c' : Nat), r12 = .int .i64 i ∧ i ≤ n ∧ r3 = .slice ao' k c' ∧ wr.ownsRow w.heap.size 62 2 (.slice ao' k c') k (pls (allP Q i)) ∧ Below w.heap.size w wr) (fun _ _ _ _ r12 _ => n - (intOf r12).toNat)
 case atStart => exact ⟨0, 0, none, 0, rfl, Nat.zero_le _, rfl, World.ownsRow_nil _ _ _ _, Below.refl _ _⟩
 case round =>
  obtain ⟨i, k, ao', c', rfl, hi0, rfl, hO, hb⟩ := hrel
  have HO := hide hO
  have HB := hide hb
  clear hO hb
  by_cases hi : i < n
  ·have hdx : decide ((i : Int) < n) = true := by simpa using hi
   have hi1 : (i : Int) < n := by omega
   obtain ⟨b, off, rfl, hbl, hc⟩ := (HQ.out.below HB.out).at (by omega)
   have c1 := hc i hi
   have hle := cntP_le Q hi
   have htt := HT.out
   obtain ⟨m, hm⟩ : ∃ m, m = (gy Q i).n := ⟨_, rfl⟩
   rw [← hm] at c1 hle
   have HM := hide hm
   have hk : k = cntP Q i := by
    have h1 := HO.out.1
    rw [pls_length, allP_length] at h1; omega
   clear hc hbl hm
   go_wp2_with fail
   go_loopw [3, 6, 19] (fun r3 _ r19 wr => ∃ (j k : Nat) (ao' : Option Addr) (c' : Nat), r19 = .int .i64 j ∧ j ≤ m ∧ r3 = .slice ao' k c' ∧ wr.ownsRow w.heap.size 62 2 (.slice ao' k c') k (pls (allP Q i ++ lyP i j)) ∧ Below w.heap.size w wr) (fun _ _ r19 _ => m - (intOf r19).toNat)
   case atStart => exact ⟨0, k, ao', c', rfl, Nat.zero_le _, rfl, by simpa [lyP] using HO.out, HB.out⟩
   case round =>
    obtain ⟨j, k2, ao2, c2, rfl, hj0, rfl, hO2, hb2⟩ := hrel
    have HO2 := hide hO2
    have HB2 := hide hb2
    have hk2 : k2 ≤ cntP Q i + j := by
     have h1 := hO2.1
     rw [pls_length, List.length_append, allP_length, lyP_length] at h1; omega
    clear hO2 hb2
    by_cases hj : j < m
    ·have hdj : decide ((j : Int) < m) = true := by simpa using hj
     go_wp2_with (at_builtin; refine wpList_append_pl _ rfl _ _ rfl w.heap.size _ _ _ (allP Q i ++ lyP i j) rfl (HO2.out.alloc _) _ (i, j) rfl (cell_new2 _ _ _ _).1 (cell_new2 _ _ _ _).2 (by omega) (by have := HB2.out.size; simp; omega) ?_)
     rintro ao3 k3 w3 ho3 hg3
     have HT3 : Hid (w3.ownsRow w.heap.size 62 2 (.slice ao3 (k2 + 1) k3) (k2 + 1) (pls (allP Q i ++ lyP i (j + 1)))) := by
      show World.ownsRow _ _ _ _ _ _ _
      rw [lyP_succ]; exact ho3
     have HB3 : Hid (Below w.heap.size w w3) := (HB2.out.alloc (HB2.out.size) _).grown hg3 (by have := HB2.out.size; simp; omega) (fun k e => (HO2.out.lt k e).1)
     clear ho3 hg3
     go_wp2
     exact ⟨⟨j + 1, k2 + 1, ao3, k3, by go_num, by omega, rfl, HT3.out, HB3.out⟩, by simp [intOf]; omega⟩
    ·have hdj : decide ((j : Int) < m) = false := by simpa using hj
     obtain rfl : j = m := by omega
     go_wp2
     refine ⟨⟨i + 1, k2, ao2, c2, by go_num, by omega, rfl, ?_, HB2.out⟩, by simp [intOf]; omega⟩
     rw [allP, ← HM.out]; exact HO2.out
  ·have hdx : decide ((i : Int) < n) = false := by simpa using hi
   obtain rfl : i = n := by omega
   have hk : k = cntP Q i := by
    have h1 := HO.out.1
    rw [pls_length, allP_length] at h1; omega
   have hk1 : k ≤ 1000 := by have := HT.out; omega
   have hkc : k ≤ c' := (cap_owns HO.out).1
   have hp65 : ∀ j, (gy Q j).n ≤ 65536 := fun j => by
    by_cases e : j < i
    ·have h1 := cntP_le Q e
     have h2 := HT.out
     omega
    ·have : gy Q j = ly0 := by
      unfold gy; rw [List.getD_eq_getElem?_getD, List.getElem?_eq_none (by have := HQ.out.1; omega)]; rfl
     rw [this]; exact Nat.zero_le _
   have hpb : ∀ p ∈ allP Q i, p.2 < 65536 := fun p hp => by
    have := (mem_allP.1 hp).2
    have := hp65 p.1
    omega
   have hlen : (allP Q i).length = k := by rw [allP_length]; exact hk.symm
   have HSO : Hid (Calls Try.prog 49 #[.slice ao' k c', .func (.func 50) #[.slice a i c] #[]] wr fun e w' => e = .returned (.tuple #[]) ∧ ∃ D, (k = 0 ∨ ∃ blk, ao' = some ⟨blk, 0, none⟩) ∧ Ps w' ao' k (plsD k D) ∧ Stb.St (ltN (nmc (lys Q))) (cdf (allP Q i)) D 0 k ∧ Below w.heap.size w w') := by
    by_cases k0 : k = 0
    ·subst k0
     refine (pSortStable_none ao' c' (.func (.func 50) #[.slice a i c] #[]) wr).mono ?_
     rintro e w' ⟨rfl, rfl⟩
     exact ⟨rfl, fun _ => 0, .inl rfl, ⟨plsD_length _ _, .inl rfl⟩, stNone 0, HB.out⟩
    ·have hO := HO.out
     rw [pls_pvs hpb, hlen] at hO
     obtain ⟨blk, c2, hv, hblk, hlt⟩ := hO.form (by omega)
     obtain ⟨rfl, _, rfl⟩ : ao' = some ⟨blk, 0, none⟩ ∧ k = k ∧ c' = c2 := by simpa using hv
     have hcmp : PCmps 50 (.slice a i c) (kcQ Q) (fun x => InQ Q (pa x) (pb x)) wr blk := fun W hW hl x y hx hy =>
      pcompare_any a i c Q x y W (HQ.out.below (HB.out.trans (hW.mono hblk))) hx hy (by omega) HS.out
     have hin : ∀ x, x < k → InQ Q (pa (cdf (allP Q i) x)) (pb (cdf (allP Q i) x)) := fun x hx => by
      have hm : gq (allP Q i) x ∈ allP Q i := by rw [gq_lt _ _ (by rw [hlen]; exact hx)]; exact List.getElem_mem _
      unfold cdf
      rw [pa_cdp (hpb _ hm), pb_cdp (hpb _ hm)]
      obtain ⟨q1, q2⟩ := mem_allP.1 hm
      exact ⟨by rw [HQ.out.1]; exact q1, q2⟩
     have hkc : kcQ Q = kcN (nmc (lys Q)) := by
      funext x y
      unfold kcQ kcN nmsAt nmc
      rw [gp_nat, gp_nat]
     rw [hkc] at hcmp
     refine (pSortStable_any wr w.heap.size blk k c' 50 (.slice a i c) (kcN (nmc (lys Q))) (ltN (nmc (lys Q))) (fun x => InQ Q (pa x) (pb x)) (cdf (allP Q i)) wr (enters _ Try.func50 (by kernel_rfl) rfl) hcmp (ltN_odr _) ⟨hO, Below.refl _ _, hlt⟩ hk1 hin ?_).mono ?_
     ·intro x y hxy hy
      have := List.pairwise_iff_getElem.1 (allP_rise hp65 i) x y (by omega) (by omega) hxy
      unfold cdf
      rw [gq_lt _ _ (by omega), gq_lt _ _ (by omega)]
      exact this
     ·rintro e w' ⟨rfl, D, hPR, hSt⟩
      refine ⟨rfl, D, .inr ⟨blk, rfl⟩, ⟨plsD_length _ _, .inr ⟨blk, 0, rfl, ?_, fun x hx => ?_⟩⟩, hSt, HB.out.trans (hPR.bel.mono hblk)⟩
      ·obtain ⟨cur, hc⟩ := owns_obj hPR.row rfl
       exact ⟨cur, _, hc⟩
      ·rw [gq_plsD hx, Nat.zero_add]
       exact hPR.cell hx
   have HTG : Hid (∀ D V, Stb.St (ltN (nmc (lys Q))) (cdf (allP Q i)) D 0 k → Cuts (nmc (lys Q)) D k V k k → Tog (lys Q) (V.map (rowOf D))) := fun D V hs hc => by
    refine tog_of HD.out (C0 := cdf (allP Q i)) (n := k) (fun x => ?_) (fun p hp => ?_) hs hc
    ·rw [← hlen, cdf_inj_in hpb, mem_allP, inq_ok HQ.out]
     unfold InQ
     rw [HQ.out.1]
    ·have h1 := ((inq_ok HQ.out p).1 hp).2
     have := hp65 p.1
     omega
   have HPB : Hid (∀ D, Stb.St (ltN (nmc (lys Q))) (cdf (allP Q i)) D 0 k → ∀ x, x < k → InQ Q (pa (D x)) (pb (D x))) := fun D hs x hx => by
    obtain ⟨y, _, y2, y3⟩ := (hs.inn (D x)).1 ⟨x, Nat.zero_le _, hx, rfl⟩
    have hm : gq (allP Q i) y ∈ allP Q i := by rw [gq_lt _ _ (by rw [hlen]; exact y2)]; exact List.getElem_mem _
    rw [← y3]
    unfold cdf
    rw [pa_cdp (hpb _ hm), pb_cdp (hpb _ hm)]
    obtain ⟨q1, q2⟩ := mem_allP.1 hm
    exact ⟨by rw [HQ.out.1]; exact q1, q2⟩
   clear hk hp65 hpb hlen HO HD HT
   go_wp2_with (go_at_call 49; refine HSO.out.mono ?_; rintro e w5 ⟨rfl, D, hfm, hP5, hSt5, hB5⟩; have HP5 := hide hP5; have HST5 := hide hSt5; have HB5 := hide hB5; clear hP5 hSt5 hB5 HSO)
   rcases hfm with hk0 | ⟨blk, rfl⟩
   ·subst hk0
    go_loopw [7, 8, 9, 36] (fun r7 _ _ r36 wr => r7 = .slice none 0 0 ∧ r36 = .int .i64 (0 : Nat) ∧ wr = w5) (fun _ _ _ _ _ => 0)
    case atStart => exact ⟨rfl, rfl, rfl⟩
    case round =>
     obtain ⟨rfl, rfl, rfl⟩ := hrel
     go_wp2
     go_ret
     exact ⟨none, 0, 0, [], [], rfl, ⟨rfl, rfl, .inl rfl⟩, by omega, HTG.out D [] HST5.out ⟨Nat.le_refl _, Nat.le_refl _, fun v hv => by simp at hv, fun x hx => by omega, List.Pairwise.nil, fun x _ _ h3 => by omega, fun _ => rfl⟩, HB5.out⟩
   ·go_loopw [7, 8, 9, 36] (fun r7 r8 _ r36 wr => ∃ (j fr m : Nat) (aR : Option Addr) (cR : Nat) (V : List (Nat × Nat)), r36 = .int .i64 j ∧ r8 = .int .i64 fr ∧ r7 = .slice aR m cR ∧ j ≤ k ∧ m ≤ j ∧ wr.ownsRow w.heap.size 59 1 (.slice aR m cR) m (svs (V.map (spOf blk c'))) ∧ Cuts (nmc (lys Q)) D k V fr j ∧ Ps wr (some ⟨blk, 0, none⟩) k (plsD k D) ∧ Below w.heap.size w wr) (fun _ _ _ r36 _ => k - (intOf r36).toNat)
    case atStart => exact ⟨0, 0, 0, none, 0, [], rfl, rfl, rfl, Nat.zero_le _, Nat.le_refl _, World.ownsRow_nil _ _ _ _, cuts_zero _ _ _, HP5.out, HB5.out⟩
    case round =>
     obtain ⟨j, fr, m, aR, cR, V, rfl, rfl, rfl, hj0, hmj, hO, hC, hP, hb⟩ := hrel
     have HO := hide hO
     have HCT := hide hC
     have HP := hide hP
     have HB := hide hb
     have hfr := hC.le
     clear hO hC hP hb
     by_cases hj : j < k
     ·have hdj : decide ((j : Int) < k) = true := by simpa using hj
      have hj1 : (j : Int) < k := by omega
      have hx1 : IntKind.i64.wrap ((j : Int) + 1) = ((j + 1 : Nat) : Int) := by rw [IntWalk.i64_in _ (by omega)]; omega
      have hx2 : (0 : Int) ≤ (fr : Int) := by omega
      have hx3 : (fr : Int) ≤ ((j + 1 : Nat) : Int) := by omega
      have hx4 : ((j + 1 : Nat) : Int) ≤ (c' : Int) := by omega
      have hx5 : (0 : Int) ≤ (j : Int) + 1 := by omega
      have hx6 : (fr : Int) ≤ (j : Int) + 1 := by omega
      have hx7 : (j : Int) + 1 ≤ (c' : Int) := by omega
      by_cases e1 : j + 1 = k
      ·have hde2 : ((j : Int) + 1 == (k : Int)) = true := by simp; omega
       have HCC := hide (HCT.out.cut hj (fun h => absurd h (by omega)))
       have E1 := hide e1
       clear e1 hx6 hx5
       go_upto_region 17 with fail
       go_region
       obtain ⟨w3, hw3⟩ : ∃ w3, w3 = wr.drew := ⟨_, rfl⟩
       rw [← hw3]
       have HO8 : Hid (w3.ownsRow w.heap.size 59 1 (.slice aR m cR) m (svs (V.map (spOf blk c')))) := by rw [hw3]; exact HO.out
       have HP8 : Hid (Ps w3 (some ⟨blk, 0, none⟩) k (plsD k D)) := by rw [hw3]; exact HP.out.below (Below.refl _ _).drew
       have HB8 : Hid (Below w.heap.size w w3) := by rw [hw3]; exact HB.out.drew
       clear hw3
       go_wp2_with (at_builtin; refine wpList_append_sp _ rfl _ _ rfl w.heap.size _ _ _ (V.map (spOf blk c')) rfl (HO8.out.alloc _) _ (spOf blk c' (fr, j + 1)) rfl ?_ (by omega) (by have := HB8.out.size; simp; omega) ?_)
       ·exact cell_new1 _ _ _
       rintro ao3 k3 w7 ho3 hg3
       have HO7 : Hid (w7.ownsRow w.heap.size 59 1 (.slice ao3 (m + 1) k3) (m + 1) (svs ((V ++ [(fr, j + 1)]).map (spOf blk c')))) := by
        show World.ownsRow _ _ _ _ _ _ _
        rw [List.map_append]; exact ho3
       have HP7 : Hid (Ps w7 (some ⟨blk, 0, none⟩) k (plsD k D)) := (HP8.out.below (below_one _ _)).grown (HO8.out.alloc _) hg3
       have HB7 : Hid (Below w.heap.size w w7) := (HB8.out.alloc (HB8.out.size) _).grown hg3 (by have := HB8.out.size; simp; omega) (fun k e => (HO8.out.lt k e).1)
       clear ho3 hg3
       go_wp2
       exact ⟨⟨j + 1, j + 1, m + 1, ao3, k3, V ++ [(fr, j + 1)], by go_num, by go_num, rfl, by omega, by omega, HO7.out, HCC.out, HP7.out, HB7.out⟩, by simp [intOf]; omega⟩
      ·have hde2 : ((j : Int) + 1 == (k : Int)) = false := by simp; omega
       have hj3 : (j : Int) + 1 < k := by omega
       have hj2 : ((j + 1 : Nat) : Int) < k := by omega
       have hi1 := HPB.out D HST5.out j hj
       have hi2 := HPB.out D HST5.out (j + 1) (by omega)
       have HCM : Hid (∀ W, Below w.heap.size w W → Calls Try.prog 50 #[.slice a i c, .agg #[.int .i64 (pa (D j) : Int), .int .i64 (pb (D j) : Int)], .agg #[.int .i64 (pa (D (j + 1)) : Int), .int .i64 (pb (D (j + 1)) : Int)]] W fun e w' => e = .returned (.int .i64 (kcQ Q (D j) (D (j + 1)))) ∧ Below W.heap.size W w') := fun W hW => pcompare_any a i c Q (D j) (D (j + 1)) W (HQ.out.below hW) hi1 hi2 (by omega) HS.out
       have hcell : ∀ W, Below wr.heap.size wr W → W.cell? ⟨blk, j * 2, none⟩ = some (.int .i64 (pa (D j) : Int)) ∧ W.cell? ⟨blk, j * 2 + 1, none⟩ = some (.int .i64 (pb (D j) : Int)) ∧ W.cell? ⟨blk, (j + 1) * 2, none⟩ = some (.int .i64 (pa (D (j + 1)) : Int)) ∧ W.cell? ⟨blk, (j + 1) * 2 + 1, none⟩ = some (.int .i64 (pb (D (j + 1)) : Int)) := fun W hW => by
        obtain ⟨b0, o0, h1, _, h2⟩ := (HP.out.below hW).at (by omega)
        injection h1 with h1
        injection h1 with h1 h3
        subst h1; subst h3
        have q1 := h2 j hj
        have q2 := h2 (j + 1) (by omega)
        rw [gq_plsD hj, Nat.zero_add] at q1
        rw [gq_plsD (by omega), Nat.zero_add] at q2
        exact ⟨q1.1, q1.2, q2.1, q2.2⟩
       have HCELL := hide hcell
       have HZ : Hid (kcQ Q (D j) (D (j + 1)) = 0 ↔ nmc (lys Q) (D j) = nmc (lys Q) (D (j + 1))) := by
        have := kcN_zero (nmc (lys Q)) (D j) (D (j + 1))
        have e : kcN (nmc (lys Q)) (D j) (D (j + 1)) = kcQ Q (D j) (D (j + 1)) := by unfold kcQ kcN nmsAt nmc; rw [gp_nat, gp_nat]
        rw [e] at this
        exact this
       generalize kcQ Q (D j) (D (j + 1)) = z at *
       generalize pa (D j) = xa at *
       generalize pb (D j) = xb at *
       generalize pa (D (j + 1)) = ya at *
       generalize pb (D (j + 1)) = yb at *
       have HS0 := hide (HCELL.out wr (Below.refl _ _))
       have HB0 := hide (Below.refl wr.heap.size wr)
       clear hcell hi1 hi2
       go_upto_region 17 with fail
       go_region_held3 (fun wX => wX.cell? ⟨blk, j * 2, none⟩ = some (.int .i64 (xa : Int)) ∧ wX.cell? ⟨blk, j * 2 + 1, none⟩ = some (.int .i64 (xb : Int)) ∧ wX.cell? ⟨blk, (j + 1) * 2, none⟩ = some (.int .i64 (ya : Int)) ∧ wX.cell? ⟨blk, (j + 1) * 2 + 1, none⟩ = some (.int .i64 (yb : Int))) (first | exact HS0.out | exact HS3.out)
        ((go_at_call 50; refine (HCM.out _ (HB.out.trans (Below.mono (by first | exact HB0.out | exact HB0.out.drew) HB.out.size))).mono ?_; rintro e w3 ⟨rfl, hb3⟩; have HB3 : Hid (Below wr.heap.size wr w3) := (by first | exact hb3 | exact HB0.out.drew.trans hb3); have HS3 := hide (HCELL.out _ HB3.out); clear hb3))
       all_goals (
        rename_i hHd
        clear hHd HS0 HS3 HCELL HCM HB0)
       have HO8 := hide (owns_below HO.out HB3.out)
       have HP8 := hide (HP.out.below HB3.out)
       have HB8 := hide (HB.out.trans (HB3.out.mono HB.out.size))
       by_cases hz : z = 0
       ·have hzb : (z != 0) = false := by simp [hz]
        have HCC := hide (HCT.out.more (by omega) (HZ.out.1 hz))
        go_wp2
        exact ⟨⟨j + 1, fr, m, aR, cR, V, by go_num, rfl, rfl, by omega, by omega, HO8.out, HCC.out, HP8.out, HB8.out⟩, by simp [intOf]; omega⟩
       ·have hzb : (z != 0) = true := by simpa using hz
        have HCC := hide (HCT.out.cut hj (fun _ e => hz (HZ.out.2 e)))
        go_wp2_with (at_builtin; refine wpList_append_sp _ rfl _ _ rfl w.heap.size _ _ _ (V.map (spOf blk c')) rfl (HO8.out.alloc _) _ (spOf blk c' (fr, j + 1)) rfl ?_ (by omega) (by have := HB8.out.size; simp; omega) ?_)
        ·exact cell_new1 _ _ _
        rintro ao3 k3 w7 ho3 hg3
        have HO7 : Hid (w7.ownsRow w.heap.size 59 1 (.slice ao3 (m + 1) k3) (m + 1) (svs ((V ++ [(fr, j + 1)]).map (spOf blk c')))) := by
         show World.ownsRow _ _ _ _ _ _ _
         rw [List.map_append]; exact ho3
        have HP7 : Hid (Ps w7 (some ⟨blk, 0, none⟩) k (plsD k D)) := (HP8.out.below (below_one _ _)).grown (HO8.out.alloc _) hg3
        have HB7 : Hid (Below w.heap.size w w7) := (HB8.out.alloc (HB8.out.size) _).grown hg3 (by have := HB8.out.size; simp; omega) (fun k e => (HO8.out.lt k e).1)
        clear ho3 hg3
        go_wp2
        exact ⟨⟨j + 1, j + 1, m + 1, ao3, k3, V ++ [(fr, j + 1)], by go_num, by go_num, rfl, by omega, by omega, HO7.out, HCC.out, HP7.out, HB7.out⟩, by simp [intOf]; omega⟩
     ·have hdj : decide ((j : Int) < k) = false := by simpa using hj
      obtain rfl : j = k := by omega
      have hfn : fr = j := HCT.out.fin rfl
      subst hfn
      have HTF := hide (HTG.out D V HST5.out HCT.out)
      have hml : V.length = m := by have := HO.out.1; rw [svs_length, List.length_map] at this; omega
      have HR : Hid (PsR wr aR m (V.map (spOf blk c')) (V.map (rowOf D))) := by
       refine ⟨by simpa using hml, by simpa using hml, ?_⟩
       by_cases e0 : m = 0
       ·exact .inl e0
       ·obtain ⟨g, c2, hv, hg0, hlt⟩ := HO.out.form (by omega)
        obtain ⟨rfl, _, rfl⟩ : aR = some ⟨g, 0, none⟩ ∧ m = m ∧ cR = c2 := by simpa using hv
        refine .inr ⟨g, 0, rfl, hlt, fun x hx => ?_⟩
        have hxv : x < V.length := by omega
        have e2 : gsp (V.map (spOf blk c')) x = spOf blk c' V[x] := by rw [gsp_lt _ _ (by simpa using hxv)]; simp
        obtain ⟨l1, l2⟩ := HCT.out.len _ (List.getElem_mem hxv)
        rw [e2]
        refine ⟨?_, by show V[x].2 - V[x].1 ≤ c' - V[x].1; omega, ?_⟩
        ·rw [Nat.zero_add, HO.out.cellAt x (by omega)]
         simp [svs, Sp.v, hxv]
        ·have e3 : (V.map (rowOf D)).getD x [] = rowOf D V[x] := by simp [hxv]
         rw [e3]
         exact HP.out.cut (by omega) l2
      clear HO HCT HP
      go_wp2
      go_ret
      exact ⟨_, _, _, _, _, rfl, HR.out, by omega, HTF.out, HB.out⟩
end Go.Proofs.Ytoocipdhplaboaa
namespace Go.Proofs.Ytoocipdhplaboaa
open Go.RowKit Go.Maps
open Nam Tre Mrg Stb Plc
theorem jn_valid16 {S : List ByteArray} (h : ∀ x ∈ nm S, valid x = 0) (hn : S.length ≤ 30) : (jn S).length ≤ 1000000000 := by
 have := join_length (nm S) (fun n hn => (valid_zero (h n hn)).1)
 rw [nm_length] at this
 unfold jn
 omega
namespace Mrg
def kyn (m : List ByteArray) : ByteArray := ⟨(join (nm m)).toArray⟩
def ValN (m : List ByteArray) : Prop := (∀ x ∈ nm m, valid x = 0) ∧ m.length ≤ 16
theorem kyn_inj {m k : List ByteArray} (h1 : ValN m) (h2 : ValN k) (e : kyn m = kyn k) : m = k := by
 have e2 : join (nm m) = join (nm k) := by
  unfold kyn at e
  injection e with e
  exact List.toArray_inj e
 exact nm_inj (join_inj h1.1 h2.1 e2)
theorem valN_of {L : List (List Nod)} (hB : ∀ t ∈ L, Br t) {p : Pl} (hp : PlOk L p) : ValN (nat' L p).names := by
 have hm := nat_mem hp
 have ht := ly_mem hp.1
 refine ⟨fun x hx => ?_, ?_⟩
 ·simp only [nm, List.mem_map] at hx
  obtain ⟨s, hs, rfl⟩ := hx
  exact fv_zero _ ((hB _ ht).wrong _ hm) s hs
 ·have := (hB _ ht).deep _ hm
  unfold deep at this
  simpa using this
theorem ValN.drop {m : List ByteArray} (h : ValN m) : ValN m.dropLast := by
 refine ⟨fun x hx => ?_, by have := h.2; simp; omega⟩
 simp only [nm, List.mem_map] at hx
 obtain ⟨s, hs, rfl⟩ := hx
 exact h.1 _ (List.mem_map.2 ⟨s, List.dropLast_subset _ hs, rfl⟩)
theorem ValN.len {m : List ByteArray} (h : ValN m) : (jn m).length ≤ 1000000000 := jn_valid16 h.1 (by have := h.2; omega)
theorem kyn_size {m : List ByteArray} (h : ValN m) : (kyn m).size ≤ maxLen := by
 have h1 : (kyn m).size = (join (nm m)).length := by unfold kyn; simp [ByteArray.size]
 rw [h1]
 have h2 := h.len
 by_cases e : m = []
 ·subst e; simp [join, nm, maxLen]
 ·rw [join_jn m e]; unfold maxLen; omega
theorem Tog.val {L : List (List Nod)} (hB : ∀ t ∈ L, Br t) {R : List (List Pl)} (h : Tog L R) {r : List Pl} (hr : r ∈ R) : ValN (nmr L r) := by
 obtain ⟨p, t, rfl, h2⟩ := h.one r hr
 exact valN_of hB ((h2.mem p).1 (by simp)).1
def rw' (R : List (List Pl)) (i : Nat) : List Pl := R.getD i []
theorem rw_lt {R : List (List Pl)} {i : Nat} (h : i < R.length) : rw' R i = R[i] := by simp [rw', h]
theorem rw_mem {R : List (List Pl)} {i : Nat} (h : i < R.length) : rw' R i ∈ R := by rw [rw_lt h]; exact List.getElem_mem _
theorem dirOf_nil {L : List (List Nod)} {R : List (List Pl)} (h : Tog L R) (hB : ∀ t ∈ L, Br t) {m : List ByteArray} (hn : ∀ r ∈ R, nmr L r ≠ m) : dirOf L m = [] := by
 unfold dirOf
 cases e : srcs L m with
 | nil => simp
 | cons i q =>
  have hi : i < L.length := srcs_lt hB i (by rw [e]; simp)
  cases hf : Mrg.fnd (ly L i) m with
  | none => simp [hf]
  | some n =>
   exfalso
   obtain ⟨h1, h2⟩ := fnd_some hf
   obtain ⟨k, k1, k2⟩ := nat_of hi h1
   obtain ⟨r, hr, hp⟩ := h.all _ k1
   have e2 := (((h.row hr).1.mem _).1 hp).2
   rw [k2, h2] at e2
   exact hn r hr e2.symm
end Mrg
structure DirM (L : List (List Nod)) (R : List (List Pl)) (w : World) (F : ByteArray → Option Value) (i : Nat) : Prop where
 some : ∀ j, j < i → j < R.length → ∀ v, F (kyn (nmr L (rw' R j))) = some v → ∃ ao k c D, v = .slice ao k c ∧ Ps w ao k D ∧ k ≤ 1000000 ∧ D.map (·.1) = dirOf L (nmr L (rw' R j))
 none : ∀ j, j < i → j < R.length → F (kyn (nmr L (rw' R j))) = none → dirOf L (nmr L (rw' R j)) = []
 new : ∀ s, (F s).isSome = true → ∃ j, j < i ∧ j < R.length ∧ s = kyn (nmr L (rw' R j))
theorem dirM_new (L : List (List Nod)) (R : List (List Pl)) (w : World) : DirM L R w (fun _ => none) 0 := ⟨fun j hj => by omega, fun j hj => by omega, fun s hs => by simp at hs⟩
theorem DirM.keep {L : List (List Nod)} {R : List (List Pl)} {w w' : World} {F : ByteArray → Option Value} {i : Nat} (h : DirM L R w F i) (hk : KeepT 62 w w') : DirM L R w' F i :=
 ⟨fun j h1 h2 v hv => by
  obtain ⟨ao, k, c, D, e1, e2, e3, e4⟩ := h.some j h1 h2 v hv
  exact ⟨ao, k, c, D, e1, e2.keep hk, e3, e4⟩, h.none, h.new⟩
theorem DirM.look {L : List (List Nod)} (hB : ∀ t ∈ L, Br t) {R : List (List Pl)} (hT : Tog L R) {w : World} {F : ByteArray → Option Value} {i : Nat} (h : DirM L R w F i) (hi : i < R.length) (hm : nmr L (rw' R i) ≠ []) :
  ∃ ao k c D, (F (kyn (nmr L (rw' R i)).dropLast)).getD (.slice Option.none 0 0) = .slice ao k c ∧ Ps w ao k D ∧ k ≤ 1000000 ∧ D.map (·.1) = dirOf L (nmr L (rw' R i)).dropLast := by
 have hv := (hT.val hB (rw_mem hi)).drop
 cases e : F (kyn (nmr L (rw' R i)).dropLast) with
 | some v =>
  obtain ⟨j, j1, j2, j3⟩ := h.new _ (by rw [e]; rfl)
  have hj := kyn_inj hv (hT.val hB (rw_mem j2)) j3
  rw [hj] at e ⊢
  obtain ⟨ao, k, c, D, e1, e2, e3, e4⟩ := h.some j j1 j2 v e
  exact ⟨ao, k, c, D, e1, e2, e3, e4⟩
 | none =>
  refine ⟨Option.none, 0, 0, [], rfl, Ps.nil _ _, by omega, ?_⟩
  by_cases hr : ∃ r ∈ R, nmr L r = (nmr L (rw' R i)).dropLast
  ·obtain ⟨r, hr, er⟩ := hr
   obtain ⟨j, hj, rfl⟩ := List.getElem_of_mem hr
   have hl := less_drop hm
   rw [← er] at hl
   have hji : j < i := by
    rcases Nat.lt_trichotomy j i with q | q | q
    ·exact q
    ·subst q
     rw [← rw_lt hj, less_irrefl] at hl; cases hl
    ·have := List.pairwise_iff_getElem.1 hT.ltN i j hi hj q
     rw [← rw_lt hi] at this
     rw [less_asymm _ _ this] at hl; cases hl
   rw [← rw_lt hj] at er
   rw [← er] at e ⊢
   exact (h.none j hji hj e).symm
  ·exact (dirOf_nil hT hB (fun r hr' er => hr ⟨r, hr', er⟩)).symm
theorem Mrg.Tog.ne {L : List (List Nod)} {R : List (List Pl)} (hT : Tog L R) {i j : Nat} (h : j < i) (hi : i < R.length) : nmr L (rw' R j) ≠ nmr L (rw' R i) := fun e => by
 have := List.pairwise_iff_getElem.1 hT.ltN j i (by omega) hi h
 rw [← rw_lt hi, ← rw_lt (show j < R.length by omega), e, less_irrefl] at this
 cases this
theorem DirM.put {L : List (List Nod)} (hB : ∀ t ∈ L, Br t) {R : List (List Pl)} (hT : Tog L R) {w : World} {F : ByteArray → Option Value} {i : Nat} (h : DirM L R w F i) (hi : i < R.length) {ao : Option Addr} {k c : Nat} {D : List Pl} (hP : Ps w ao k D) (hk : k ≤ 1000000) (hD : D.map (·.1) = dirOf L (nmr L (rw' R i))) :
  DirM L R w (fun y => if y = kyn (nmr L (rw' R i)) then Option.some (.slice ao k c) else F y) (i + 1) := by
 have ne : ∀ j, j < i → kyn (nmr L (rw' R j)) ≠ kyn (nmr L (rw' R i)) := fun j hj e => hT.ne hj hi (kyn_inj (hT.val hB (rw_mem (by omega))) (hT.val hB (rw_mem hi)) e)
 refine ⟨fun j h1 h2 v hv => ?_, fun j h1 h2 hv => ?_, fun s hs => ?_⟩
 ·by_cases e : j = i
  ·subst e
   simp at hv
   exact ⟨ao, k, c, D, hv.symm, hP, hk, hD⟩
  ·rw [if_neg (ne j (by omega))] at hv
   exact h.some j (by omega) h2 v hv
 ·by_cases e : j = i
  ·subst e
   simp at hv
  ·rw [if_neg (ne j (by omega))] at hv
   exact h.none j (by omega) h2 hv
 ·by_cases e : s = kyn (nmr L (rw' R i))
  ·exact ⟨i, by omega, hi, e⟩
  ·rw [if_neg e] at hs
   obtain ⟨j, j1, j2, j3⟩ := h.new s hs
   exact ⟨j, by omega, j2, j3⟩
theorem DirM.skip {L : List (List Nod)} (hB : ∀ t ∈ L, Br t) {R : List (List Pl)} (hT : Tog L R) {w : World} {F : ByteArray → Option Value} {i : Nat} (h : DirM L R w F i) (hi : i < R.length) (hD : dirOf L (nmr L (rw' R i)) = []) : DirM L R w F (i + 1) := by
 refine ⟨fun j h1 h2 v hv => ?_, fun j h1 h2 hv => ?_, fun s hs => ?_⟩
 ·by_cases e : j = i
  ·subst e
   obtain ⟨j', j1, j2, j3⟩ := h.new _ (by rw [hv]; rfl)
   exact absurd (kyn_inj (hT.val hB (rw_mem hi)) (hT.val hB (rw_mem j2)) j3).symm (hT.ne j1 hi)
  ·exact h.some j (by omega) h2 v hv
 ·by_cases e : j = i
  ·subst e; exact hD
  ·exact h.none j (by omega) h2 hv
 ·obtain ⟨j, j1, j2, j3⟩ := h.new s hs
  exact ⟨j, by omega, j2, j3⟩
end Go.Proofs.Ytoocipdhplaboaa
namespace Go.Proofs.Ytoocipdhplaboaa
set_option maxRecDepth 100000
open Go.RowKit Go.Maps
open Nam Tre Mrg Stb Plc
def KeepCl (W w : World) : Prop := ∀ (k : Nat) (cs : Array Value) (t : TypeId) (fz : Nat × Nat), W.heap[k]? = some (Obj.cells cs t fz) → w.heap[k]? = some (Obj.cells cs t fz)
structure MI (L : List (List Nod)) (R : List (List Pl)) (w0 W5 : World) (db p mb d : Nat) (ks : List Lit) (am : Option Addr) (km cm : Nat) (P : List (Nv × Nod)) (F : ByteArray → Option Value) (sz : Nat) (wr : World) : Prop where
 cells : KeepCl W5 wr
 bel : Below w0.heap.size w0 wr
 size : W5.heap.size ≤ wr.heap.size
 le : w0.heap.size ≤ W5.heap.size
 dbl : w0.heap.size ≤ db
 mbl : w0.heap.size ≤ mb
 ne : mb ≠ db
 pl : p < W5.heap.size
 nu : NU wr p mb ks
 mp : MpS wr db sz F
 dir : DirM L R wr F d
 row : wr.ownsRow W5.heap.size 44 10 (.slice am km cm) km (nvs (P.map (·.1)))
 rep : ∀ q ∈ P, RepO wr W5.heap.size q.1 q.2
section
variable {L : List (List Nod)} {R : List (List Pl)} {w0 W5 wr wx : World} {db p mb d : Nat} {ks : List Lit} {am : Option Addr} {km cm : Nat} {P : List (Nv × Nod)} {F : ByteArray → Option Value} {sz : Nat}
theorem keepT_all (h : KeepCl wr wx) (e : TypeId) : KeepT e wr wx := fun i cur fz hi => h i cur e fz hi
theorem MI.to (h : MI L R w0 W5 db p mb d ks am km cm P F sz wr) (hc : KeepCl wr wx) (hb : Below w0.heap.size w0 wx) (hs : wr.heap.size ≤ wx.heap.size) {ks' : List Lit} (hn : NU wx p mb ks') {F' : ByteArray → Option Value} {sz' d' : Nat} (hm : MpS wx db sz' F') (hd : DirM L R wx F' d') : MI L R w0 W5 db p mb d' ks' am km cm P F' sz' wx :=
 ⟨fun k cs t fz hk => hc k cs t fz (h.cells k cs t fz hk), hb, Nat.le_trans h.size hs, h.le, h.dbl, h.mbl, h.ne, h.pl, hn, hm, hd, (keepT_all hc _).owns h.row, fun q hq => (h.rep q hq).keep (keepT_all hc _) (keepT_all hc _) (keepT_all hc _)⟩
theorem keepCl_below (hb : Below wr.heap.size wr wx) : KeepCl wr wx := fun k cs t fz hk => (hb.block k (heap_lt hk)).trans hk
theorem MI.below (h : MI L R w0 W5 db p mb d ks am km cm P F sz wr) (hb : Below wr.heap.size wr wx) : MI L R w0 W5 db p mb d ks am km cm P F sz wx :=
 h.to (keepCl_below hb) (h.bel.trans (hb.mono h.bel.size)) hb.size (h.nu.below hb) (h.mp.same (hb.block _ h.mp.lt)) (h.dir.keep (keepT_all (keepCl_below hb) _))
theorem MpS.ne (h : MpS wr db sz F) {c : Nat} {cs : Array Value} {t : TypeId} {fz : Nat × Nat} (hk : wr.heap[c]? = some (.cells cs t fz)) : c ≠ db := by
 obtain ⟨G, h1, _⟩ := h
 exact h1.ne hk
theorem NU.mne (h : NU wr p mb ks) {c : Nat} {cs : Array Value} {t : TypeId} {fz : Nat × Nat} (hk : wr.heap[c]? = some (.cells cs t fz)) : c ≠ mb := fun e => by
 obtain ⟨D, ⟨es, clock, h1, _⟩, _⟩ := h.mp
 rw [e, h1] at hk
 cases hk
theorem MI.mapped (h : MI L R w0 W5 db p mb d ks am km cm P F sz wr) (hg : wr.grownBy wx (some db)) {F' : ByteArray → Option Value} {sz' d' : Nat} (hm : MpS wx db sz' F') (hd : DirM L R wx F' d') : MI L R w0 W5 db p mb d' ks am km cm P F' sz' wx := by
 have hc : KeepCl wr wx := fun k cs t fz hk => (hg.block k (heap_lt hk) (by have := h.mp.ne hk; simp; exact this)).trans hk
 have hp : p < wr.heap.size := World.block_lt_of_cell? wr _ h.nu.cell
 have hpc : wx.heap[p]? = wr.heap[p]? := hg.block p hp (by
  simp
  intro e
  obtain ⟨G, ⟨D, ⟨es, clock, h1, _⟩, _⟩, _⟩ := h.mp
  have := h.nu.cell
  rw [e] at this
  unfold World.cell? at this
  rw [h1] at this
  simp at this)
 exact h.to hc (h.bel.grown hg h.bel.size (fun k e => by cases e; exact h.dbl)) hg.size (h.nu.cells hpc (hg.block _ h.nu.mp.lt (by simp; exact h.ne))) hm hd
theorem MI.num (h : MI L R w0 W5 db p mb d ks am km cm P F sz wr) (hg : wr.grownBy wx (some mb)) {ks' : List Lit} (hn : NU wx p mb ks') : MI L R w0 W5 db p mb d ks' am km cm P F sz wx := by
 have hc : KeepCl wr wx := fun k cs t fz hk => (hg.block k (heap_lt hk) (by have := h.nu.mne hk; simp; exact this)).trans hk
 exact h.to hc (h.bel.grown hg h.bel.size (fun k e => by cases e; exact h.mbl)) hg.size hn (h.mp.same (hg.block _ h.mp.lt (by simp; exact fun e => h.ne e.symm))) (h.dir.keep (keepT_all hc _))
theorem MI.cell (h : MI L R w0 W5 db p mb d ks am km cm P F sz wr) {q : Nat} {cs : Array Value} {fz : Nat × Nat} (hq : wr.heap[q]? = some (.cells cs 44 fz)) (h5 : W5.heap.size ≤ q) (hne : (Value.slice am km cm).ownBlock ≠ some q) (k : Nat) (v : Value) : MI L R w0 W5 db p mb d ks am km cm P F sz (wr.setCell ⟨q, k, none⟩ v) := by
 have hb : ∀ i, i ≠ q → (wr.setCell ⟨q, k, none⟩ v).heap[i]? = wr.heap[i]? := fun i hi => set_other _ _ _ _ _ hi
 have kt : ∀ e, e ≠ 44 → KeepT e wr (wr.setCell ⟨q, k, none⟩ v) := fun e he i cur fz' hi => by
  rw [hb i (fun e2 => by
   rw [e2, hq] at hi
   injection hi with hi
   injection hi with _ hi _
   exact he hi.symm)]
  exact hi
 have hp : p ≠ q := by have := h.pl; omega
 have hm : mb ≠ q := fun e => h.nu.mne hq e.symm
 have hd : db ≠ q := fun e => h.mp.ne hq e.symm
 refine ⟨fun i cs' t fz' hi => ?_, h.bel.setCell (p := ⟨q, k, none⟩) (by show w0.heap.size ≤ q; have := h.le; omega) _, by simp; exact h.size, h.le, h.dbl, h.mbl, h.ne, h.pl, h.nu.cells (hb _ hp) (hb _ hm), h.mp.same (hb _ hd), h.dir.keep (kt _ (by decide)), ?_, fun x hx => (h.rep x hx).keep (kt _ (by decide)) (kt _ (by decide)) (kt _ (by decide))⟩
 ·have := heap_lt hi
  rw [hb i (by omega)]
  exact h.cells i cs' t fz' hi
 ·refine ⟨h.row.1, ?_⟩
  rcases h.row.2 with h0 | ⟨g, cap, cur, e1, e2, e3, r⟩
  ·exact .inl h0
  ·have hgq : g ≠ q := fun e => hne (by rw [e1, ← e]; rfl)
   exact .inr ⟨g, cap, cur, e1, e2, (hb _ hgq).trans e3, r⟩
theorem MI.app (h : MI L R w0 W5 db p mb d ks am km cm P F sz wr) (hg : wr.grownBy wx (Value.slice am km cm).ownBlock) {am' : Option Addr} {cm' : Nat} {u : Nv} {x : Nod} (hr : RepO wr W5.heap.size u x) (ho : wx.ownsRow W5.heap.size 44 10 (.slice am' (km + 1) cm') (km + 1) (nvs (P.map (·.1) ++ [u]))) : MI L R w0 W5 db p mb d ks am' (km + 1) cm' (P ++ [(u, x)]) F sz wx := by
 have own : ∀ i, (Value.slice am km cm).ownBlock = some i → W5.heap.size ≤ i ∧ ∃ cur, wr.heap[i]? = some (.cells cur 44 (0, 0)) := fun i hi => ⟨(h.row.lt i hi).1, owns_obj h.row hi⟩
 have kt : ∀ e, e ≠ 44 → KeepT e wr wx := fun e he => (KeepT.refl e wr).grown hg fun k hk cur fz hh => by
  obtain ⟨_, c2, q2⟩ := own k hk
  rw [q2] at hh
  injection hh with hh
  injection hh with _ hh _
  exact he hh.symm
 have hp : wx.heap[p]? = wr.heap[p]? := hg.block p (World.block_lt_of_cell? wr _ h.nu.cell) (fun e => by have := (own p e.symm).1; have := h.pl; omega)
 have hm : wx.heap[mb]? = wr.heap[mb]? := hg.block mb h.nu.mp.lt (fun e => by obtain ⟨_, c, q⟩ := own mb e.symm; exact h.nu.mne q rfl)
 have hd : wx.heap[db]? = wr.heap[db]? := hg.block db h.mp.lt (fun e => by obtain ⟨_, c, q⟩ := own db e.symm; exact h.mp.ne q rfl)
 refine ⟨fun i cs' t fz' hi => ?_, h.bel.grown hg h.bel.size (fun k e => Nat.le_trans h.le (own k e).1), Nat.le_trans h.size hg.size, h.le, h.dbl, h.mbl, h.ne, h.pl, h.nu.cells hp hm, h.mp.same hd, h.dir.keep (kt _ (by decide)), by rw [List.map_append]; exact ho, fun y hy => ?_⟩
 ·have hlt := heap_lt hi
  have hw := h.cells i cs' t fz' hi
  rw [hg.block i (heap_lt hw) (fun e => by have := (own i e.symm).1; omega)]
  exact hw
 ·rcases List.mem_append.1 hy with hy | hy
  ·exact (h.rep y hy).keep (kt _ (by decide)) (kt _ (by decide)) (kt _ (by decide))
  ·rw [List.mem_singleton.1 hy]
   exact hr.keep (kt _ (by decide)) (kt _ (by decide)) (kt _ (by decide))
theorem KeepCl.psr {W w : World} (h : KeepCl W w) (hs : W.heap.size ≤ w.heap.size) {ao : Option Addr} {n : Nat} {V : List Sp} {R : List (List Pl)} (hp : PsR W ao n V R) : PsR w ao n V R := by
 refine ⟨hp.1, hp.2.1, ?_⟩
 rcases hp.2.2 with h0 | ⟨b, off, h1, h2, h3⟩
 ·exact .inl h0
 ·refine .inr ⟨b, off, h1, by omega, fun i hi => ⟨?_, (h3 i hi).2.1, (h3 i hi).2.2.keep (keepT_all h _)⟩⟩
  have hc := (h3 i hi).1
  have : w.heap[b]? = W.heap[b]? := by
   unfold World.cell? at hc
   cases e : W.heap[b]? with
   | none => rw [e] at hc; simp at hc
   | some o =>
    cases o with
    | cells cs t fz => exact h b cs t fz e
    | _ => rw [e] at hc; simp at hc
  exact (World.cell?_of_block this).trans hc
end
end Go.Proofs.Ytoocipdhplaboaa
namespace Go.Proofs.Ytoocipdhplaboaa
set_option maxRecDepth 100000
open Go.RowKit Go.Maps
open Nam Tre Mrg Stb Plc
theorem leanB_of {w : World} {v : Nv} {x : Nod} (hr : Rep w v x) (hm : mayB x = true) (hs : x.names.length ≤ 16) : Lean1 v x := by
 unfold mayB at hm
 split at hm
 ·simp only [decide_eq_true_eq] at hm
  obtain ⟨_, h1, _, h2, _⟩ := hm
  refine ⟨by rw [← hr.names.1]; omega, by rw [← hr.data.1]; omega, by rw [← hr.xs.1]; omega, fun y hy => ?_⟩
  have : x.xs = [] := List.eq_nil_of_length_eq_zero h2
  rw [this] at hy; simp at hy
 ·split at hm
  ·have hr' : Rep w { v with op := false } { x with opq := false } := { hr with op := rfl }
   have := lean_of hr' hm hs
   exact ⟨this.nn, this.dn, this.xn, this.xv⟩
  ·exact lean_of hr hm hs
theorem rise_len : ∀ {l : List Nat} {n : Nat}, l.Pairwise (· < ·) → (∀ x ∈ l, x < n) → l.length ≤ n
 | [], _, _, _ => Nat.zero_le _
 | x :: r, 0, _, h => by have := h x (by simp); omega
 | x :: r, n + 1, hp, h => by
  rw [List.pairwise_cons] at hp
  have h2 : ∀ y ∈ r.map (· - 1), y < n := fun y hy => by
   obtain ⟨z, hz, rfl⟩ := List.mem_map.1 hy
   have := h z (by simp [hz])
   have := hp.1 z hz
   omega
  have h3 : (r.map (· - 1)).Pairwise (· < ·) := by
   rw [List.pairwise_map]
   exact hp.2.imp_of_mem fun {a b} ha hb q => by
    have := hp.1 a ha
    have := hp.1 b hb
    omega
  have := rise_len h3 h2
  rw [List.length_map] at this
  simp; omega
theorem zeroPls (w : World) : (zeroValue 59).run Try.prog w = .ok (.slice none 0 0) w := by kernel_rfl
theorem inL_of {w : World} {a : Option Addr} {n : Nat} {Q : List Ly} (hq : NsR w a n Q) (hn : n ≤ 1000) : InL (lys Q) := by
 refine ⟨by simp [lys]; rw [hq.1]; omega, fun t ht x hx => ?_⟩
 simp only [lys, List.mem_map] at ht
 obtain ⟨y, hy, rfl⟩ := ht
 simp only [nds, List.mem_map] at hx
 obtain ⟨q, hq2, rfl⟩ := hx
 have := (hq.2.1 y hy).ns.2.1 q hq2
 rw [this.ino]; exact this.in64
theorem ofs_thr (L : List (List Nod)) (m : List ByteArray) (r : List Pl) : ofs L m r = mad L (if m = [] then r else ofL r (dirOf L m.dropLast)) := by
 unfold ofs; split <;> rfl
set_option maxHeartbeats 4000000 in
theorem merge_any (a : Option Addr) (n c : Nat) (Q : List Ly) (w : World) (hq : NsR w a n Q) (hn : n ≤ 1000) (ht : cntP Q n ≤ 1000) (hB : ∀ t ∈ lys Q, Br t) :
  Calls Try.prog 11 #[.slice a n c] w fun e w' => ∃ ao k c' P, e = .returned (.slice ao k c') ∧ w'.ownsRow w.heap.size 44 10 (.slice ao k c') k (nvs (P.map (·.1))) ∧ Ns w' ao k P ∧ k ≤ 1000 ∧ IsMerge (lys Q) (nds P) ∧ Below w.heap.size w w' := by
 have HQ := hide hq
 have HBr := hide hB
 have HIL := hide (inL_of hq hn)
 have HNn : Hid (∀ l k, InQ Q l k → ValN (gp Q l k).2.names ∧ Lean1 (gp Q l k).1 (gp Q l k).2) := fun l k hi => by
  have hok := (inq_ok hq (l, k)).2 hi
  have hr := hq.rep hi
  have hv := valN_of hB hok
  rw [gp_nat] at hv
  have hm := (hB _ (ly_mem hok.1)).may _ (nat_mem hok)
  rw [gp_nat] at hm
  exact ⟨hv, leanB_of hr hm hv.2⟩
 have hs : ∀ l k, InQ Q l k → (gp Q l k).1.nn ≤ 1000000 := fun l k hi => by
  rw [← (hq.rep hi).names.1]
  have := (HNn.out l k hi).1.2
  omega
 obtain ⟨w1, hw1⟩ : ∃ w1, w1 = w.alloc (.map #[] 0) := ⟨_, rfl⟩
 have HB1 : Hid (Below w.heap.size w w1) := by rw [hw1]; exact below_one _ _
 have HM1 : Hid (MpS w1 w.heap.size 0 (fun _ => none)) := by rw [hw1]; exact MpS.new w
 have HS1 : Hid (w1.heap.size = w.heap.size + 1) := by rw [hw1]; exact World.size_alloc _ _
 have HN := hide (numbers_any w1)
 have HT : Hid (∀ W, Below w.heap.size w W → Calls Try.prog 31 #[.slice a n c] W fun e w' => ∃ ao m mc V R, e = .returned (.slice ao m mc) ∧ PsR w' ao m V R ∧ m ≤ 1000 ∧ Tog (lys Q) R ∧ Below W.heap.size W w') := fun W hW => together_any a n c Q W (HQ.out.below hW) hn hs ht (fun t ht => (hB t ht).nodup)
 have hmm := @run_makeMap Try.prog
 clear hq hB ht hs
 go_enter Try.func11, Try.ntmps11
 go_upto_region 3 with fail
 rw [← hw1]
 clear hw1 hmm
 go_wp2_with (first
  | (go_at_call 31; refine (HT.out _ (HB1.out.trans (HB2.out.mono HB1.out.size))).mono ?_; rintro e W5 ⟨aR, mR, cR, V, R, rfl, hP5, hm5, hT5, hb5⟩; have HP5 := hide hP5; have HT5 := hide hT5; have HB5 := hide hb5; clear hP5 hT5 hb5)
  | (go_at_call 30; refine HN.out.mono ?_; rintro e w2 ⟨p, mb, rfl, hn2, hp2, hm2, hb2⟩; have HN2 := hide hn2; have HB2 := hide hb2; clear hn2 hb2))
 have HMI : Hid (MI (lys Q) R w W5 w.heap.size p mb 0 (kOf (toldR (lys Q) (R.take 0))) none 0 0 [] (fun _ => none) 0 W5) := by
  have hb15 := HB1.out.trans (HB2.out.mono HB1.out.size)
  have hmp2 := HM1.out.same (HB2.out.block _ HM1.out.lt)
  refine ⟨fun k cs t fz h => h, hb15.trans (HB5.out.mono hb15.size), Nat.le_refl _, ?_, Nat.le_refl _, ?_, ?_, ?_, HN2.out.below HB5.out, hmp2.same (HB5.out.block _ hmp2.lt), dirM_new _ _ _, nilN _ _, fun q hq => by simp at hq⟩
  ·exact Nat.le_trans hb15.size HB5.out.size
  ·have := HS1.out; omega
  ·have := HS1.out; omega
  ·have h1 := World.block_lt_of_cell? w2 _ HN2.out.cell
   have := HB5.out.size
   exact Nat.lt_of_lt_of_le h1 this
 clear HM1 HS1 HN HT hp2 hm2 HN2 HB1 HB2 HB5
 go_loopw [6, 8, 9, 10, 11, 12, 19] (fun r6 _ _ _ _ _ r19 wr => ∃ (i km : Nat) (am : Option Addr) (cm : Nat) (P : List (Nv × Nod)) (F : ByteArray → Option Value) (sz : Nat), r19 = .int .i64 i ∧ r6 = .slice am km cm ∧ i ≤ mR ∧ km ≤ i ∧ sz ≤ i ∧ MI (lys Q) R w W5 w.heap.size p mb i (kOf (toldR (lys Q) (R.take i))) am km cm P F sz wr ∧ nds P = out (toldR (lys Q) (R.take i))) (fun _ _ _ _ _ _ r19 _ => mR - (intOf r19).toNat)
 case atStart => exact ⟨0, 0, none, 0, [], _, 0, rfl, rfl, Nat.zero_le _, Nat.le_refl _, Nat.le_refl _, HMI.out, rfl⟩
 case round =>
  obtain ⟨i, km, am, cm, P, F, sz, rfl, rfl, hi0, hkm, hsz, hMI, hnd⟩ := hrel
  have HM := hide hMI
  have HND := hide hnd
  clear hMI hnd HMI
  by_cases hi : i < mR
  ·have hdx : decide ((i : Int) < mR) = true := by simpa using hi
   have hRl : R.length = mR := HP5.out.2.1
   obtain ⟨b, off, rfl, hbl, hcs⟩ : ∃ b off, aR = some ⟨b, off, none⟩ ∧ b < wr.heap.size ∧ ∀ j, j < mR → wr.cell? ⟨b, off + j, none⟩ = some (.slice (gsp V j).a (gsp V j).n (gsp V j).c) ∧ (gsp V j).n ≤ (gsp V j).c ∧ Ps wr (gsp V j).a (gsp V j).n (R.getD j []) := by
    rcases (HM.out.cells.psr HM.out.size HP5.out).2.2 with h0 | h0
    ·omega
    ·exact h0
   obtain ⟨cr, hsc, hPs⟩ := hcs i hi
   obtain ⟨r, hr⟩ : ∃ r, r = rw' R i := ⟨_, rfl⟩
   have hPs' : Ps wr (gsp V i).a (gsp V i).n r := by rw [hr]; exact hPs
   have hrm : r ∈ R := by rw [hr]; exact rw_mem (by omega)
   obtain ⟨hrow, hrne⟩ := HT5.out.row hrm
   have hval := HT5.out.val HBr.out hrm
   obtain ⟨m, hm⟩ : ∃ m, m = nmr (lys Q) r := ⟨_, rfl⟩
   rw [← hm] at hrow hval
   generalize gsp V i = sp at *
   obtain ⟨sa, sn, sc⟩ := sp
   simp only at cr hsc hPs'
   have hsn : 0 < sn := by
    rcases Nat.eq_zero_or_pos sn with q | q
    ·exact absurd (List.eq_nil_of_length_eq_zero (by rw [hPs'.1, q])) hrne
    ·exact q
   have hall : ∀ p ∈ r, InQ Q p.1 p.2 := fun p hp => (inq_ok HQ.out p).1 ((hrow.mem p).1 hp).1
   have hlr : sn ≤ 1000 := by
    have h1 := hrow.rise
    have h2 : (r.map (·.1)).Pairwise (· < ·) := by rw [List.pairwise_map]; exact h1
    have h3 : (r.map (·.1)).length ≤ n := rise_len h2 (fun x hx => by
     obtain ⟨p, hp, rfl⟩ := List.mem_map.1 hx
     rw [← HQ.out.1]; exact (hall p hp).1)
    rw [List.length_map, hPs'.1] at h3
    omega
   have hp0 : gq r 0 ∈ r := by rw [gq_lt r 0 (by rw [hPs'.1]; exact hsn)]; exact List.getElem_mem _
   have hi0q := hall _ hp0
   obtain ⟨b2, off2, rfl, hb2l, hc2⟩ := hPs'.at hsn
   obtain ⟨c1, c2⟩ := hc2 0 hsn
   simp only [Nat.zero_mul, Nat.add_zero] at c1 c2
   have HA : Hid (∀ W, Below wr.heap.size wr W → Calls Try.prog 32 #[.slice a n c, .agg #[.int .i64 ((gq r 0).1 : Int), .int .i64 ((gq r 0).2 : Int)]] W fun e w' => e = .returned (.agg (gp Q (gq r 0).1 (gq r 0).2).1.cells) ∧ Below W.heap.size W w') := fun W hW => pat_any a n c Q _ _ W (HQ.out.below (HM.out.bel.trans (hW.mono HM.out.bel.size))) hi0q (by omega)
   have hrep := HQ.out.rep hi0q
   have hnames : (gp Q (gq r 0).1 (gq r 0).2).2.names = m := by
    rw [← gp_nat]
    exact ((hrow.mem _).1 hp0).2
   have hRs := hrep.names
   rw [hnames] at hRs
   have hnc := hrep.nc
   have hnn : (gp Q (gq r 0).1 (gq r 0).2).1.nn ≤ 16 := by rw [← hRs.1]; exact hval.2
   have HRS : Hid (∀ W, Below wr.heap.size wr W → Rs W (gp Q (gq r 0).1 (gq r 0).2).1.na (gp Q (gq r 0).1 (gq r 0).2).1.nn m) := fun W hW => by
    have := (HQ.out.below (HM.out.bel.trans (hW.mono HM.out.bel.size))).names hi0q
    rw [hnames] at this; exact this
   have hF0 := field_nod0 (gp Q (gq r 0).1 (gq r 0).2).1
   generalize (gp Q (gq r 0).1 (gq r 0).2).1 = v at *
   generalize (gq r 0).1 = x0 at *
   generalize (gq r 0).2 = y0 at *
   have HPS := hide hPs'
   have HROW := hide hrow
   have HVAL := hide hval
   have HALL := hide hall
   have HMQ := hide hm
   have HRQ := hide hr
   clear hPs hPs' hrow hval hall hm hr hrm hrne hp0 hi0q hrep hnames hRs hcs hbl hc2 hb2l hRl
   unfold Nv.cells at *
   obtain ⟨vna, vnn, vnc, vino, vkind, vmode, vuid, vgid, vda, vdn, vdc, vtg, vxa, vxn, vxc, vop⟩ := v
   simp only at HA HRS hF0 hnc hnn
   have hi1 : (i : Int) < mR := by omega
   have hi2 : (0 : Int) < sn := by omega
   have hx1 : IntKind.i64.wrap ((vnn : Int) - 1) = (vnn : Int) - 1 := IntWalk.i64_in _ (by omega)
   go_upto_if 33 with (go_at_call 32; refine (HA.out _ (Below.refl _ _)).mono ?_; rintro e w3 ⟨rfl, hb3⟩; have HB3 := hide hb3; clear hb3)
   have HM3 := hide (HM.out.below HB3.out)
   obtain ⟨thr, hthr⟩ : ∃ thr, thr = (if m = [] then r else ofL r (dirOf (lys Q) m.dropLast)) := ⟨_, rfl⟩
   have HTHR := hide hthr
   have HRi : Hid (i < R.length) := by
    have h := HP5.out.2.1
    show i < R.length
    omega
   clear hthr HA
   go_cut [8] from 33 to 41 (fun s8 wx => ∃ ao k mc, s8 = .slice ao k mc ∧ Ps wx ao k thr ∧ k ≤ mc ∧ k ≤ 1000 ∧ Below w3.heap.size w3 wx)
   case first =>
    by_cases hme : m = []
    ·have hn0 : vnn = 0 := by have := (HRS.out wr (Below.refl _ _)).1; rw [hme] at this; exact this.symm
     have hd1 : decide ((1 : Int) ≤ vnn) = false := by simp; omega
     have hd2 : ¬ (1 : Int) ≤ vnn := by omega
     have HF : Hid (Ps w3 (some ⟨b2, off2, none⟩) sn thr) := by
      show Ps _ _ _ _
      rw [HTHR.out, if_pos hme]; exact HPS.out.below HB3.out
     clear hme hn0
     go_wp2_with fail
     go_meet
     exact ⟨_, _, _, rfl, HF.out, hsc, hlr, Below.refl _ _⟩
    ·have hn0 : 0 < vnn := by
      have h1 := (HRS.out wr (Below.refl _ _)).1
      rcases Nat.eq_zero_or_pos vnn with q | q
      ·exact absurd (List.eq_nil_of_length_eq_zero (by rw [h1, q])) hme
      ·exact q
     have hd1 : decide ((1 : Int) ≤ vnn) = true := by simp; omega
     have hnl2 : (vnn : Int) - 1 ≤ (vnc : Int) := by omega
     have hnl3 : (0 : Int) ≤ (vnn : Int) - 1 := by omega
     have HJ : Hid (∀ W, Below wr.heap.size wr W → Calls Try.prog 34 #[.slice vna (vnn - 1) vnc] W fun e w' => e = .returned (.string (kyn m.dropLast)) ∧ Below W.heap.size W w') := fun W hW => by
      have h1 := (HRS.out W hW).take (vnn - 1) (by omega)
      have e : m.take (vnn - 1) = m.dropLast := by rw [List.dropLast_eq_take, (HRS.out wr (Below.refl _ _)).1]
      rw [e] at h1
      exact Join_any _ _ _ _ W h1 (by omega) HVAL.out.drop.len
     have HLK : Hid (∀ W, Below w3.heap.size w3 W → ∃ la lk lc LD, (Instr.lookup 54 (.map (some w.heap.size)) (.string (kyn m.dropLast)) false).run Try.prog W = .ok (.slice la lk lc) W ∧ Ps W la lk LD ∧ lk ≤ 1000000 ∧ LD.map (·.1) = dirOf (lys Q) m.dropLast) := fun W hW => by
      have hM := HM3.out.below hW
      have hg := hM.mp.get Try.underlying54 (zeroPls W) (kyn_size HVAL.out.drop)
      obtain ⟨la, lk, lc, LD, h1, h2, h3, h4⟩ := hM.dir.look HBr.out HT5.out HRi.out (by rw [← HRQ.out, ← HMQ.out]; exact hme)
      rw [← HRQ.out, ← HMQ.out] at h1 h4
      rw [h1] at hg
      exact ⟨la, lk, lc, LD, hg, h2, h3, h4⟩
     have HTE : Hid (thr = ofL r (dirOf (lys Q) m.dropLast)) := HTHR.out.trans (if_neg hme)
     clear hme hn0
     go_wp2_with (first
      | (have hx4 := HL4.out; clear hx4; go_at_call 33; refine (ofLayers_any _ _ _ r _ _ _ LD w4 (HPS.out.below (HB3.out.trans (HB4.out.mono HB3.out.size))) HL4.out.1 (by omega) HL4.out.2.1 (by rw [HL4.out.2.2]; exact dirOf_rise _ _)).mono ?_; rintro e w5 ⟨ao5, k5, c5, rfl, ho5, hb5⟩; have HO5 := hide ho5; have HB5 := hide hb5; clear ho5 hb5)
      | (go_at_call 34; refine (HJ.out _ HB3.out).mono ?_; rintro e w4 ⟨rfl, hb4⟩; have HB4 := hide hb4; obtain ⟨la, lk, lc, LD, hlk, hl1, hl2, hl3⟩ := HLK.out w4 hb4; have HL4 := hide (And.intro hl1 (And.intro hl2 hl3)); clear hb4 hl1 hl2 hl3))
     go_meet
     have hfin : Ps w5 ao5 k5 thr ∧ k5 ≤ c5 ∧ k5 ≤ 1000 := by
      have h1 := ps_of_owns HO5.out
      rw [HL4.out.2.2, ← HTE.out] at h1
      refine ⟨h1, (cap_owns HO5.out).1, ?_⟩
      have h2 := ofL_len r (dirOf (lys Q) m.dropLast)
      rw [← HTE.out, h1.1, HPS.out.1] at h2
      omega
     exact ⟨_, _, _, rfl, hfin.1, hfin.2.1, hfin.2.2, HB4.out.trans (HB5.out.mono HB4.out.size)⟩
   case rest =>
    obtain ⟨ao, k, mc, rfl, hthp, hkmc, hk1, hbc⟩ := hcut
    have HTP := hide hthp
    have HBC := hide hbc
    have HMc := hide (HM3.out.below hbc)
    have HWC := hide (HMc.out.bel)
    have HALT : Hid (AllQ Q thr) := fun q hq => by
     rw [HTHR.out] at hq
     split at hq
     ·exact HALL.out q hq
     ·exact HALL.out q (List.mem_filter.1 hq).1
    have HMD := hide (made_any a n c Q ao k mc thr wc (HQ.out.below HWC.out) (by omega) hthp (by omega) hkmc HALT.out)
    obtain ⟨O, hO⟩ : ∃ O, O = ofs (lys Q) m r := ⟨_, rfl⟩
    have HO := hide hO
    have HOM : Hid (O = mad (lys Q) thr) := by show _ = _; rw [hO, ofs_thr, HTHR.out]
    have HID : Hid (∀ W k2, k2 = cutN (lys Q) thr true → Below wc.heap.size wc W → k2 ≤ k ∧ Ps W ao k2 O ∧ Calls Try.prog 36 #[.slice a n c, .slice ao k2 mc] W fun e w' => e = .returned (.bool (isD (lys Q) O)) ∧ Below W.heap.size W w') := fun W k2 hk2 hW => by
     have hle : k2 ≤ k := by rw [hk2, ← HTP.out.1]; exact cutN_le _ _
     have hp := (HTP.out.below hW).take k2 hle
     have e : thr.take k2 = O := by rw [HOM.out, hk2]; rfl
     rw [e] at hp
     have hal : AllQ Q O := fun q hq => HALT.out q (by rw [← e] at hq; exact List.mem_of_mem_take hq)
     exact ⟨hle, hp, pisDir_any a n c Q ao k2 mc O W (HQ.out.below (HWC.out.trans (hW.mono HWC.out.size))) (by omega) hp (by omega) hal⟩
    obtain ⟨bd, hbd⟩ : ∃ bd, bd = isD (lys Q) O := ⟨_, rfl⟩
    have HBD := hide hbd
    rw [← hbd] at HID
    clear hthp hbc hO hbd
    go_upto_if 47 with (first
     | (have hx5 := HB5.out; clear hx5; go_at_call 36; refine (HID.out _ _ HK2.out HB5.out).2.2.mono ?_; rintro e w6 ⟨rfl, hb6⟩; have HB6 := hide (HB5.out.trans (hb6.mono HB5.out.size)); clear hb6)
     | (go_at_call 35; refine HMD.out.mono ?_; rintro e w5 ⟨k2, rfl, hk2, hb5⟩; have HB5 := hide hb5; have HK2 := hide hk2; clear hb5 hk2))
    have HDO : Hid (dirOf (lys Q) m = if bd = true then O.map (·.1) else []) := by
     have := ofs_dir HBr.out HROW.out
     rw [← HO.out, ← HBD.out] at this
     exact this
    have HM6 := hide (HMc.out.below HB6.out)
    have HP6 := hide (HID.out w6 k2 HK2.out HB6.out).2.1
    have hk2k := (HID.out w6 k2 HK2.out HB6.out).1
    have HKY : Hid (kyn m = kyn (nmr (lys Q) (rw' R i))) := by show _ = _; rw [HMQ.out, HRQ.out]
    have HDM : Hid (dirOf (lys Q) m = dirOf (lys Q) (nmr (lys Q) (rw' R i))) := by show _ = _; rw [HMQ.out, HRQ.out]
    clear HID HMD
    go_cut [] from 47 to 51 (fun wx => ∃ F' sz', sz' ≤ i + 1 ∧ MI (lys Q) R w W5 w.heap.size p mb (i + 1) (kOf (toldR (lys Q) (R.take i))) am km cm P F' sz' wx ∧ Ps wx ao k2 O)
    case first =>
     cases bd with
     | true =>
      have HJ : Hid (∀ W, Below wr.heap.size wr W → Calls Try.prog 34 #[.slice vna vnn vnc] W fun e w' => e = .returned (.string (kyn m)) ∧ Below W.heap.size W w') := fun W hW => Join_any _ _ _ _ W (HRS.out W hW) (by omega) HVAL.out.len
      have HBR6 : Hid (Below wr.heap.size wr w6) := by
       have h1 := HB3.out.trans (HBC.out.mono HB3.out.size)
       exact h1.trans (HB6.out.mono h1.size)
      have HST : Hid (∀ W, Below w6.heap.size w6 W → ∃ w8, (Instr.mapUpdate 54 (.map (some w.heap.size)) (.string (kyn m)) (.slice ao k2 mc)).run Try.prog W = .ok () w8 ∧ ∃ F' sz', sz' ≤ i + 1 ∧ MI (lys Q) R w W5 w.heap.size p mb (i + 1) (kOf (toldR (lys Q) (R.take i))) am km cm P F' sz' w8 ∧ Ps w8 ao k2 O) := fun W hW => by
       have hM := HM6.out.below hW
       obtain ⟨w8, q1, q2, q3⟩ := hM.mp.store Try.underlying54 (kyn_size HVAL.out) (by omega) (.slice ao k2 mc)
       have hkc : KeepCl W w8 := fun k cs t fz hk => (q3.block k (heap_lt hk) (by simp; exact hM.mp.ne hk)).trans hk
       have hP8 := (HP6.out.below hW).keep (keepT_all hkc _)
       have hd8 := (hM.dir.keep (keepT_all hkc _)).put HBr.out HT5.out HRi.out hP8 (by omega) (c := mc) (by rw [← HDM.out, HDO.out, if_pos rfl])
       rw [← HKY.out] at hd8
       exact ⟨w8, q1, _, _, by split <;> omega, hM.mapped q3 q2 hd8, hP8⟩
      go_wp2_with (go_at_call 34; refine (HJ.out _ HBR6.out).mono ?_; rintro e w7 ⟨rfl, hb7⟩; obtain ⟨w8, hrun8, h8⟩ := HST.out w7 hb7; have H8 := hide h8; clear hb7 h8)
      go_meet
      exact H8.out
     | false =>
      have hd7 := HM6.out.dir.skip HBr.out HT5.out HRi.out (by rw [← HDM.out, HDO.out, if_neg (by simp)])
      have HF := hide (HM6.out.to (fun k cs t fz h => h) HM6.out.bel (Nat.le_refl _) HM6.out.nu HM6.out.mp hd7)
      clear hd7
      go_wp2_with fail
      go_meet
      exact ⟨F, sz, by omega, HF.out, HP6.out⟩
    case rest =>
     obtain ⟨F', sz', hsz', hM', hP'⟩ := hcut
     have HMx := hide hM'
     have HPx := hide hP'
     have hkO : O.length = k2 := hP'.1
     have HTT : Hid (toldR (lys Q) (R.take (i + 1)) = toldR (lys Q) (R.take i) ++ (toldOf (lys Q) m r).toList) := by
      have hlt : i < R.length := HRi.out
      show _ = _
      rw [List.take_succ_eq_append_getElem hlt, toldR_append, ← rw_lt hlt, ← HRQ.out, ← HMQ.out]
     clear hM' hP' HM6 HP6 HDO HDM HKY HB6 HBC HMc HTP HALT HTHR
     by_cases hk0 : k2 = 0
     ·subst hk0
      have HTN : Hid (toldR (lys Q) (R.take (i + 1)) = toldR (lys Q) (R.take i)) := by
       have e : O = [] := List.eq_nil_of_length_eq_zero hkO
       have e2 : toldOf (lys Q) m r = none := by unfold toldOf; rw [← HO.out, e]; rfl
       show _ = _
       rw [HTT.out, e2]; simp
      go_wp2_with fail
      exact ⟨⟨i + 1, km, am, cm, P, F', sz', by go_num, rfl, by omega, by omega, hsz', by rw [HTN.out]; exact HMx.out, by rw [HTN.out]; exact HND.out⟩, by simp [intOf]; omega⟩
     ·have hk00 : 0 < k2 := by omega
      have hd3 : decide ((k2 : Int) > 0) = true := by simp; omega
      have hd4 : decide (0 < k2) = true := by simp; omega
      have hi3 : (0 : Int) < k2 := by omega
      obtain ⟨q0, hq0⟩ : ∃ q0, q0 = gq O 0 := ⟨_, rfl⟩
      have hqO : q0 ∈ O := by rw [hq0, gq_lt O 0 (by omega)]; exact List.getElem_mem _
      have hqi : InQ Q q0.1 q0.2 := HALL.out q0 (ofs_sub q0 (by rw [← HO.out]; exact hqO))
      obtain ⟨x, hx⟩ : ∃ x, x = (gp Q q0.1 q0.2).2 := ⟨_, rfl⟩
      have HTO : Hid (toldR (lys Q) (R.take (i + 1)) = toldR (lys Q) (R.take i) ++ [(q0.1, x)]) := by
       have e2 : toldOf (lys Q) m r = some (q0.1, x) := by
        unfold toldOf
        rw [← HO.out, hx, ← gp_nat, hq0]
        cases hO2 : O with
        | nil => rw [hO2] at hkO; simp at hkO; omega
        | cons y l => simp [gq]
       show _ = _
       rw [HTT.out, e2]; rfl
      obtain ⟨b3, off3, rfl, hb3l, hc3⟩ := HPx.out.at hk00
      obtain ⟨d1, d2⟩ := hc3 0 hk00
      simp only [Nat.zero_mul, Nat.add_zero] at d1 d2
      rw [← hq0] at d1 d2
      have hrx := HQ.out.rep hqi
      rw [← hx] at hrx
      have HA2 : Hid (∀ W, Below wc.heap.size wc W → Calls Try.prog 32 #[.slice a n c, .agg #[.int .i64 (q0.1 : Int), .int .i64 (q0.2 : Int)]] W fun e w' => e = .returned (.agg (gp Q q0.1 q0.2).1.cells) ∧ Below W.heap.size W w') := fun W hW => pat_any a n c Q _ _ W (HQ.out.below (HMx.out.bel.trans (hW.mono HMx.out.bel.size))) hqi (by omega)
      have HTL : Hid (∀ W, Below wc.heap.size wc W → Calls Try.prog 37 #[.agg (gp Q q0.1 q0.2).1.cells] W fun e w' => ∃ v', e = .returned (.agg v'.cells) ∧ RepO w' W.heap.size v' (nopN x) ∧ Below W.heap.size W w') := fun W hW => told_any _ x W (by
       have := HQ.out.below (HMx.out.bel.trans (hW.mono HMx.out.bel.size))
       have := this.rep hqi
       rw [hx]; exact this) (by rw [hx]; exact (HNn.out _ _ hqi).2)
      have hwl : (Lit.int .i64 (q0.1 : Int)).wf = true := by
       have h1 := hqi.1
       have h2 := HQ.out.1
       have e : IntKind.i64.min = -9223372036854775808 := rfl
       simp [Lit.wf, e]; omega
      have hwz : (Lit.int .i64 x.ino).wf = true := by rw [hrx.ino]; exact hrx.in64
      have HDC : Hid (∀ W, Below wc.heap.size wc W → W.cell? ⟨b3, off3, none⟩ = some (.int .i64 (q0.1 : Int))) := fun W hW => (hW.cell (by exact hb3l)).trans d1
      have HWF := hide (And.intro hwl hwz)
      generalize (gp Q q0.1 q0.2).1 = v2 at *
      have HX := hide hx
      generalize hl0 : q0.1 = l0 at *
      generalize q0.2 = k0 at *
      clear hq0 hqO hqi hc3 hrx hwl hwz hx hl0
      unfold Nv.cells at *
      go_upto_region 17 with (first
       | (have hx8 := HB7.out; clear hx8; go_at_call 37; refine (HTL.out _ HB7.out).mono ?_; rintro e w8 ⟨u, rfl, hu8, hb8⟩; have HU := hide hu8; have HB8 := hide hb8; clear hu8 hb8)
       | (go_at_call 32; refine (HA2.out _ (Below.refl _ _)).mono ?_; rintro e w7 ⟨rfl, hb7⟩; have HB7 := hide hb7; clear hb7))
      obtain ⟨wq, hwq⟩ : ∃ wq, wq = w8.alloc (Obj.cells u.cells 44) := ⟨_, rfl⟩
      have hwq' := hwq
      unfold Nv.cells at hwq'
      rw [← hwq']
      clear hwq'
      have hb18 := HB7.out.trans (HB8.out.mono HB7.out.size)
      have HM8 := HMx.out.below hb18
      have hbq : Below w8.heap.size w8 wq := by rw [hwq]; exact below_one _ _
      have HMq := hide (HM8.below hbq)
      have hbk : Bk wq w8.heap.size u := by rw [hwq]; exact bk_new w8 u
      obtain ⟨qb, hqb⟩ : ∃ qb, qb = w8.heap.size := ⟨_, rfl⟩
      have hqs : qb < wq.heap.size := by rw [hqb]; exact heap_lt hbk
      have hq5 : W5.heap.size ≤ qb := by rw [hqb]; exact HM8.size
      have hown : (Value.slice am km cm).ownBlock ≠ some qb := fun e => by
       obtain ⟨cur, hcu⟩ := owns_obj HM8.row e
       have := heap_lt hcu
       omega
      have hB5 : W5.heap.size ≤ w7.heap.size := Nat.le_trans HMx.out.size HB7.out.size
      have HUo : Hid (RepO wq W5.heap.size u (nopN x)) := by
       have h := HU.out.keep (keepT_all (keepCl_below hbq) _) (keepT_all (keepCl_below hbq) _) (keepT_all (keepCl_below hbq) _)
       obtain ⟨X, x1, x2, x3⟩ := h.xs
       exact ⟨h.rep, own_up h.names hB5, own_up h.data hB5, X, x1, own_up x2 hB5, fun j hj => ⟨(x3 j hj).1, (x3 j hj).2.1, own_up (x3 j hj).2.2 hB5⟩⟩
      have hino : u.ino = x.ino := HU.out.rep.ino.symm
      rw [← hqb] at hbk
      obtain ⟨T, hT⟩ : ∃ T, T = toldR (lys Q) (R.take i) := ⟨_, rfl⟩
      have HT := hide hT
      rw [← hT] at HMq
      obtain ⟨no, hno⟩ : ∃ no, no = nno (kOf T ++ [oldK l0 x.ino]) (kOf T).length := ⟨_, rfl⟩
      have hkT : (kOf T).length ≤ 100000 := by
       rw [kOf_length]
       have h1 := HND.out
       rw [← hT] at h1
       have h2 : (nds P).length = T.length := by rw [h1, out_length]
       have h3 := HMq.out.row.1
       rw [nvs_length, List.length_map] at h3
       rw [nds_length] at h2
       omega
      have HNO := hide hno
      have HNUM : Hid (∀ W, Below wq.heap.size wq W → Calls Try.prog 48 #[.int .i64 (l0 : Int), .int .i64 u.ino, .pointer (some ⟨p, 0, none⟩)] W fun e w' => e = .returned (.int .i64 (no : Int)) ∧ NU w' p mb (kOf T ++ [oldK l0 x.ino]) ∧ W.grownBy w' (some mb)) := fun W hW => by
       rw [hino, hno]
       exact num_any l0 x.ino p mb (kOf T) W HWF.out.1 HWF.out.2 (kOf_lit T) hkT (HMq.out.nu.below hW)
      have HFIN : Hid (∀ W w9, Below wq.heap.size wq W → W.grownBy w9 (some mb) → NU w9 p mb (kOf T ++ [oldK l0 x.ino]) → w9.cell? ⟨qb, 1, none⟩ = some (.int .i64 u.ino) ∧ w9.frozen? ⟨qb, 1, none⟩ = false ∧ Bk (w9.setCell ⟨qb, 1, none⟩ (.int .i64 (no : Int))) qb { u with ino := (no : Int) } ∧ MI (lys Q) R w W5 w.heap.size p mb (i + 1) (kOf T ++ [oldK l0 x.ino]) am km cm P F' sz' (w9.setCell ⟨qb, 1, none⟩ (.int .i64 (no : Int))) ∧ RepO (w9.setCell ⟨qb, 1, none⟩ (.int .i64 (no : Int))) W5.heap.size u (nopN x)) := fun W w9 hW hg hn => by
       have hMW := HMq.out.below hW
       have hbW : Bk W qb u := hbk.block (hW.block _ hqs)
       have hbW' : W.heap[qb]? = some (.cells u.cells 44 (0, 0)) := hbW
       have hb9 : Bk w9 qb u := hbW.block (hg.block _ (heap_lt hbW') (by have := hMW.nu.mne hbW'; simp; exact this))
       have hM9 := hMW.num hg hn
       have hc9 : KeepCl W w9 := fun k cs t fz hk => (hg.block k (heap_lt hk) (by have := hMW.nu.mne hk; simp; exact this)).trans hk
       have hU9 := (HUo.out.keep (keepT_all (keepCl_below hW) _) (keepT_all (keepCl_below hW) _) (keepT_all (keepCl_below hW) _)).keep (keepT_all hc9 _) (keepT_all hc9 _) (keepT_all hc9 _)
       refine ⟨hb9.box.c1, hb9.frozen 1, setCell_heap w9 qb 1 _ _ _ _ hb9, hM9.cell hb9 hq5 hown 1 _, hU9.keep (hb9.keepT _ (by decide) _) (hb9.keepT _ (by decide) _) (hb9.keepT _ (by decide) _)⟩
      have HQC : Hid (∀ W, Below wq.heap.size wq W → W.cell? ⟨b3, off3, none⟩ = some (.int .i64 (l0 : Int)) ∧ W.cell? ⟨qb, 1, none⟩ = some (.int .i64 u.ino)) := fun W hW => ⟨HDC.out W ((hb18.trans (hbq.mono hb18.size)).trans (hW.mono (Nat.le_trans hb18.size hbq.size))), (hbk.block (hW.block _ hqs)).box.c1⟩
      have hino0 := HQC.out wq (Below.refl _ _)
      obtain ⟨g1, g2⟩ := hino0
      rw [← hqb]
      have HB0 := hide (Below.refl wq.heap.size wq)
      have HQS := hide hqs
      have HINO := hide hino
      clear hb18 HM8 hbq hbk hown hB5 hT hno hqb hqs hq5 hwq hkT hino
      go_cut [] from 61 to 69 (fun wx => Bk wx qb { u with ino := (no : Int) } ∧ MI (lys Q) R w W5 w.heap.size p mb (i + 1) (kOf T ++ [oldK l0 x.ino]) am km cm P F' sz' wx ∧ RepO wx W5.heap.size u (nopN x))
      case first =>
       have HND9 := hide (HNUM.out wq.drew HB0.out.drew)
       have HFD9 := hide (fun w9 => HFIN.out wq.drew w9 HB0.out.drew)
       clear HNUM HFIN HB0 HQC
       go_region_with (go_at_call 48; refine HND9.out.mono ?_; rintro e w9 ⟨rfl, hn9, hg9⟩; have HF9 := hide (HFD9.out w9 hg9 hn9); have j1 := HF9.out.1; have j2 := HF9.out.2.1; clear hn9 hg9)
       all_goals (
        go_wp2_with fail
        go_meet
        exact HF9.out.2.2)
      case rest =>
       obtain ⟨hbk9, hM9, hU9⟩ := hcut
       have HM9 := hide hM9
       have HWF9 : Hid ((Lit.int .i64 (no : Int)).wf = true) := by
        have h1 := nno_range (ks := kOf T ++ [oldK l0 x.ino]) (fun k hk => by
         rcases List.mem_append.1 hk with q | q
         ·exact kOf_lit T k q
         ·rw [List.mem_singleton.1 q]; trivial) (i := (kOf T).length) (by simp)
        have h2 := nst_le (kOf T ++ [oldK l0 x.ino]) ((kOf T).length + 1)
        have h3 : (kOf T).length ≤ km := by
         rw [kOf_length]
         have q1 := HND.out
         rw [← HT.out] at q1
         have q2 : (nds P).length = T.length := by rw [q1, out_length]
         have q3 := hM9.row.1
         rw [nvs_length, List.length_map] at q3
         rw [nds_length] at q2
         omega
        rw [← HNO.out] at h1
        have e : IntKind.i64.min = -9223372036854775808 := rfl
        show _ = _
        simp [Lit.wf, e]; omega
       have HU9 : Hid (∀ o, RepO (wc.alloc o) W5.heap.size { u with ino := (no : Int) } (outN x (no : Int))) := fun o => by
        have h := hU9.keep (keepT_all (keepCl_below (below_one wc o)) _) (keepT_all (keepCl_below (below_one wc o)) _) (keepT_all (keepCl_below (below_one wc o)) _)
        exact ⟨{ h.rep with ino := rfl, in64 := HWF9.out }, h.names, h.data, h.xs⟩
       have hb9 := hbk9.box
       obtain ⟨_, m0, m1, m2, m3, m4, m5, m6, m7, m8, m9⟩ := hb9
       simp only at m0 m1 m2 m3 m4 m5 m6 m7 m8 m9
       have hW9 : W5.heap.size ≤ wc.heap.size := hM9.size
       clear hM9 hU9 hbk9 HNUM HFIN HQC g1 g2 HB0
       go_wp2_with (at_builtin; refine wpList_append_nod _ rfl _ _ rfl W5.heap.size _ _ _ (P.map (·.1)) rfl (HM9.out.row.alloc _) _ _ _ _ rfl (sh_one' (v := { u with ino := (no : Int) }) (by simp)) (fun h => by cases h) (by omega) (by simp; omega) ?_)
       intro ao2 k3 w10 hown hg
       have HMA := hide ((HM9.out.below (below_one wc _)).app hg (HU9.out _) hown)
       have HKK : Hid (kOf (toldR (lys Q) (R.take (i + 1))) = kOf T ++ [oldK l0 x.ino]) := by show _ = _; rw [HTO.out, ← HT.out, kOf_append]
       have HNN : Hid (nds (P ++ [({ u with ino := (no : Int) }, outN x (no : Int))]) = out (toldR (lys Q) (R.take (i + 1)))) := by
        show _ = _
        rw [HTO.out, out_append, ← HND.out, ← HT.out, HNO.out, kOf_length]
        simp [nds]
       clear hown hg m0 m1 m2 m3 m4 m5 m6 m7 m8 m9
       go_wp2
       exact ⟨⟨i + 1, km + 1, ao2, k3, _, F', sz', by go_num, rfl, by omega, by omega, hsz', by rw [HKK.out]; exact HMA.out, HNN.out⟩, by simp [intOf]; omega⟩
  ·have hdx : decide ((i : Int) < mR) = false := by simpa using hi
   obtain rfl : i = mR := by omega
   have HTK : Hid (R.take i = R) := List.take_of_length_le (by rw [HP5.out.2.1]; omega)
   have HF : Hid (wr.ownsRow w.heap.size 44 10 (.slice am km cm) km (nvs (P.map (·.1))) ∧ Ns wr am km P ∧ IsMerge (lys Q) (nds P) ∧ Below w.heap.size w wr) := by
    have h := HM.out
    refine ⟨own_up h.row h.le, (sh_of_owns h.row).ns (fun q hq => (h.rep q hq).rep), ?_, h.bel⟩
    rw [HND.out, HTK.out]
    exact out_merge HBr.out HIL.out HT5.out
   clear HM HND
   go_wp2
   go_ret
   exact ⟨_, _, _, P, rfl, HF.out.1, HF.out.2.1, by omega, HF.out.2.2.1, HF.out.2.2.2⟩
end Go.Proofs.Ytoocipdhplaboaa
namespace Go.Proofs.Ytoocipdhplaboaa
set_option linter.unusedSimpArgs false
set_option maxRecDepth 100000
open Go.RowKit Go.Maps
open Nam Tre Mrg
def mroV : Nv := ⟨none, 0, 0, 9, 1, 0, 0, 0, none, 0, 0, ⟨#[]⟩, none, 0, 0, false⟩
def mroN : Nod := ⟨[], 9, 1, 0, 0, 0, [], ⟨#[]⟩, [], false⟩
def atV (k : Int) (p n : Nat) : Nv := ⟨some ⟨p, 0, none⟩, n, n, n, k, 0, 0, 0, none, 0, 0, ⟨#[]⟩, none, 0, 0, false⟩
def atN (k : Int) (l : List ByteArray) : Nod := ⟨l, l.length, k, 0, 0, 0, [], ⟨#[]⟩, [], false⟩
def nA : ByteArray := ⟨#[97]⟩
def nB : ByteArray := ⟨#[98]⟩
def nD : ByteArray := ⟨#[100]⟩
def nF : ByteArray := ⟨#[102]⟩
def mbN : Nod := { atN 2 [nB] with ino := 5 }
def mhN : Nod := { atN 1 [nD] with opq := true }
def mX : List (List Nod) := [[mroN, atN 4 [nA]], [mroN, atN 2 [nA], mbN]]
def mLow : List Nod := [mroN, atN 1 [nD], atN 2 [nD, nF]]
def mY : List (List Nod) := [[mroN, atN 1 [nD]], mLow]
def mZ : List (List Nod) := [[mroN, mhN], mLow]
theorem rep_bare' {w : World} (na : Option Addr) (nn : Nat) (l : List ByteArray) (i k : Int) (o : Bool) (h : Rs w na nn l) (hn : na = none → nn = 0) (hl : nn ≤ 9223372036854775807) (hi : (Lit.int .i64 i).wf = true) : Rep w ⟨na, nn, nn, i, k, 0, 0, 0, none, 0, 0, ⟨#[]⟩, none, 0, 0, o⟩ ⟨l, i, k, 0, 0, 0, [], ⟨#[]⟩, [], o⟩ where
 names := h
 nc := Nat.le_refl _
 ncm := hl
 nnil := hn
 ino := rfl
 in64 := hi
 kind := rfl
 mode := rfl
 uid := rfl
 gid := rfl
 data := bs_zero _ _
 dc := Nat.le_refl _
 dcm := (by decide : (0 : Nat) ≤ 9223372036854775807)
 dnil := fun _ => rfl
 tg := rfl
 tgm := (by decide : (0 : Nat) ≤ 9223372036854775807)
 xs := XsR.nil _ _
 xc := Nat.le_refl _
 xcm := (by decide : (0 : Nat) ≤ 9223372036854775807)
 xnil := fun _ => rfl
 op := rfl
theorem mrs_one {W : World} {b : Nat} {s : ByteArray} (h : W.heap[b]? = some (.cells #[.string s] 9 (0, 0))) : Rs W (some ⟨b, 0, none⟩) 1 [s] := by
 refine ⟨rfl, .inr ⟨b, 0, rfl, heap_lt h, fun i hi => ?_⟩⟩
 match i, hi with
 | 0, _ => simp [World.cell?, h, gs]
theorem mrs_two {W : World} {b : Nat} {s t : ByteArray} (h : W.heap[b]? = some (.cells #[.string s, .string t] 9 (0, 0))) : Rs W (some ⟨b, 0, none⟩) 2 [s, t] := by
 refine ⟨rfl, .inr ⟨b, 0, rfl, heap_lt h, fun i hi => ?_⟩⟩
 match i, hi with
 | 0, _ => simp [World.cell?, h, gs]
 | 1, _ => simp [World.cell?, h, gs]
theorem mrsX : mrs mX = [(0, mroN), (1, mbN)] := by rfl
theorem mrsY : mrs mY = [(0, mroN), (0, atN 1 [nD]), (1, atN 2 [nD, nF])] := by rfl
theorem mrsZ : mrs mZ = [(0, mroN), (0, mhN)] := by rfl
theorem at_any (k : Int) (p n : Nat) (w : World) : Calls Try.prog 28 #[.int .i64 k, .slice (some ⟨p, 0, none⟩) n n] w fun e w' => e = .returned (.agg #[.slice (some ⟨p, 0, none⟩) n n, .int .i64 (n : Int), .int .i64 k, .int .i64 0, .int .i64 0, .int .i64 0, .slice none 0 0, .string ⟨#[]⟩, .slice none 0 0, .bool false]) ∧ Below w.heap.size w w' := by
 have HB : Hid (∀ o : Obj, Below w.heap.size w (w.alloc o)) := fun o => below_one _ _
 go_enter Try.func28, Try.ntmps28
 go_wp2
 refine bodyPost_ret (results_box (p := 4) rfl _ _ w.heap.size _ rfl (load_nod (fr := (0, 0)) (heap_alloc_new w _) rfl)) rfl ⟨rfl, HB.out _⟩
theorem ck1 : checkB [mroN, atN 4 [nA]] = 0 := by
 have h1 : valid [97] = 0 := by decide
 have h2 : valid [98] = 0 := by decide
 have h3 : valid [100] = 0 := by decide
 have h4 : valid [102] = 0 := by decide
 have hw : wrong [mroN, atN 4 [nA]] = 0 := by simp [wrong, fv, nA, nB, nD, nF, mroN, mbN, mhN, mLow, atN, h1, h2, h3, h4]
 have t0 : (⟨#[]⟩ : ByteArray).toList = [] := toList_mk []
 have hm : ([mroN, atN 4 [nA]]).all mayB = true := by simp [mayB, may, kdOk, attrOk, xsOk, xs1, mroN, mbN, mhN, mLow, atN, t0]
 unfold checkB
 rw [if_neg (by decide), if_neg (by rw [hw]; simp), if_neg (by decide), if_neg (by simp [mroN, mbN, mhN, mLow, atN, nA, nB, nD, nF]), if_neg (by simp [isDir, mroN, mbN, mhN, mLow, atN]), if_neg (by simp [inDir, isDir, mroN, mbN, mhN, mLow, atN]), if_neg (by rw [hm]; simp), if_neg (by simp [mroN, mbN, mhN, mLow, atN])]
theorem ck2 : checkB [mroN, atN 2 [nA], mbN] = 0 := by
 have h1 : valid [97] = 0 := by decide
 have h2 : valid [98] = 0 := by decide
 have h3 : valid [100] = 0 := by decide
 have h4 : valid [102] = 0 := by decide
 have hw : wrong [mroN, atN 2 [nA], mbN] = 0 := by simp [wrong, fv, nA, nB, nD, nF, mroN, mbN, mhN, mLow, atN, h1, h2, h3, h4]
 have t0 : (⟨#[]⟩ : ByteArray).toList = [] := toList_mk []
 have hm : ([mroN, atN 2 [nA], mbN]).all mayB = true := by simp [mayB, may, kdOk, attrOk, xsOk, xs1, mroN, mbN, mhN, mLow, atN, t0]
 unfold checkB
 rw [if_neg (by decide), if_neg (by rw [hw]; simp), if_neg (by decide), if_neg (by simp [mroN, mbN, mhN, mLow, atN, nA, nB, nD, nF]), if_neg (by simp [isDir, mroN, mbN, mhN, mLow, atN]), if_neg (by simp [inDir, isDir, mroN, mbN, mhN, mLow, atN]), if_neg (by rw [hm]; simp), if_neg (by simp [mroN, mbN, mhN, mLow, atN])]
theorem ck3 : checkB [mroN, atN 1 [nD]] = 0 := by
 have h1 : valid [97] = 0 := by decide
 have h2 : valid [98] = 0 := by decide
 have h3 : valid [100] = 0 := by decide
 have h4 : valid [102] = 0 := by decide
 have hw : wrong [mroN, atN 1 [nD]] = 0 := by simp [wrong, fv, nA, nB, nD, nF, mroN, mbN, mhN, mLow, atN, h1, h2, h3, h4]
 have t0 : (⟨#[]⟩ : ByteArray).toList = [] := toList_mk []
 have hm : ([mroN, atN 1 [nD]]).all mayB = true := by simp [mayB, may, kdOk, attrOk, xsOk, xs1, mroN, mbN, mhN, mLow, atN, t0]
 unfold checkB
 rw [if_neg (by decide), if_neg (by rw [hw]; simp), if_neg (by decide), if_neg (by simp [mroN, mbN, mhN, mLow, atN, nA, nB, nD, nF]), if_neg (by simp [isDir, mroN, mbN, mhN, mLow, atN]), if_neg (by simp [inDir, isDir, mroN, mbN, mhN, mLow, atN]), if_neg (by rw [hm]; simp), if_neg (by simp [mroN, mbN, mhN, mLow, atN])]
theorem ck4 : checkB mLow = 0 := by
 have h1 : valid [97] = 0 := by decide
 have h2 : valid [98] = 0 := by decide
 have h3 : valid [100] = 0 := by decide
 have h4 : valid [102] = 0 := by decide
 have hw : wrong mLow = 0 := by simp [wrong, fv, nA, nB, nD, nF, mroN, mbN, mhN, mLow, atN, h1, h2, h3, h4]
 have t0 : (⟨#[]⟩ : ByteArray).toList = [] := toList_mk []
 have hm : (mLow).all mayB = true := by simp [mayB, may, kdOk, attrOk, xsOk, xs1, mroN, mbN, mhN, mLow, atN, t0]
 unfold checkB
 rw [if_neg (by decide), if_neg (by rw [hw]; simp), if_neg (by decide), if_neg (by simp [mroN, mbN, mhN, mLow, atN, nA, nB, nD, nF]), if_neg (by simp [isDir, mroN, mbN, mhN, mLow, atN]), if_neg (by simp [inDir, isDir, mroN, mbN, mhN, mLow, atN]), if_neg (by rw [hm]; simp), if_neg (by simp [mroN, mbN, mhN, mLow, atN])]
theorem ck5 : checkB [mroN, mhN] = 0 := by
 have h1 : valid [97] = 0 := by decide
 have h2 : valid [98] = 0 := by decide
 have h3 : valid [100] = 0 := by decide
 have h4 : valid [102] = 0 := by decide
 have hw : wrong [mroN, mhN] = 0 := by simp [wrong, fv, nA, nB, nD, nF, mroN, mbN, mhN, mLow, atN, h1, h2, h3, h4]
 have t0 : (⟨#[]⟩ : ByteArray).toList = [] := toList_mk []
 have hm : ([mroN, mhN]).all mayB = true := by simp [mayB, may, kdOk, attrOk, xsOk, xs1, mroN, mbN, mhN, mLow, atN, t0]
 unfold checkB
 rw [if_neg (by decide), if_neg (by rw [hw]; simp), if_neg (by decide), if_neg (by simp [mroN, mbN, mhN, mLow, atN, nA, nB, nD, nF]), if_neg (by simp [isDir, mroN, mbN, mhN, mLow, atN]), if_neg (by simp [inDir, isDir, mroN, mbN, mhN, mLow, atN]), if_neg (by rw [hm]; simp), if_neg (by simp [mroN, mbN, mhN, mLow, atN])]
theorem brX : ∀ t ∈ mX, Br t := by
 intro t ht
 simp only [mX, List.mem_cons, List.not_mem_nil, or_false] at ht
 rcases ht with rfl | rfl
 ·exact br_of ck1
 ·exact br_of ck2
theorem brY : ∀ t ∈ mY, Br t := by
 intro t ht
 simp only [mY, List.mem_cons, List.not_mem_nil, or_false] at ht
 rcases ht with rfl | rfl
 ·exact br_of ck3
 ·exact br_of ck4
theorem brZ : ∀ t ∈ mZ, Br t := by
 intro t ht
 simp only [mZ, List.mem_cons, List.not_mem_nil, or_false] at ht
 rcases ht with rfl | rfl
 ·exact br_of ck5
 ·exact br_of ck4
theorem inX : InL mX := by refine ⟨by decide, ?_⟩; decide
theorem inY : InL mY := by refine ⟨by decide, ?_⟩; decide
theorem inZ : InL mZ := by refine ⟨by decide, ?_⟩; decide
theorem shX {r : List Nod} (h : IsMerge mX r) : r.length = 2 ∧ (r.getD 1 nod0).names = [nB] := by
 have e : r = numb ((mrs mX).map (cl cod)) := merge_one (fun t ht => (brX t ht).nodup) h ⟨cod, cod_inj inX, _, List.Perm.refl _, by rw [mrsX]; simp [ltn, nm, less, cl, mroN, mbN, mhN, atN, nA, nB, nD, nF], rfl⟩
 rw [e, mrsX]
 exact ⟨by rfl, by rfl⟩
theorem shY {r : List Nod} (h : IsMerge mY r) : r.length = 3 ∧ (r.getD 2 nod0).names = [nD, nF] := by
 have e : r = numb ((mrs mY).map (cl cod)) := merge_one (fun t ht => (brY t ht).nodup) h ⟨cod, cod_inj inY, _, List.Perm.refl _, by rw [mrsY]; simp [ltn, nm, less, cl, mroN, mbN, mhN, atN, nA, nB, nD, nF], rfl⟩
 rw [e, mrsY]
 exact ⟨by rfl, by rfl⟩
theorem shZ {r : List Nod} (h : IsMerge mZ r) : r.length = 2 ∧ (r.getD 1 nod0).opq = false := by
 have e : r = numb ((mrs mZ).map (cl cod)) := merge_one (fun t ht => (brZ t ht).nodup) h ⟨cod, cod_inj inZ, _, List.Perm.refl _, by rw [mrsZ]; simp [ltn, nm, less, cl, mroN, mbN, mhN, atN, nA, nB, nD, nF], rfl⟩
 rw [e, mrsZ]
 exact ⟨by rfl, by rfl⟩
theorem rep_ro (W : World) : Rep W mroV mroN := rep_bare' none 0 [] 9 1 false (Rs.nil _ _) (fun _ => rfl) (by omega) (by decide)
theorem rep_at1 {W : World} {p : Nat} {s : ByteArray} (k i : Int) (o : Bool) (hi : (Lit.int .i64 i).wf = true) (h : W.heap[p]? = some (.cells #[.string s] 9 (0, 0))) : Rep W ⟨some ⟨p, 0, none⟩, 1, 1, i, k, 0, 0, 0, none, 0, 0, ⟨#[]⟩, none, 0, 0, o⟩ ⟨[s], i, k, 0, 0, 0, [], ⟨#[]⟩, [], o⟩ :=
 rep_bare' _ 1 _ i k o (mrs_one h) (fun e => by cases e) (by omega) hi
theorem rep_at2 {W : World} {p : Nat} {s t : ByteArray} (k i : Int) (o : Bool) (hi : (Lit.int .i64 i).wf = true) (h : W.heap[p]? = some (.cells #[.string s, .string t] 9 (0, 0))) : Rep W ⟨some ⟨p, 0, none⟩, 2, 2, i, k, 0, 0, 0, none, 0, 0, ⟨#[]⟩, none, 0, 0, o⟩ ⟨[s, t], i, k, 0, 0, 0, [], ⟨#[]⟩, [], o⟩ :=
 rep_bare' _ 2 _ i k o (mrs_two h) (fun e => by cases e) (by omega) hi
def cellsT (v u x : Nv) : Array Value := #[.slice v.na v.nn v.nc, .int .i64 v.ino, .int .i64 v.kind, .int .i64 v.mode, .int .i64 v.uid, .int .i64 v.gid, .slice v.da v.dn v.dc, .string v.tg, .slice v.xa v.xn v.xc, .bool v.op, .slice u.na u.nn u.nc, .int .i64 u.ino, .int .i64 u.kind, .int .i64 u.mode, .int .i64 u.uid, .int .i64 u.gid, .slice u.da u.dn u.dc, .string u.tg, .slice u.xa u.xn u.xc, .bool u.op, .slice x.na x.nn x.nc, .int .i64 x.ino, .int .i64 x.kind, .int .i64 x.mode, .int .i64 x.uid, .int .i64 x.gid, .slice x.da x.dn x.dc, .string x.tg, .slice x.xa x.xn x.xc, .bool x.op]
theorem ns_two {W : World} {b : Nat} {v u : Nv} {x y : Nod} (h : W.heap[b]? = some (.cells (cells2 v u) 44 (0, 0))) (r1 : Rep W v x) (r2 : Rep W u y) : Ns W (some ⟨b, 0, none⟩) 2 [(v, x), (u, y)] := by
 refine ⟨rfl, fun p hp => ?_, .inr ⟨b, 0, rfl, heap_lt h, fun i hi => ?_⟩⟩
 ·simp only [List.mem_cons, List.not_mem_nil, or_false] at hp
  rcases hp with rfl | rfl
  ·exact r1
  ·exact r2
 ·have hc : ∀ k, W.cell? ⟨b, k, none⟩ = (cells2 v u)[k]? := fun k => cell_of_row _ _ k _ _ _ h
  match i, hi with
  | 0, _ => exact NodAt.of fun c hc' => by rw [hc]; match c, hc' with | 0, _ => rfl | 1, _ => rfl | 2, _ => rfl | 3, _ => rfl | 4, _ => rfl | 5, _ => rfl | 6, _ => rfl | 7, _ => rfl | 8, _ => rfl | 9, _ => rfl
  | 1, _ => exact NodAt.of fun c hc' => by rw [hc]; match c, hc' with | 0, _ => rfl | 1, _ => rfl | 2, _ => rfl | 3, _ => rfl | 4, _ => rfl | 5, _ => rfl | 6, _ => rfl | 7, _ => rfl | 8, _ => rfl | 9, _ => rfl
theorem ns_three {W : World} {b : Nat} {v u z : Nv} {x y s : Nod} (h : W.heap[b]? = some (.cells (cellsT v u z) 44 (0, 0))) (r1 : Rep W v x) (r2 : Rep W u y) (r3 : Rep W z s) : Ns W (some ⟨b, 0, none⟩) 3 [(v, x), (u, y), (z, s)] := by
 refine ⟨rfl, fun p hp => ?_, .inr ⟨b, 0, rfl, heap_lt h, fun i hi => ?_⟩⟩
 ·simp only [List.mem_cons, List.not_mem_nil, or_false] at hp
  rcases hp with rfl | rfl | rfl
  ·exact r1
  ·exact r2
  ·exact r3
 ·have hc : ∀ k, W.cell? ⟨b, k, none⟩ = (cellsT v u z)[k]? := fun k => cell_of_row _ _ k _ _ _ h
  match i, hi with
  | 0, _ => exact NodAt.of fun c hc' => by rw [hc]; match c, hc' with | 0, _ => rfl | 1, _ => rfl | 2, _ => rfl | 3, _ => rfl | 4, _ => rfl | 5, _ => rfl | 6, _ => rfl | 7, _ => rfl | 8, _ => rfl | 9, _ => rfl
  | 1, _ => exact NodAt.of fun c hc' => by rw [hc]; match c, hc' with | 0, _ => rfl | 1, _ => rfl | 2, _ => rfl | 3, _ => rfl | 4, _ => rfl | 5, _ => rfl | 6, _ => rfl | 7, _ => rfl | 8, _ => rfl | 9, _ => rfl
  | 2, _ => exact NodAt.of fun c hc' => by rw [hc]; match c, hc' with | 0, _ => rfl | 1, _ => rfl | 2, _ => rfl | 3, _ => rfl | 4, _ => rfl | 5, _ => rfl | 6, _ => rfl | 7, _ => rfl | 8, _ => rfl | 9, _ => rfl
theorem nsr_two {W : World} {b : Nat} {y z : Ly} (h : W.heap[b]? = some (.cells #[.slice y.a y.n y.c, .slice z.a z.n z.c] 25 (0, 0))) (r1 : y.Ok W) (r2 : z.Ok W) : NsR W (some ⟨b, 0, none⟩) 2 [y, z] := by
 refine ⟨rfl, fun p hp => ?_, .inr ⟨b, 0, rfl, heap_lt h, fun i hi => ?_⟩⟩
 ·simp only [List.mem_cons, List.not_mem_nil, or_false] at hp
  rcases hp with rfl | rfl
  ·exact r1
  ·exact r2
 ·have hc : ∀ k, W.cell? ⟨b, k, none⟩ = (#[Value.slice y.a y.n y.c, .slice z.a z.n z.c] : Array Value)[k]? := fun k => cell_of_row _ _ k _ _ _ h
  match i, hi with
  | 0, _ => rw [hc]; rfl
  | 1, _ => rw [hc]; rfl
theorem merge_two {W : World} {b : Nat} {y z : Ly} {M : List (List Nod)} (h : W.heap[b]? = some (.cells #[.slice y.a y.n y.c, .slice z.a z.n z.c] 25 (0, 0))) (r1 : y.Ok W) (r2 : z.Ok W) (hM : [nds y.L, nds z.L] = M) (hs : y.n + z.n ≤ 1000) (hB : ∀ t ∈ M, Br t) :
  Calls Try.prog 11 #[.slice (some ⟨b, 0, none⟩) 2 2] W fun e w' => ∃ ao k c' P, e = .returned (.slice ao k c') ∧ Ns w' ao k P ∧ IsMerge M (nds P) ∧ Below W.heap.size W w' := by
 have hl : lys [y, z] = M := hM
 have hcnt : cntP [y, z] 2 = y.n + z.n := by simp [cntP, gy]
 refine (merge_any (some ⟨b, 0, none⟩) 2 2 [y, z] W (nsr_two h r1 r2) (by omega) (by omega) (by rw [hl]; exact hB)).mono ?_
 rintro e w' ⟨ao, k, c', P, rfl, _, h2, _, h4, h5⟩
 rw [hl] at h4
 exact ⟨ao, k, c', P, rfl, h2, h4, h5⟩
theorem nds_gl {L : List (Nv × Nod)} {i : Nat} (h : i < L.length) : (nds L).getD i nod0 = (gl L i).2 := by
 rw [gl_lt L i h]; simp [nds, h]
theorem ns_len {W : World} {ao : Option Addr} {k : Nat} {P : List (Nv × Nod)} (h : Ns W ao k P) : (nds P).length = k := by rw [nds_length]; exact h.1
theorem mX_any {W : World} {p32 p27 p31 p25 sa sb : Nat} (f32 : W.heap[p32]? = some (.cells #[.slice (some ⟨p27, 0, none⟩) 2 2, .slice (some ⟨p31, 0, none⟩) 3 3] 25 (0, 0)))
  (f27 : W.heap[p27]? = some (.cells (cells2 mroV (atV 4 p25 1)) 44 (0, 0))) (f31 : W.heap[p31]? = some (.cells (cellsT mroV (atV 2 sa 1) { (atV 2 sb 1) with ino := 5 }) 44 (0, 0)))
  (f25 : W.heap[p25]? = some (.cells #[.string nA] 9 (0, 0))) (fa : W.heap[sa]? = some (.cells #[.string nA] 9 (0, 0))) (fb : W.heap[sb]? = some (.cells #[.string nB] 9 (0, 0))) :
  Calls Try.prog 11 #[.slice (some ⟨p32, 0, none⟩) 2 2] W fun e w' => ∃ ao c' P, e = .returned (.slice ao 2 c') ∧ Ns w' ao 2 P ∧ (gl P 1).2.names = [nB] ∧ Below W.heap.size W w' := by
 refine (merge_two (y := ⟨some ⟨p27, 0, none⟩, 2, 2, [(mroV, mroN), (atV 4 p25 1, atN 4 [nA])]⟩) (z := ⟨some ⟨p31, 0, none⟩, 3, 3, [(mroV, mroN), (atV 2 sa 1, atN 2 [nA]), ({ (atV 2 sb 1) with ino := 5 }, mbN)]⟩) (M := mX) f32 ⟨ns_two f27 (rep_ro W) (rep_at1 4 1 false (by decide) f25), Nat.le_refl _, (by decide : (2 : Nat) ≤ 9223372036854775807)⟩ ⟨ns_three f31 (rep_ro W) (rep_at1 2 1 false (by decide) fa) (rep_at1 2 5 false (by decide) fb), Nat.le_refl _, (by decide : (3 : Nat) ≤ 9223372036854775807)⟩ rfl (by decide : (2 : Nat) + 3 ≤ 1000) brX).mono ?_
 rintro e w' ⟨ao, k, c', P, rfl, h2, h4, h5⟩
 obtain ⟨q1, q2⟩ := shX h4
 rw [ns_len h2] at q1
 subst q1
 rw [nds_gl (by rw [h2.1]; omega)] at q2
 exact ⟨ao, c', P, rfl, h2, q2, h5⟩
theorem low_ok {W : World} {b5 p6 p7 : Nat} (f5 : W.heap[b5]? = some (.cells (cellsT mroV (atV 1 p6 1) (atV 2 p7 2)) 44 (0, 0))) (f6 : W.heap[p6]? = some (.cells #[.string nD] 9 (0, 0))) (f7 : W.heap[p7]? = some (.cells #[.string nD, .string nF] 9 (0, 0))) :
  (⟨some ⟨b5, 0, none⟩, 3, 3, [(mroV, mroN), (atV 1 p6 1, atN 1 [nD]), (atV 2 p7 2, atN 2 [nD, nF])]⟩ : Ly).Ok W :=
 ⟨ns_three f5 (rep_ro W) (rep_at1 1 1 false (by decide) f6) (rep_at2 2 2 false (by decide) f7), Nat.le_refl _, (by decide : (3 : Nat) ≤ 9223372036854775807)⟩
theorem mY_any {W : World} {p39 p37 p35 b5 p6 p7 : Nat} (f39 : W.heap[p39]? = some (.cells #[.slice (some ⟨p37, 0, none⟩) 2 2, .slice (some ⟨b5, 0, none⟩) 3 3] 25 (0, 0)))
  (f37 : W.heap[p37]? = some (.cells (cells2 mroV (atV 1 p35 1)) 44 (0, 0))) (f35 : W.heap[p35]? = some (.cells #[.string nD] 9 (0, 0)))
  (f5 : W.heap[b5]? = some (.cells (cellsT mroV (atV 1 p6 1) (atV 2 p7 2)) 44 (0, 0))) (f6 : W.heap[p6]? = some (.cells #[.string nD] 9 (0, 0))) (f7 : W.heap[p7]? = some (.cells #[.string nD, .string nF] 9 (0, 0))) :
  Calls Try.prog 11 #[.slice (some ⟨p39, 0, none⟩) 2 2] W fun e w' => ∃ ao c' P, e = .returned (.slice ao 3 c') ∧ Ns w' ao 3 P ∧ (gl P 2).2.names = [nD, nF] ∧ Below W.heap.size W w' := by
 refine (merge_two (y := ⟨some ⟨p37, 0, none⟩, 2, 2, [(mroV, mroN), (atV 1 p35 1, atN 1 [nD])]⟩) (z := ⟨some ⟨b5, 0, none⟩, 3, 3, [(mroV, mroN), (atV 1 p6 1, atN 1 [nD]), (atV 2 p7 2, atN 2 [nD, nF])]⟩) (M := mY) f39 ⟨ns_two f37 (rep_ro W) (rep_at1 1 1 false (by decide) f35), Nat.le_refl _, (by decide : (2 : Nat) ≤ 9223372036854775807)⟩ (low_ok f5 f6 f7) rfl (by decide : (2 : Nat) + 3 ≤ 1000) brY).mono ?_
 rintro e w' ⟨ao, k, c', P, rfl, h2, h4, h5⟩
 obtain ⟨q1, q2⟩ := shY h4
 rw [ns_len h2] at q1
 subst q1
 rw [nds_gl (by rw [h2.1]; omega)] at q2
 exact ⟨ao, c', P, rfl, h2, q2, h5⟩
theorem mZ_any {W : World} {p45 p43 s4 b5 p6 p7 : Nat} (f45 : W.heap[p45]? = some (.cells #[.slice (some ⟨p43, 0, none⟩) 2 2, .slice (some ⟨b5, 0, none⟩) 3 3] 25 (0, 0)))
  (f43 : W.heap[p43]? = some (.cells (cells2 mroV { (atV 1 s4 1) with op := true }) 44 (0, 0))) (f4 : W.heap[s4]? = some (.cells #[.string nD] 9 (0, 0)))
  (f5 : W.heap[b5]? = some (.cells (cellsT mroV (atV 1 p6 1) (atV 2 p7 2)) 44 (0, 0))) (f6 : W.heap[p6]? = some (.cells #[.string nD] 9 (0, 0))) (f7 : W.heap[p7]? = some (.cells #[.string nD, .string nF] 9 (0, 0))) :
  Calls Try.prog 11 #[.slice (some ⟨p45, 0, none⟩) 2 2] W fun e w' => ∃ ao c' P, e = .returned (.slice ao 2 c') ∧ Ns w' ao 2 P ∧ (gl P 1).2.opq = false ∧ Below W.heap.size W w' := by
 refine (merge_two (y := ⟨some ⟨p43, 0, none⟩, 2, 2, [(mroV, mroN), ({ (atV 1 s4 1) with op := true }, mhN)]⟩) (z := ⟨some ⟨b5, 0, none⟩, 3, 3, [(mroV, mroN), (atV 1 p6 1, atN 1 [nD]), (atV 2 p7 2, atN 2 [nD, nF])]⟩) (M := mZ) f45 ⟨ns_two f43 (rep_ro W) (rep_at1 1 1 true (by decide) f4), Nat.le_refl _, (by decide : (2 : Nat) ≤ 9223372036854775807)⟩ (low_ok f5 f6 f7) rfl (by decide : (2 : Nat) + 3 ≤ 1000) brZ).mono ?_
 rintro e w' ⟨ao, k, c', P, rfl, h2, h4, h5⟩
 obtain ⟨q1, q2⟩ := shZ h4
 rw [ns_len h2] at q1
 subst q1
 rw [nds_gl (by rw [h2.1]; omega)] at q2
 exact ⟨ao, c', P, rfl, h2, q2, h5⟩
end Go.Proofs.Ytoocipdhplaboaa
namespace Go.Proofs.Ytoocipdhplaboaa
set_option maxRecDepth 100000
open Go.RowKit Go.Maps
open Nam Tre Mrg
structure SX (w W : World) (q1 s2 q2 s3 q3 s4 q4 : Nat) : Prop where
 r : W.heap[q1]? = some (.cells mroV.cells 44 (0, 0))
 sa : W.heap[s2]? = some (.cells #[.string nA] 9 (0, 0))
 a : W.heap[q2]? = some (.cells (atV 2 s2 1).cells 44 (0, 0))
 sb : W.heap[s3]? = some (.cells #[.string nB] 9 (0, 0))
 b : W.heap[q3]? = some (.cells ({ (atV 2 s3 1) with ino := 5 } : Nv).cells 44 (0, 0))
 sd : W.heap[s4]? = some (.cells #[.string nD] 9 (0, 0))
 d : W.heap[q4]? = some (.cells ({ (atV 1 s4 1) with op := true } : Nv).cells 44 (0, 0))
 bel : Below w.heap.size w W
theorem SX.below {w W W' : World} {q1 s2 q2 s3 q3 s4 q4 : Nat} (h : SX w W q1 s2 q2 s3 q3 s4 q4) (hb : Below W.heap.size W W') : SX w W' q1 s2 q2 s3 q3 s4 q4 :=
 ⟨(hb.block _ (heap_lt h.r)).trans h.r, (hb.block _ (heap_lt h.sa)).trans h.sa, (hb.block _ (heap_lt h.a)).trans h.a, (hb.block _ (heap_lt h.sb)).trans h.sb, (hb.block _ (heap_lt h.b)).trans h.b, (hb.block _ (heap_lt h.sd)).trans h.sd, (hb.block _ (heap_lt h.d)).trans h.d, h.bel.trans (hb.mono h.bel.size)⟩
theorem up_blk {w w' : World} (hb : Below w.heap.size w w') {k : Nat} {o : Obj} (h : w.heap[k]? = some o) : w'.heap[k]? = some o := (hb.block k (heap_lt h)).trans h
set_option maxHeartbeats 4000000 in
theorem shown_any (w : World) : Calls Try.prog 9 #[] w fun e w' => e = .returned (.bool true) ∧ Below w.heap.size w w' := by
 go_enter Try.func9, Try.ntmps9
 go_upto_region 2 with fail
 obtain ⟨w1, hw1⟩ : ∃ w1, w1 = w.alloc (Obj.cells mroV.cells 44) := ⟨_, rfl⟩
 have hr1 : w1.heap[w.heap.size]? = some (.cells mroV.cells 44 (0, 0)) := by rw [hw1]; exact heap_alloc_new w _
 have hb1 : Below w.heap.size w w1 := by rw [hw1]; exact below_one _ _
 have hw1' := hw1
 simp only [mroV, Nv.cells] at hw1'
 rw [← hw1']
 have HR1 := hide hr1
 have HB1 := hide hb1
 clear hw1 hw1' hr1 hb1
 have y1 : w.heap.size < w1.heap.size := heap_lt HR1.out
 have y1 : w.heap.size < w1.heap.size := heap_lt HR1.out
 go_upto_region 3 with (go_at_call 28; refine (at_any 2 _ 1 _).mono ?_; rintro e w2 ⟨rfl, hbw2⟩; have HBw2 := hide hbw2; clear hbw2)
 obtain ⟨w3, hw3⟩ : ∃ x, x = w2.alloc (Obj.cells #[.slice (some ⟨w1.heap.size, 0, none⟩) 1 1, .int .i64 1, .int .i64 2, .int .i64 0, .int .i64 0, .int .i64 0, .slice none 0 0, .string ⟨#[]⟩, .slice none 0 0, .bool false] 44) := ⟨_, rfl⟩
 rw [← hw3]
 have hbw3 : Below w2.heap.size w2 w3 := by rw [hw3]; exact below_one _ _
 have Bw3 : Hid (Below w1.heap.size w1 w3) := ((below_one w1 _).trans (HBw2.out.mono (below_one w1 _).size)).trans (hbw3.mono (Nat.le_trans (below_one w1 _).size HBw2.out.size))
 have f_r_w3 : Hid (w3.heap[w.heap.size]? = some (Obj.cells mroV.cells 44)) := up_blk Bw3.out HR1.out
 have f_sa_w3 : Hid (w3.heap[w1.heap.size]? = some (Obj.cells #[.string nA] 9)) := up_blk hbw3 (up_blk HBw2.out (heap_alloc_new _ _))
 have f_a_w3 : Hid (w3.heap[w2.heap.size]? = some (Obj.cells (atV 2 w1.heap.size 1).cells 44)) := by show _ = _; rw [hw3]; exact heap_alloc_new _ _
 have Gw3 : Hid (Below w.heap.size w w3) := HB1.out.trans (Bw3.out.mono HB1.out.size)
 have zw3 : w1.heap.size < w2.heap.size := by have h2 := HBw2.out.size; rw [World.size_alloc] at h2; omega
 have yw3 : w2.heap.size < w3.heap.size := heap_lt f_a_w3.out
 clear hw3 hbw3
 go_upto_region 4 with (go_at_call 28; refine (at_any 2 _ 1 _).mono ?_; rintro e w4 ⟨rfl, hbw4⟩; have HBw4 := hide hbw4; clear hbw4)
 obtain ⟨w5, hw5⟩ : ∃ x, x = w4.alloc (Obj.cells #[.slice (some ⟨w3.heap.size, 0, none⟩) 1 1, .int .i64 1, .int .i64 2, .int .i64 0, .int .i64 0, .int .i64 0, .slice none 0 0, .string ⟨#[]⟩, .slice none 0 0, .bool false] 44) := ⟨_, rfl⟩
 rw [← hw5]
 have hbw5 : Below w4.heap.size w4 w5 := by rw [hw5]; exact below_one _ _
 have Bw5 : Hid (Below w3.heap.size w3 w5) := ((below_one w3 _).trans (HBw4.out.mono (below_one w3 _).size)).trans (hbw5.mono (Nat.le_trans (below_one w3 _).size HBw4.out.size))
 have f_r_w5 : Hid (w5.heap[w.heap.size]? = some (Obj.cells mroV.cells 44)) := up_blk Bw5.out f_r_w3.out
 have f_sa_w5 : Hid (w5.heap[w1.heap.size]? = some (Obj.cells #[.string nA] 9)) := up_blk Bw5.out f_sa_w3.out
 have f_a_w5 : Hid (w5.heap[w2.heap.size]? = some (Obj.cells (atV 2 w1.heap.size 1).cells 44)) := up_blk Bw5.out f_a_w3.out
 have f_sb_w5 : Hid (w5.heap[w3.heap.size]? = some (Obj.cells #[.string nB] 9)) := up_blk hbw5 (up_blk HBw4.out (heap_alloc_new _ _))
 have f_b_w5 : Hid (w5.heap[w4.heap.size]? = some (Obj.cells (atV 2 w3.heap.size 1).cells 44)) := by show _ = _; rw [hw5]; exact heap_alloc_new _ _
 have Gw5 : Hid (Below w.heap.size w w5) := Gw3.out.trans (Bw5.out.mono Gw3.out.size)
 have zw5 : w3.heap.size < w4.heap.size := by have h2 := HBw4.out.size; rw [World.size_alloc] at h2; omega
 have yw5 : w4.heap.size < w5.heap.size := heap_lt f_b_w5.out
 clear hw5 hbw5
 have bkw6 : Bk w5 (w4.heap.size) _ := f_b_w5.out
 have cw6 : w5.cell? ⟨w4.heap.size, 1, none⟩ = some (.int .i64 1) := bkw6.box.c1
 have zw6 : w5.frozen? ⟨w4.heap.size, 1, none⟩ = false := bkw6.frozen 1
 go_upto_region 5 with fail
 obtain ⟨w6, hw6⟩ : ∃ x, x = w5.setCell ⟨w4.heap.size, 1, none⟩ (.int .i64 5) := ⟨_, rfl⟩
 rw [← hw6]
 have f_b_w6 : Hid (w6.heap[w4.heap.size]? = some (Obj.cells ({ (atV 2 w3.heap.size 1) with ino := 5 } : Nv).cells 44)) := by show _ = _; rw [hw6]; exact setCell_heap _ _ _ _ _ _ _ f_b_w5.out
 have f_r_w6 : Hid (w6.heap[w.heap.size]? = some (Obj.cells mroV.cells 44)) := by show _ = _; rw [hw6, set_other _ _ _ _ _ (by omega)]; exact f_r_w5.out
 have f_sa_w6 : Hid (w6.heap[w1.heap.size]? = some (Obj.cells #[.string nA] 9)) := by show _ = _; rw [hw6, set_other _ _ _ _ _ (by omega)]; exact f_sa_w5.out
 have f_a_w6 : Hid (w6.heap[w2.heap.size]? = some (Obj.cells (atV 2 w1.heap.size 1).cells 44)) := by show _ = _; rw [hw6, set_other _ _ _ _ _ (by omega)]; exact f_a_w5.out
 have f_sb_w6 : Hid (w6.heap[w3.heap.size]? = some (Obj.cells #[.string nB] 9)) := by show _ = _; rw [hw6, set_other _ _ _ _ _ (by omega)]; exact f_sb_w5.out
 have Gw6 : Hid (Below w.heap.size w w6) := by show Below _ _ _; rw [hw6]; exact Gw5.out.setCell (by show w.heap.size ≤ w4.heap.size; omega) _
 have Yw6 : Hid (w6.heap.size = w5.heap.size) := by show _ = _; rw [hw6]; simp
 clear hw6 cw6 zw6 bkw6
 go_upto_region 6 with (go_at_call 28; refine (at_any 1 _ 1 _).mono ?_; rintro e w7 ⟨rfl, hbw7⟩; have HBw7 := hide hbw7; clear hbw7)
 obtain ⟨w8, hw8⟩ : ∃ x, x = w7.alloc (Obj.cells #[.slice (some ⟨w6.heap.size, 0, none⟩) 1 1, .int .i64 1, .int .i64 1, .int .i64 0, .int .i64 0, .int .i64 0, .slice none 0 0, .string ⟨#[]⟩, .slice none 0 0, .bool false] 44) := ⟨_, rfl⟩
 rw [← hw8]
 have hbw8 : Below w7.heap.size w7 w8 := by rw [hw8]; exact below_one _ _
 have Bw8 : Hid (Below w6.heap.size w6 w8) := ((below_one w6 _).trans (HBw7.out.mono (below_one w6 _).size)).trans (hbw8.mono (Nat.le_trans (below_one w6 _).size HBw7.out.size))
 have f_r_w8 : Hid (w8.heap[w.heap.size]? = some (Obj.cells mroV.cells 44)) := up_blk Bw8.out f_r_w6.out
 have f_sa_w8 : Hid (w8.heap[w1.heap.size]? = some (Obj.cells #[.string nA] 9)) := up_blk Bw8.out f_sa_w6.out
 have f_a_w8 : Hid (w8.heap[w2.heap.size]? = some (Obj.cells (atV 2 w1.heap.size 1).cells 44)) := up_blk Bw8.out f_a_w6.out
 have f_sb_w8 : Hid (w8.heap[w3.heap.size]? = some (Obj.cells #[.string nB] 9)) := up_blk Bw8.out f_sb_w6.out
 have f_b_w8 : Hid (w8.heap[w4.heap.size]? = some (Obj.cells ({ (atV 2 w3.heap.size 1) with ino := 5 } : Nv).cells 44)) := up_blk Bw8.out f_b_w6.out
 have f_sd_w8 : Hid (w8.heap[w6.heap.size]? = some (Obj.cells #[.string nD] 9)) := up_blk hbw8 (up_blk HBw7.out (heap_alloc_new _ _))
 have f_d_w8 : Hid (w8.heap[w7.heap.size]? = some (Obj.cells (atV 1 w6.heap.size 1).cells 44)) := by show _ = _; rw [hw8]; exact heap_alloc_new _ _
 have Gw8 : Hid (Below w.heap.size w w8) := Gw6.out.trans (Bw8.out.mono Gw6.out.size)
 have zw8 : w6.heap.size < w7.heap.size := by have h2 := HBw7.out.size; rw [World.size_alloc] at h2; omega
 have yw8 : w7.heap.size < w8.heap.size := heap_lt f_d_w8.out
 clear hw8 hbw8
 have bkw9 : Bk w8 (w7.heap.size) _ := f_d_w8.out
 have cw9 : w8.cell? ⟨w7.heap.size, 9, none⟩ = some (.bool false) := bkw9.box.c9
 have zw9 : w8.frozen? ⟨w7.heap.size, 9, none⟩ = false := bkw9.frozen 9
 go_upto_region 7 with fail
 obtain ⟨w9, hw9⟩ : ∃ x, x = w8.setCell ⟨w7.heap.size, 9, none⟩ (.bool true) := ⟨_, rfl⟩
 rw [← hw9]
 have f_d_w9 : Hid (w9.heap[w7.heap.size]? = some (Obj.cells ({ (atV 1 w6.heap.size 1) with op := true } : Nv).cells 44)) := by show _ = _; rw [hw9]; exact setCell_heap _ _ _ _ _ _ _ f_d_w8.out
 have f_r_w9 : Hid (w9.heap[w.heap.size]? = some (Obj.cells mroV.cells 44)) := by show _ = _; rw [hw9, set_other _ _ _ _ _ (by have := Yw6.out; omega)]; exact f_r_w8.out
 have f_sa_w9 : Hid (w9.heap[w1.heap.size]? = some (Obj.cells #[.string nA] 9)) := by show _ = _; rw [hw9, set_other _ _ _ _ _ (by have := Yw6.out; omega)]; exact f_sa_w8.out
 have f_a_w9 : Hid (w9.heap[w2.heap.size]? = some (Obj.cells (atV 2 w1.heap.size 1).cells 44)) := by show _ = _; rw [hw9, set_other _ _ _ _ _ (by have := Yw6.out; omega)]; exact f_a_w8.out
 have f_sb_w9 : Hid (w9.heap[w3.heap.size]? = some (Obj.cells #[.string nB] 9)) := by show _ = _; rw [hw9, set_other _ _ _ _ _ (by have := Yw6.out; omega)]; exact f_sb_w8.out
 have f_b_w9 : Hid (w9.heap[w4.heap.size]? = some (Obj.cells ({ (atV 2 w3.heap.size 1) with ino := 5 } : Nv).cells 44)) := by show _ = _; rw [hw9, set_other _ _ _ _ _ (by have := Yw6.out; omega)]; exact f_b_w8.out
 have f_sd_w9 : Hid (w9.heap[w6.heap.size]? = some (Obj.cells #[.string nD] 9)) := by show _ = _; rw [hw9, set_other _ _ _ _ _ (by have := Yw6.out; omega)]; exact f_sd_w8.out
 have Gw9 : Hid (Below w.heap.size w w9) := by show Below _ _ _; rw [hw9]; exact Gw8.out.setCell (by show w.heap.size ≤ w7.heap.size; have := Yw6.out; omega) _
 have Yw9 : Hid (w9.heap.size = w8.heap.size) := by show _ = _; rw [hw9]; simp
 clear hw9 cw9 zw9 bkw9
 have HX : Hid (SX w w9 w.heap.size w1.heap.size w2.heap.size w3.heap.size w4.heap.size w6.heap.size w7.heap.size) := ⟨f_r_w9.out, f_sa_w9.out, f_a_w9.out, f_sb_w9.out, f_b_w9.out, f_sd_w9.out, f_d_w9.out, Gw9.out⟩
 clear HR1 HB1 HBw2 HBw4 HBw7 Bw3 Bw5 Bw8 Gw3 Gw5 Gw6 Gw8 Gw9 f_r_w3 f_sa_w3 f_a_w3 f_r_w5 f_sa_w5 f_a_w5 f_sb_w5 f_b_w5 f_r_w6 f_sa_w6 f_a_w6 f_sb_w6 f_b_w6 f_r_w8 f_sa_w8 f_a_w8 f_sb_w8 f_b_w8 f_sd_w8 f_d_w8 f_r_w9 f_sa_w9 f_a_w9 f_sb_w9 f_b_w9 f_sd_w9 f_d_w9
 have HL1 : Hid (∀ W, Below w9.heap.size w9 W → W.cell? ⟨w.heap.size, 0, none⟩ = some (.slice none 0 0) ∧ W.cell? ⟨w.heap.size, 1, none⟩ = some (.int .i64 9) ∧ W.cell? ⟨w.heap.size, 2, none⟩ = some (.int .i64 1) ∧ W.cell? ⟨w.heap.size, 3, none⟩ = some (.int .i64 0) ∧ W.cell? ⟨w.heap.size, 4, none⟩ = some (.int .i64 0) ∧ W.cell? ⟨w.heap.size, 5, none⟩ = some (.int .i64 0) ∧ W.cell? ⟨w.heap.size, 6, none⟩ = some (.slice none 0 0) ∧ W.cell? ⟨w.heap.size, 7, none⟩ = some (.string ⟨#[]⟩) ∧ W.cell? ⟨w.heap.size, 8, none⟩ = some (.slice none 0 0) ∧ W.cell? ⟨w.heap.size, 9, none⟩ = some (.bool false)) := fun W hW => by
  obtain ⟨_, b0, b1, b2, b3, b4, b5, b6, b7, b8, b9⟩ := Bk.box (up_blk hW HX.out.r)
  exact ⟨b0, b1, b2, b3, b4, b5, b6, b7, b8, b9⟩
 go_cut [5] from 9 (fun s5 wx => ∃ b5 p6 p7, s5 = .slice (some ⟨b5, 0, none⟩) 3 3 ∧ wx.heap[b5]? = some (Obj.cells #[.slice none 0 0, .int .i64 9, .int .i64 1, .int .i64 0, .int .i64 0, .int .i64 0, .slice none 0 0, .string ⟨#[]⟩, .slice none 0 0, .bool false, .slice (some ⟨p6, 0, none⟩) 1 1, .int .i64 1, .int .i64 1, .int .i64 0, .int .i64 0, .int .i64 0, .slice none 0 0, .string ⟨#[]⟩, .slice none 0 0, .bool false, .slice (some ⟨p7, 0, none⟩) 2 2, .int .i64 2, .int .i64 2, .int .i64 0, .int .i64 0, .int .i64 0, .slice none 0 0, .string ⟨#[]⟩, .slice none 0 0, .bool false] 44) ∧ wx.heap[p6]? = some (Obj.cells #[.string nD] 9) ∧ wx.heap[p7]? = some (Obj.cells #[.string nD, .string nF] 9) ∧ Below w9.heap.size w9 wx)
 case first =>
  refine wp_region_held_drew (S := fun wX => Below w9.heap.size w9 wX) (by kernel_rfl) (below_drewN (Below.refl _ _) 1) (fun hHeld => ?_)
  obtain ⟨wd, hwd⟩ : ∃ x, x = w9.drewN 1 := ⟨_, rfl⟩
  have Swd : Hid (Below w9.heap.size w9 wd) := by show Below _ _ _; rw [hwd]; exact below_drewN (Below.refl _ _) 1
  first | rw [← hwd] | (have hwd2 : wd = w9.drew := hwd; rw [← hwd2]; clear hwd2)
  clear hwd
  refine wpAnyH_take (i := 0) (oi := ⟨some 18, _, _, _, _, _⟩) (v := ?_) rfl (by kernel_rfl) (by kernel_rfl) (by kernel_rfl) (fun _ _ _ h => h) (Or.inl ⟨by rfl, ?_⟩) (by assumption) ?_
  rotate_left
  ·(intro wS hSw; obtain ⟨b0, b1, b2, b3, b4, b5, b6, b7, b8, b9⟩ := HL1.out wS hSw; go_simp; try with_reducible rfl)
  try simp only [Act.put, List.setIfInBounds_toArray, List.set_cons_zero, List.set_cons_succ]
  refine wpAnyH_ready (rs := [1, 3]) (by kernel_rfl) (by simp) ?_
  refine AllReadyH.cons (o := ⟨some 19, _, _, _, _, _⟩) rfl (fun K hK => ?_) (AllReadyH.cons (o := ⟨some 21, _, _, _, _, _⟩) rfl (fun K hK => ?_) AllReadyH.nil)
  ·go_simp
   obtain ⟨x1, hx1⟩ : ∃ x, x = wd.alloc (Obj.cells #[.string ⟨#[100]⟩] 9) := ⟨_, rfl⟩
   rw [← hx1]
   have Bx1 : Hid (Below wd.heap.size wd x1) := by show Below _ _ _; rw [hx1]; exact below_one _ _
   have e_s1_x1 : Hid (x1.heap[wd.heap.size]? = some (Obj.cells #[.string ⟨#[100]⟩] 9)) := by show _ = _; rw [hx1]; exact heap_alloc_new _ _
   have Sx1 := hide (Swd.out.trans (Bx1.out.mono Swd.out.size))
   clear hx1
   refine hK.out _ _ Sx1.out (fun hHeld => ?_)
   clear hK K
   try simp only [Act.put, List.setIfInBounds_toArray, List.set_cons_zero, List.set_cons_succ]
   refine wpAnyH_ready (rs := [2, 3]) (by kernel_rfl) (by simp) ?_
   refine AllReadyH.cons (o := ⟨some 20, _, _, _, _, _⟩) rfl (fun K hK => ?_) (AllReadyH.cons (o := ⟨some 21, _, _, _, _, _⟩) rfl (fun K hK => ?_) AllReadyH.nil)
   ·go_simp
    refine (at_any 1 _ 1 _).mono ?_
    rintro e x3 ⟨rfl, hbx3⟩
    have Bx3 := hide hbx3
    clear hbx3
    have e_s1_x3 : Hid (x3.heap[wd.heap.size]? = some (Obj.cells #[.string ⟨#[100]⟩] 9)) := up_blk Bx3.out e_s1_x1.out
    have Sx3 := hide (Sx1.out.trans (Bx3.out.mono Sx1.out.size))
    refine hK.out _ _ Sx3.out (fun hHeld => ?_)
    clear hK K
    try simp only [Act.put, List.setIfInBounds_toArray, List.set_cons_zero, List.set_cons_succ]
    refine wpAnyH_ready (rs := [3]) (by kernel_rfl) (by simp) ?_
    refine AllReadyH.cons (o := ⟨some 21, _, _, _, _, _⟩) rfl (fun K hK => ?_) AllReadyH.nil
    go_simp
    obtain ⟨x5, hx5⟩ : ∃ x, x = x3.alloc (Obj.cells #[.string ⟨#[100]⟩, .string ⟨#[102]⟩] 9) := ⟨_, rfl⟩
    rw [← hx5]
    have Bx5 : Hid (Below x3.heap.size x3 x5) := by show Below _ _ _; rw [hx5]; exact below_one _ _
    have e_s1_x5 : Hid (x5.heap[wd.heap.size]? = some (Obj.cells #[.string ⟨#[100]⟩] 9)) := up_blk Bx5.out e_s1_x3.out
    have e_s2_x5 : Hid (x5.heap[x3.heap.size]? = some (Obj.cells #[.string ⟨#[100]⟩, .string ⟨#[102]⟩] 9)) := by show _ = _; rw [hx5]; exact heap_alloc_new _ _
    have Sx5 := hide (Sx3.out.trans (Bx5.out.mono Sx3.out.size))
    clear hx5
    refine hK.out _ _ Sx5.out (fun hHeld => ?_)
    clear hK K
    try simp only [Act.put, List.setIfInBounds_toArray, List.set_cons_zero, List.set_cons_succ]
    refine wpAnyH_ready (rs := [4]) (by kernel_rfl) (by simp) ?_
    refine AllReadyH.cons (o := ⟨some 22, _, _, _, _, _⟩) rfl (fun K hK => ?_) AllReadyH.nil
    go_simp
    refine (at_any 2 _ 2 _).mono ?_
    rintro e x6 ⟨rfl, hbx6⟩
    have Bx6 := hide hbx6
    clear hbx6
    have e_s1_x6 : Hid (x6.heap[wd.heap.size]? = some (Obj.cells #[.string ⟨#[100]⟩] 9)) := up_blk Bx6.out e_s1_x5.out
    have e_s2_x6 : Hid (x6.heap[x3.heap.size]? = some (Obj.cells #[.string ⟨#[100]⟩, .string ⟨#[102]⟩] 9)) := up_blk Bx6.out e_s2_x5.out
    have Sx6 := hide (Sx5.out.trans (Bx6.out.mono Sx5.out.size))
    refine hK.out _ _ Sx6.out (fun hHeld => ?_)
    clear hK K
    try simp only [Act.put, List.setIfInBounds_toArray, List.set_cons_zero, List.set_cons_succ]
    refine wpAnyH_ready (rs := [5]) (by kernel_rfl) (by simp) ?_
    refine AllReadyH.cons (o := ⟨some 23, _, _, _, _, _⟩) rfl (fun K hK => ?_) AllReadyH.nil
    go_simp
    obtain ⟨x7, hx7⟩ : ∃ x, x = x6.alloc (Obj.cells #[.slice none 0 0, .int .i64 9, .int .i64 1, .int .i64 0, .int .i64 0, .int .i64 0, .slice none 0 0, .string ⟨#[]⟩, .slice none 0 0, .bool false, .slice (some ⟨wd.heap.size, 0, none⟩) 1 1, .int .i64 1, .int .i64 1, .int .i64 0, .int .i64 0, .int .i64 0, .slice none 0 0, .string ⟨#[]⟩, .slice none 0 0, .bool false, .slice (some ⟨x3.heap.size, 0, none⟩) 2 2, .int .i64 2, .int .i64 2, .int .i64 0, .int .i64 0, .int .i64 0, .slice none 0 0, .string ⟨#[]⟩, .slice none 0 0, .bool false] 44) := ⟨_, rfl⟩
    rw [← hx7]
    have Bx7 : Hid (Below x6.heap.size x6 x7) := by show Below _ _ _; rw [hx7]; exact below_one _ _
    have e_s1_x7 : Hid (x7.heap[wd.heap.size]? = some (Obj.cells #[.string ⟨#[100]⟩] 9)) := up_blk Bx7.out e_s1_x6.out
    have e_s2_x7 : Hid (x7.heap[x3.heap.size]? = some (Obj.cells #[.string ⟨#[100]⟩, .string ⟨#[102]⟩] 9)) := up_blk Bx7.out e_s2_x6.out
    have e_ar_x7 : Hid (x7.heap[x6.heap.size]? = some (Obj.cells #[.slice none 0 0, .int .i64 9, .int .i64 1, .int .i64 0, .int .i64 0, .int .i64 0, .slice none 0 0, .string ⟨#[]⟩, .slice none 0 0, .bool false, .slice (some ⟨wd.heap.size, 0, none⟩) 1 1, .int .i64 1, .int .i64 1, .int .i64 0, .int .i64 0, .int .i64 0, .slice none 0 0, .string ⟨#[]⟩, .slice none 0 0, .bool false, .slice (some ⟨x3.heap.size, 0, none⟩) 2 2, .int .i64 2, .int .i64 2, .int .i64 0, .int .i64 0, .int .i64 0, .slice none 0 0, .string ⟨#[]⟩, .slice none 0 0, .bool false] 44)) := by show _ = _; rw [hx7]; exact heap_alloc_new _ _
    have Sx7 := hide (Sx6.out.trans (Bx7.out.mono Sx6.out.size))
    clear hx7
    refine hK.out _ _ Sx7.out (fun hHeld => ?_)
    clear hK K
    try simp only [Act.put, List.setIfInBounds_toArray, List.set_cons_zero, List.set_cons_succ]
    refine wpAnyH_take (i := 6) (oi := ⟨some 5, _, _, _, _, _⟩) (v := ?_) rfl (by kernel_rfl) (by kernel_rfl) (by kernel_rfl) (fun _ _ _ h => h) (Or.inl ⟨by rfl, ?_⟩) (by assumption) ?_
    rotate_left
    ·(intro wS hSw; go_simp; try with_reducible rfl)
    try simp only [Act.put, List.setIfInBounds_toArray, List.set_cons_zero, List.set_cons_succ]
    refine wpAnyH_done (by kernel_rfl) ?_ _
    clear hHeld
    go_wp2_with fail
    go_meet
    exact ⟨_, _, _, rfl, e_ar_x7.out, e_s1_x7.out, e_s2_x7.out, Sx7.out⟩
   ·go_simp
    obtain ⟨x4, hx4⟩ : ∃ x, x = x1.alloc (Obj.cells #[.string ⟨#[100]⟩, .string ⟨#[102]⟩] 9) := ⟨_, rfl⟩
    rw [← hx4]
    have Bx4 : Hid (Below x1.heap.size x1 x4) := by show Below _ _ _; rw [hx4]; exact below_one _ _
    have e_s1_x4 : Hid (x4.heap[wd.heap.size]? = some (Obj.cells #[.string ⟨#[100]⟩] 9)) := up_blk Bx4.out e_s1_x1.out
    have e_s2_x4 : Hid (x4.heap[x1.heap.size]? = some (Obj.cells #[.string ⟨#[100]⟩, .string ⟨#[102]⟩] 9)) := by show _ = _; rw [hx4]; exact heap_alloc_new _ _
    have Sx4 := hide (Sx1.out.trans (Bx4.out.mono Sx1.out.size))
    clear hx4
    refine hK.out _ _ Sx4.out (fun hHeld => ?_)
    clear hK K
    try simp only [Act.put, List.setIfInBounds_toArray, List.set_cons_zero, List.set_cons_succ]
    refine wpAnyH_ready (rs := [2]) (by kernel_rfl) (by simp) ?_
    refine AllReadyH.cons (o := ⟨some 20, _, _, _, _, _⟩) rfl (fun K hK => ?_) AllReadyH.nil
    go_simp
    refine (at_any 1 _ 1 _).mono ?_
    rintro e x8 ⟨rfl, hbx8⟩
    have Bx8 := hide hbx8
    clear hbx8
    have e_s1_x8 : Hid (x8.heap[wd.heap.size]? = some (Obj.cells #[.string ⟨#[100]⟩] 9)) := up_blk Bx8.out e_s1_x4.out
    have e_s2_x8 : Hid (x8.heap[x1.heap.size]? = some (Obj.cells #[.string ⟨#[100]⟩, .string ⟨#[102]⟩] 9)) := up_blk Bx8.out e_s2_x4.out
    have Sx8 := hide (Sx4.out.trans (Bx8.out.mono Sx4.out.size))
    refine hK.out _ _ Sx8.out (fun hHeld => ?_)
    clear hK K
    try simp only [Act.put, List.setIfInBounds_toArray, List.set_cons_zero, List.set_cons_succ]
    refine wpAnyH_ready (rs := [4]) (by kernel_rfl) (by simp) ?_
    refine AllReadyH.cons (o := ⟨some 22, _, _, _, _, _⟩) rfl (fun K hK => ?_) AllReadyH.nil
    go_simp
    refine (at_any 2 _ 2 _).mono ?_
    rintro e x9 ⟨rfl, hbx9⟩
    have Bx9 := hide hbx9
    clear hbx9
    have e_s1_x9 : Hid (x9.heap[wd.heap.size]? = some (Obj.cells #[.string ⟨#[100]⟩] 9)) := up_blk Bx9.out e_s1_x8.out
    have e_s2_x9 : Hid (x9.heap[x1.heap.size]? = some (Obj.cells #[.string ⟨#[100]⟩, .string ⟨#[102]⟩] 9)) := up_blk Bx9.out e_s2_x8.out
    have Sx9 := hide (Sx8.out.trans (Bx9.out.mono Sx8.out.size))
    refine hK.out _ _ Sx9.out (fun hHeld => ?_)
    clear hK K
    try simp only [Act.put, List.setIfInBounds_toArray, List.set_cons_zero, List.set_cons_succ]
    refine wpAnyH_ready (rs := [5]) (by kernel_rfl) (by simp) ?_
    refine AllReadyH.cons (o := ⟨some 23, _, _, _, _, _⟩) rfl (fun K hK => ?_) AllReadyH.nil
    go_simp
    obtain ⟨x10, hx10⟩ : ∃ x, x = x9.alloc (Obj.cells #[.slice none 0 0, .int .i64 9, .int .i64 1, .int .i64 0, .int .i64 0, .int .i64 0, .slice none 0 0, .string ⟨#[]⟩, .slice none 0 0, .bool false, .slice (some ⟨wd.heap.size, 0, none⟩) 1 1, .int .i64 1, .int .i64 1, .int .i64 0, .int .i64 0, .int .i64 0, .slice none 0 0, .string ⟨#[]⟩, .slice none 0 0, .bool false, .slice (some ⟨x1.heap.size, 0, none⟩) 2 2, .int .i64 2, .int .i64 2, .int .i64 0, .int .i64 0, .int .i64 0, .slice none 0 0, .string ⟨#[]⟩, .slice none 0 0, .bool false] 44) := ⟨_, rfl⟩
    rw [← hx10]
    have Bx10 : Hid (Below x9.heap.size x9 x10) := by show Below _ _ _; rw [hx10]; exact below_one _ _
    have e_s1_x10 : Hid (x10.heap[wd.heap.size]? = some (Obj.cells #[.string ⟨#[100]⟩] 9)) := up_blk Bx10.out e_s1_x9.out
    have e_s2_x10 : Hid (x10.heap[x1.heap.size]? = some (Obj.cells #[.string ⟨#[100]⟩, .string ⟨#[102]⟩] 9)) := up_blk Bx10.out e_s2_x9.out
    have e_ar_x10 : Hid (x10.heap[x9.heap.size]? = some (Obj.cells #[.slice none 0 0, .int .i64 9, .int .i64 1, .int .i64 0, .int .i64 0, .int .i64 0, .slice none 0 0, .string ⟨#[]⟩, .slice none 0 0, .bool false, .slice (some ⟨wd.heap.size, 0, none⟩) 1 1, .int .i64 1, .int .i64 1, .int .i64 0, .int .i64 0, .int .i64 0, .slice none 0 0, .string ⟨#[]⟩, .slice none 0 0, .bool false, .slice (some ⟨x1.heap.size, 0, none⟩) 2 2, .int .i64 2, .int .i64 2, .int .i64 0, .int .i64 0, .int .i64 0, .slice none 0 0, .string ⟨#[]⟩, .slice none 0 0, .bool false] 44)) := by show _ = _; rw [hx10]; exact heap_alloc_new _ _
    have Sx10 := hide (Sx9.out.trans (Bx10.out.mono Sx9.out.size))
    clear hx10
    refine hK.out _ _ Sx10.out (fun hHeld => ?_)
    clear hK K
    try simp only [Act.put, List.setIfInBounds_toArray, List.set_cons_zero, List.set_cons_succ]
    refine wpAnyH_take (i := 6) (oi := ⟨some 5, _, _, _, _, _⟩) (v := ?_) rfl (by kernel_rfl) (by kernel_rfl) (by kernel_rfl) (fun _ _ _ h => h) (Or.inl ⟨by rfl, ?_⟩) (by assumption) ?_
    rotate_left
    ·(intro wS hSw; go_simp; try with_reducible rfl)
    try simp only [Act.put, List.setIfInBounds_toArray, List.set_cons_zero, List.set_cons_succ]
    refine wpAnyH_done (by kernel_rfl) ?_ _
    clear hHeld
    go_wp2_with fail
    go_meet
    exact ⟨_, _, _, rfl, e_ar_x10.out, e_s1_x10.out, e_s2_x10.out, Sx10.out⟩
  ·go_simp
   obtain ⟨x2, hx2⟩ : ∃ x, x = wd.alloc (Obj.cells #[.string ⟨#[100]⟩, .string ⟨#[102]⟩] 9) := ⟨_, rfl⟩
   rw [← hx2]
   have Bx2 : Hid (Below wd.heap.size wd x2) := by show Below _ _ _; rw [hx2]; exact below_one _ _
   have e_s2_x2 : Hid (x2.heap[wd.heap.size]? = some (Obj.cells #[.string ⟨#[100]⟩, .string ⟨#[102]⟩] 9)) := by show _ = _; rw [hx2]; exact heap_alloc_new _ _
   have Sx2 := hide (Swd.out.trans (Bx2.out.mono Swd.out.size))
   clear hx2
   refine hK.out _ _ Sx2.out (fun hHeld => ?_)
   clear hK K
   try simp only [Act.put, List.setIfInBounds_toArray, List.set_cons_zero, List.set_cons_succ]
   refine wpAnyH_ready (rs := [1]) (by kernel_rfl) (by simp) ?_
   refine AllReadyH.cons (o := ⟨some 19, _, _, _, _, _⟩) rfl (fun K hK => ?_) AllReadyH.nil
   go_simp
   obtain ⟨x11, hx11⟩ : ∃ x, x = x2.alloc (Obj.cells #[.string ⟨#[100]⟩] 9) := ⟨_, rfl⟩
   rw [← hx11]
   have Bx11 : Hid (Below x2.heap.size x2 x11) := by show Below _ _ _; rw [hx11]; exact below_one _ _
   have e_s2_x11 : Hid (x11.heap[wd.heap.size]? = some (Obj.cells #[.string ⟨#[100]⟩, .string ⟨#[102]⟩] 9)) := up_blk Bx11.out e_s2_x2.out
   have e_s1_x11 : Hid (x11.heap[x2.heap.size]? = some (Obj.cells #[.string ⟨#[100]⟩] 9)) := by show _ = _; rw [hx11]; exact heap_alloc_new _ _
   have Sx11 := hide (Sx2.out.trans (Bx11.out.mono Sx2.out.size))
   clear hx11
   refine hK.out _ _ Sx11.out (fun hHeld => ?_)
   clear hK K
   try simp only [Act.put, List.setIfInBounds_toArray, List.set_cons_zero, List.set_cons_succ]
   refine wpAnyH_ready (rs := [2]) (by kernel_rfl) (by simp) ?_
   refine AllReadyH.cons (o := ⟨some 20, _, _, _, _, _⟩) rfl (fun K hK => ?_) AllReadyH.nil
   go_simp
   refine (at_any 1 _ 1 _).mono ?_
   rintro e x12 ⟨rfl, hbx12⟩
   have Bx12 := hide hbx12
   clear hbx12
   have e_s2_x12 : Hid (x12.heap[wd.heap.size]? = some (Obj.cells #[.string ⟨#[100]⟩, .string ⟨#[102]⟩] 9)) := up_blk Bx12.out e_s2_x11.out
   have e_s1_x12 : Hid (x12.heap[x2.heap.size]? = some (Obj.cells #[.string ⟨#[100]⟩] 9)) := up_blk Bx12.out e_s1_x11.out
   have Sx12 := hide (Sx11.out.trans (Bx12.out.mono Sx11.out.size))
   refine hK.out _ _ Sx12.out (fun hHeld => ?_)
   clear hK K
   try simp only [Act.put, List.setIfInBounds_toArray, List.set_cons_zero, List.set_cons_succ]
   refine wpAnyH_ready (rs := [4]) (by kernel_rfl) (by simp) ?_
   refine AllReadyH.cons (o := ⟨some 22, _, _, _, _, _⟩) rfl (fun K hK => ?_) AllReadyH.nil
   go_simp
   refine (at_any 2 _ 2 _).mono ?_
   rintro e x13 ⟨rfl, hbx13⟩
   have Bx13 := hide hbx13
   clear hbx13
   have e_s2_x13 : Hid (x13.heap[wd.heap.size]? = some (Obj.cells #[.string ⟨#[100]⟩, .string ⟨#[102]⟩] 9)) := up_blk Bx13.out e_s2_x12.out
   have e_s1_x13 : Hid (x13.heap[x2.heap.size]? = some (Obj.cells #[.string ⟨#[100]⟩] 9)) := up_blk Bx13.out e_s1_x12.out
   have Sx13 := hide (Sx12.out.trans (Bx13.out.mono Sx12.out.size))
   refine hK.out _ _ Sx13.out (fun hHeld => ?_)
   clear hK K
   try simp only [Act.put, List.setIfInBounds_toArray, List.set_cons_zero, List.set_cons_succ]
   refine wpAnyH_ready (rs := [5]) (by kernel_rfl) (by simp) ?_
   refine AllReadyH.cons (o := ⟨some 23, _, _, _, _, _⟩) rfl (fun K hK => ?_) AllReadyH.nil
   go_simp
   obtain ⟨x14, hx14⟩ : ∃ x, x = x13.alloc (Obj.cells #[.slice none 0 0, .int .i64 9, .int .i64 1, .int .i64 0, .int .i64 0, .int .i64 0, .slice none 0 0, .string ⟨#[]⟩, .slice none 0 0, .bool false, .slice (some ⟨x2.heap.size, 0, none⟩) 1 1, .int .i64 1, .int .i64 1, .int .i64 0, .int .i64 0, .int .i64 0, .slice none 0 0, .string ⟨#[]⟩, .slice none 0 0, .bool false, .slice (some ⟨wd.heap.size, 0, none⟩) 2 2, .int .i64 2, .int .i64 2, .int .i64 0, .int .i64 0, .int .i64 0, .slice none 0 0, .string ⟨#[]⟩, .slice none 0 0, .bool false] 44) := ⟨_, rfl⟩
   rw [← hx14]
   have Bx14 : Hid (Below x13.heap.size x13 x14) := by show Below _ _ _; rw [hx14]; exact below_one _ _
   have e_s2_x14 : Hid (x14.heap[wd.heap.size]? = some (Obj.cells #[.string ⟨#[100]⟩, .string ⟨#[102]⟩] 9)) := up_blk Bx14.out e_s2_x13.out
   have e_s1_x14 : Hid (x14.heap[x2.heap.size]? = some (Obj.cells #[.string ⟨#[100]⟩] 9)) := up_blk Bx14.out e_s1_x13.out
   have e_ar_x14 : Hid (x14.heap[x13.heap.size]? = some (Obj.cells #[.slice none 0 0, .int .i64 9, .int .i64 1, .int .i64 0, .int .i64 0, .int .i64 0, .slice none 0 0, .string ⟨#[]⟩, .slice none 0 0, .bool false, .slice (some ⟨x2.heap.size, 0, none⟩) 1 1, .int .i64 1, .int .i64 1, .int .i64 0, .int .i64 0, .int .i64 0, .slice none 0 0, .string ⟨#[]⟩, .slice none 0 0, .bool false, .slice (some ⟨wd.heap.size, 0, none⟩) 2 2, .int .i64 2, .int .i64 2, .int .i64 0, .int .i64 0, .int .i64 0, .slice none 0 0, .string ⟨#[]⟩, .slice none 0 0, .bool false] 44)) := by show _ = _; rw [hx14]; exact heap_alloc_new _ _
   have Sx14 := hide (Sx13.out.trans (Bx14.out.mono Sx13.out.size))
   clear hx14
   refine hK.out _ _ Sx14.out (fun hHeld => ?_)
   clear hK K
   try simp only [Act.put, List.setIfInBounds_toArray, List.set_cons_zero, List.set_cons_succ]
   refine wpAnyH_take (i := 6) (oi := ⟨some 5, _, _, _, _, _⟩) (v := ?_) rfl (by kernel_rfl) (by kernel_rfl) (by kernel_rfl) (fun _ _ _ h => h) (Or.inl ⟨by rfl, ?_⟩) (by assumption) ?_
   rotate_left
   ·(intro wS hSw; go_simp; try with_reducible rfl)
   try simp only [Act.put, List.setIfInBounds_toArray, List.set_cons_zero, List.set_cons_succ]
   refine wpAnyH_done (by kernel_rfl) ?_ _
   clear hHeld
   go_wp2_with fail
   go_meet
   exact ⟨_, _, _, rfl, e_ar_x14.out, e_s1_x14.out, e_s2_x14.out, Sx14.out⟩
 case rest =>
  obtain ⟨b5, p6, p7, rfl, hb5, hp6, hp7, hbc⟩ := hcut
  obtain ⟨v7, rfl⟩ : ∃ x, x = wc := ⟨wc, rfl⟩
  have HX7 := hide (HX.out.below hbc)
  have HF5 := hide hb5
  have HF6 := hide hp6
  have HF7 := hide hp7
  clear hb5 hp6 hp7 hbc HL1 HX
  have HL1 : Hid (∀ W, Below v7.heap.size v7 W → W.cell? ⟨w.heap.size, 0, none⟩ = some (.slice none 0 0) ∧ W.cell? ⟨w.heap.size, 1, none⟩ = some (.int .i64 9) ∧ W.cell? ⟨w.heap.size, 2, none⟩ = some (.int .i64 1) ∧ W.cell? ⟨w.heap.size, 3, none⟩ = some (.int .i64 0) ∧ W.cell? ⟨w.heap.size, 4, none⟩ = some (.int .i64 0) ∧ W.cell? ⟨w.heap.size, 5, none⟩ = some (.int .i64 0) ∧ W.cell? ⟨w.heap.size, 6, none⟩ = some (.slice none 0 0) ∧ W.cell? ⟨w.heap.size, 7, none⟩ = some (.string ⟨#[]⟩) ∧ W.cell? ⟨w.heap.size, 8, none⟩ = some (.slice none 0 0) ∧ W.cell? ⟨w.heap.size, 9, none⟩ = some (.bool false)) := fun W hW => by
   obtain ⟨_, b0, b1, b2, b3, b4, b5, b6, b7, b8, b9⟩ := Bk.box (up_blk hW HX7.out.r)
   exact ⟨b0, b1, b2, b3, b4, b5, b6, b7, b8, b9⟩
  have HL2 : Hid (∀ W, Below v7.heap.size v7 W → W.cell? ⟨w2.heap.size, 0, none⟩ = some (.slice (some ⟨w1.heap.size, 0, none⟩) 1 1) ∧ W.cell? ⟨w2.heap.size, 1, none⟩ = some (.int .i64 1) ∧ W.cell? ⟨w2.heap.size, 2, none⟩ = some (.int .i64 2) ∧ W.cell? ⟨w2.heap.size, 3, none⟩ = some (.int .i64 0) ∧ W.cell? ⟨w2.heap.size, 4, none⟩ = some (.int .i64 0) ∧ W.cell? ⟨w2.heap.size, 5, none⟩ = some (.int .i64 0) ∧ W.cell? ⟨w2.heap.size, 6, none⟩ = some (.slice none 0 0) ∧ W.cell? ⟨w2.heap.size, 7, none⟩ = some (.string ⟨#[]⟩) ∧ W.cell? ⟨w2.heap.size, 8, none⟩ = some (.slice none 0 0) ∧ W.cell? ⟨w2.heap.size, 9, none⟩ = some (.bool false)) := fun W hW => by
   obtain ⟨_, b0, b1, b2, b3, b4, b5, b6, b7, b8, b9⟩ := Bk.box (up_blk hW HX7.out.a)
   exact ⟨b0, b1, b2, b3, b4, b5, b6, b7, b8, b9⟩
  have HL3 : Hid (∀ W, Below v7.heap.size v7 W → W.cell? ⟨w4.heap.size, 0, none⟩ = some (.slice (some ⟨w3.heap.size, 0, none⟩) 1 1) ∧ W.cell? ⟨w4.heap.size, 1, none⟩ = some (.int .i64 5) ∧ W.cell? ⟨w4.heap.size, 2, none⟩ = some (.int .i64 2) ∧ W.cell? ⟨w4.heap.size, 3, none⟩ = some (.int .i64 0) ∧ W.cell? ⟨w4.heap.size, 4, none⟩ = some (.int .i64 0) ∧ W.cell? ⟨w4.heap.size, 5, none⟩ = some (.int .i64 0) ∧ W.cell? ⟨w4.heap.size, 6, none⟩ = some (.slice none 0 0) ∧ W.cell? ⟨w4.heap.size, 7, none⟩ = some (.string ⟨#[]⟩) ∧ W.cell? ⟨w4.heap.size, 8, none⟩ = some (.slice none 0 0) ∧ W.cell? ⟨w4.heap.size, 9, none⟩ = some (.bool false)) := fun W hW => by
   obtain ⟨_, b0, b1, b2, b3, b4, b5, b6, b7, b8, b9⟩ := Bk.box (up_blk hW HX7.out.b)
   exact ⟨b0, b1, b2, b3, b4, b5, b6, b7, b8, b9⟩
  go_upto_region 8 with fail
  go_cut [6] from 9 (fun s6 wx => ∃ a6 c6 P6, s6 = .slice a6 2 c6 ∧ Ns wx a6 2 P6 ∧ (gl P6 1).2.names = [nB] ∧ Below v7.heap.size v7 wx)
  case first =>
   refine wp_region_held_drew (S := fun wX => Below v7.heap.size v7 wX) (by kernel_rfl) (below_drewN (Below.refl _ _) 1) (fun hHeld => ?_)
   obtain ⟨wd, hwd⟩ : ∃ x, x = v7.drewN 1 := ⟨_, rfl⟩
   have Swd : Hid (Below v7.heap.size v7 wd) := by show Below _ _ _; rw [hwd]; exact below_drewN (Below.refl _ _) 1
   first | rw [← hwd] | (have hwd2 : wd = v7.drew := hwd; rw [← hwd2]; clear hwd2)
   clear hwd
   refine wpAnyH_take (i := 0) (oi := ⟨some 24, _, _, _, _, _⟩) (v := ?_) rfl (by kernel_rfl) (by kernel_rfl) (by kernel_rfl) (fun _ _ _ h => h) (Or.inl ⟨by rfl, ?_⟩) (by assumption) ?_
   rotate_left
   ·(intro wS hSw; obtain ⟨b0, b1, b2, b3, b4, b5, b6, b7, b8, b9⟩ := HL1.out wS hSw; go_simp; try with_reducible rfl)
   try simp only [Act.put, List.setIfInBounds_toArray, List.set_cons_zero, List.set_cons_succ]
   refine wpAnyH_take (i := 4) (oi := ⟨some 28, _, _, _, _, _⟩) (v := ?_) rfl (by kernel_rfl) (by kernel_rfl) (by kernel_rfl) (fun _ _ _ h => h) (Or.inl ⟨by rfl, ?_⟩) (by assumption) ?_
   rotate_left
   ·(intro wS hSw; obtain ⟨b0, b1, b2, b3, b4, b5, b6, b7, b8, b9⟩ := HL1.out wS hSw; go_simp; try with_reducible rfl)
   try simp only [Act.put, List.setIfInBounds_toArray, List.set_cons_zero, List.set_cons_succ]
   refine wpAnyH_take (i := 5) (oi := ⟨some 29, _, _, _, _, _⟩) (v := ?_) rfl (by kernel_rfl) (by kernel_rfl) (by kernel_rfl) (fun _ _ _ h => h) (Or.inl ⟨by rfl, ?_⟩) (by assumption) ?_
   rotate_left
   ·(intro wS hSw; obtain ⟨b0, b1, b2, b3, b4, b5, b6, b7, b8, b9⟩ := HL2.out wS hSw; go_simp; try with_reducible rfl)
   try simp only [Act.put, List.setIfInBounds_toArray, List.set_cons_zero, List.set_cons_succ]
   refine wpAnyH_take (i := 6) (oi := ⟨some 30, _, _, _, _, _⟩) (v := ?_) rfl (by kernel_rfl) (by kernel_rfl) (by kernel_rfl) (fun _ _ _ h => h) (Or.inl ⟨by rfl, ?_⟩) (by assumption) ?_
   rotate_left
   ·(intro wS hSw; obtain ⟨b0, b1, b2, b3, b4, b5, b6, b7, b8, b9⟩ := HL3.out wS hSw; go_simp; try with_reducible rfl)
   try simp only [Act.put, List.setIfInBounds_toArray, List.set_cons_zero, List.set_cons_succ]
   refine wpAnyH_ready (rs := [1, 7]) (by kernel_rfl) (by simp) ?_
   refine AllReadyH.cons (o := ⟨some 25, _, _, _, _, _⟩) rfl (fun K hK => ?_) (AllReadyH.cons (o := ⟨some 31, _, _, _, _, _⟩) rfl (fun K hK => ?_) AllReadyH.nil)
   ·go_simp
    obtain ⟨x15, hx15⟩ : ∃ x, x = wd.alloc (Obj.cells #[.string ⟨#[97]⟩] 9) := ⟨_, rfl⟩
    rw [← hx15]
    have Bx15 : Hid (Below wd.heap.size wd x15) := by show Below _ _ _; rw [hx15]; exact below_one _ _
    have e_s_x15 : Hid (x15.heap[wd.heap.size]? = some (Obj.cells #[.string ⟨#[97]⟩] 9)) := by show _ = _; rw [hx15]; exact heap_alloc_new _ _
    have Sx15 := hide (Swd.out.trans (Bx15.out.mono Swd.out.size))
    clear hx15
    refine hK.out _ _ Sx15.out (fun hHeld => ?_)
    clear hK K
    try simp only [Act.put, List.setIfInBounds_toArray, List.set_cons_zero, List.set_cons_succ]
    refine wpAnyH_ready (rs := [2, 7]) (by kernel_rfl) (by simp) ?_
    refine AllReadyH.cons (o := ⟨some 26, _, _, _, _, _⟩) rfl (fun K hK => ?_) (AllReadyH.cons (o := ⟨some 31, _, _, _, _, _⟩) rfl (fun K hK => ?_) AllReadyH.nil)
    ·go_simp
     refine (at_any 4 _ 1 _).mono ?_
     rintro e x17 ⟨rfl, hbx17⟩
     have Bx17 := hide hbx17
     clear hbx17
     have e_s_x17 : Hid (x17.heap[wd.heap.size]? = some (Obj.cells #[.string ⟨#[97]⟩] 9)) := up_blk Bx17.out e_s_x15.out
     have Sx17 := hide (Sx15.out.trans (Bx17.out.mono Sx15.out.size))
     refine hK.out _ _ Sx17.out (fun hHeld => ?_)
     clear hK K
     try simp only [Act.put, List.setIfInBounds_toArray, List.set_cons_zero, List.set_cons_succ]
     refine wpAnyH_ready (rs := [3, 7]) (by kernel_rfl) (by simp) ?_
     refine AllReadyH.cons (o := ⟨some 27, _, _, _, _, _⟩) rfl (fun K hK => ?_) (AllReadyH.cons (o := ⟨some 31, _, _, _, _, _⟩) rfl (fun K hK => ?_) AllReadyH.nil)
     ·go_simp
      obtain ⟨x19, hx19⟩ : ∃ x, x = x17.alloc (Obj.cells #[.slice none 0 0, .int .i64 9, .int .i64 1, .int .i64 0, .int .i64 0, .int .i64 0, .slice none 0 0, .string ⟨#[]⟩, .slice none 0 0, .bool false, .slice (some ⟨wd.heap.size, 0, none⟩) 1 1, .int .i64 1, .int .i64 4, .int .i64 0, .int .i64 0, .int .i64 0, .slice none 0 0, .string ⟨#[]⟩, .slice none 0 0, .bool false] 44) := ⟨_, rfl⟩
      rw [← hx19]
      have Bx19 : Hid (Below x17.heap.size x17 x19) := by show Below _ _ _; rw [hx19]; exact below_one _ _
      have e_s_x19 : Hid (x19.heap[wd.heap.size]? = some (Obj.cells #[.string ⟨#[97]⟩] 9)) := up_blk Bx19.out e_s_x17.out
      have e_p27_x19 : Hid (x19.heap[x17.heap.size]? = some (Obj.cells #[.slice none 0 0, .int .i64 9, .int .i64 1, .int .i64 0, .int .i64 0, .int .i64 0, .slice none 0 0, .string ⟨#[]⟩, .slice none 0 0, .bool false, .slice (some ⟨wd.heap.size, 0, none⟩) 1 1, .int .i64 1, .int .i64 4, .int .i64 0, .int .i64 0, .int .i64 0, .slice none 0 0, .string ⟨#[]⟩, .slice none 0 0, .bool false] 44)) := by show _ = _; rw [hx19]; exact heap_alloc_new _ _
      have Sx19 := hide (Sx17.out.trans (Bx19.out.mono Sx17.out.size))
      clear hx19
      refine hK.out _ _ Sx19.out (fun hHeld => ?_)
      clear hK K
      try simp only [Act.put, List.setIfInBounds_toArray, List.set_cons_zero, List.set_cons_succ]
      refine wpAnyH_ready (rs := [7]) (by kernel_rfl) (by simp) ?_
      refine AllReadyH.cons (o := ⟨some 31, _, _, _, _, _⟩) rfl (fun K hK => ?_) AllReadyH.nil
      go_simp
      obtain ⟨x21, hx21⟩ : ∃ x, x = x19.alloc (Obj.cells #[.slice none 0 0, .int .i64 9, .int .i64 1, .int .i64 0, .int .i64 0, .int .i64 0, .slice none 0 0, .string ⟨#[]⟩, .slice none 0 0, .bool false, .slice (some ⟨w1.heap.size, 0, none⟩) 1 1, .int .i64 1, .int .i64 2, .int .i64 0, .int .i64 0, .int .i64 0, .slice none 0 0, .string ⟨#[]⟩, .slice none 0 0, .bool false, .slice (some ⟨w3.heap.size, 0, none⟩) 1 1, .int .i64 5, .int .i64 2, .int .i64 0, .int .i64 0, .int .i64 0, .slice none 0 0, .string ⟨#[]⟩, .slice none 0 0, .bool false] 44) := ⟨_, rfl⟩
      rw [← hx21]
      have Bx21 : Hid (Below x19.heap.size x19 x21) := by show Below _ _ _; rw [hx21]; exact below_one _ _
      have e_s_x21 : Hid (x21.heap[wd.heap.size]? = some (Obj.cells #[.string ⟨#[97]⟩] 9)) := up_blk Bx21.out e_s_x19.out
      have e_p27_x21 : Hid (x21.heap[x17.heap.size]? = some (Obj.cells #[.slice none 0 0, .int .i64 9, .int .i64 1, .int .i64 0, .int .i64 0, .int .i64 0, .slice none 0 0, .string ⟨#[]⟩, .slice none 0 0, .bool false, .slice (some ⟨wd.heap.size, 0, none⟩) 1 1, .int .i64 1, .int .i64 4, .int .i64 0, .int .i64 0, .int .i64 0, .slice none 0 0, .string ⟨#[]⟩, .slice none 0 0, .bool false] 44)) := up_blk Bx21.out e_p27_x19.out
      have e_p31_x21 : Hid (x21.heap[x19.heap.size]? = some (Obj.cells #[.slice none 0 0, .int .i64 9, .int .i64 1, .int .i64 0, .int .i64 0, .int .i64 0, .slice none 0 0, .string ⟨#[]⟩, .slice none 0 0, .bool false, .slice (some ⟨w1.heap.size, 0, none⟩) 1 1, .int .i64 1, .int .i64 2, .int .i64 0, .int .i64 0, .int .i64 0, .slice none 0 0, .string ⟨#[]⟩, .slice none 0 0, .bool false, .slice (some ⟨w3.heap.size, 0, none⟩) 1 1, .int .i64 5, .int .i64 2, .int .i64 0, .int .i64 0, .int .i64 0, .slice none 0 0, .string ⟨#[]⟩, .slice none 0 0, .bool false] 44)) := by show _ = _; rw [hx21]; exact heap_alloc_new _ _
      have Sx21 := hide (Sx19.out.trans (Bx21.out.mono Sx19.out.size))
      clear hx21
      refine hK.out _ _ Sx21.out (fun hHeld => ?_)
      clear hK K
      try simp only [Act.put, List.setIfInBounds_toArray, List.set_cons_zero, List.set_cons_succ]
      refine wpAnyH_ready (rs := [8]) (by kernel_rfl) (by simp) ?_
      refine AllReadyH.cons (o := ⟨some 32, _, _, _, _, _⟩) rfl (fun K hK => ?_) AllReadyH.nil
      go_simp
      obtain ⟨x22, hx22⟩ : ∃ x, x = x21.alloc (Obj.cells #[.slice (some ⟨x17.heap.size, 0, none⟩) 2 2, .slice (some ⟨x19.heap.size, 0, none⟩) 3 3] 25) := ⟨_, rfl⟩
      rw [← hx22]
      have Bx22 : Hid (Below x21.heap.size x21 x22) := by show Below _ _ _; rw [hx22]; exact below_one _ _
      have e_s_x22 : Hid (x22.heap[wd.heap.size]? = some (Obj.cells #[.string ⟨#[97]⟩] 9)) := up_blk Bx22.out e_s_x21.out
      have e_p27_x22 : Hid (x22.heap[x17.heap.size]? = some (Obj.cells #[.slice none 0 0, .int .i64 9, .int .i64 1, .int .i64 0, .int .i64 0, .int .i64 0, .slice none 0 0, .string ⟨#[]⟩, .slice none 0 0, .bool false, .slice (some ⟨wd.heap.size, 0, none⟩) 1 1, .int .i64 1, .int .i64 4, .int .i64 0, .int .i64 0, .int .i64 0, .slice none 0 0, .string ⟨#[]⟩, .slice none 0 0, .bool false] 44)) := up_blk Bx22.out e_p27_x21.out
      have e_p31_x22 : Hid (x22.heap[x19.heap.size]? = some (Obj.cells #[.slice none 0 0, .int .i64 9, .int .i64 1, .int .i64 0, .int .i64 0, .int .i64 0, .slice none 0 0, .string ⟨#[]⟩, .slice none 0 0, .bool false, .slice (some ⟨w1.heap.size, 0, none⟩) 1 1, .int .i64 1, .int .i64 2, .int .i64 0, .int .i64 0, .int .i64 0, .slice none 0 0, .string ⟨#[]⟩, .slice none 0 0, .bool false, .slice (some ⟨w3.heap.size, 0, none⟩) 1 1, .int .i64 5, .int .i64 2, .int .i64 0, .int .i64 0, .int .i64 0, .slice none 0 0, .string ⟨#[]⟩, .slice none 0 0, .bool false] 44)) := up_blk Bx22.out e_p31_x21.out
      have e_p32_x22 : Hid (x22.heap[x21.heap.size]? = some (Obj.cells #[.slice (some ⟨x17.heap.size, 0, none⟩) 2 2, .slice (some ⟨x19.heap.size, 0, none⟩) 3 3] 25)) := by show _ = _; rw [hx22]; exact heap_alloc_new _ _
      have Sx22 := hide (Sx21.out.trans (Bx22.out.mono Sx21.out.size))
      clear hx22
      refine hK.out _ _ Sx22.out (fun hHeld => ?_)
      clear hK K
      try simp only [Act.put, List.setIfInBounds_toArray, List.set_cons_zero, List.set_cons_succ]
      refine wpAnyH_ready (rs := [9]) (by kernel_rfl) (by simp) ?_
      refine AllReadyH.cons (o := ⟨some 33, _, _, _, _, _⟩) rfl (fun K hK => ?_) AllReadyH.nil
      go_simp
      refine (mX_any e_p32_x22.out e_p27_x22.out e_p31_x22.out e_s_x22.out (up_blk Sx22.out HX7.out.sa) (up_blk Sx22.out HX7.out.sb)).mono ?_
      rintro e x23 ⟨a6, c6, P6, rfl, hns, hnm, hbx23⟩
      have HNS := hide hns
      have HNM := hide hnm
      have Bx23 := hide hbx23
      clear hns hnm hbx23
      have Sx23 := hide (Sx22.out.trans (Bx23.out.mono Sx22.out.size))
      refine hK.out _ _ Sx23.out (fun hHeld => ?_)
      clear hK K
      try simp only [Act.put, List.setIfInBounds_toArray, List.set_cons_zero, List.set_cons_succ]
      refine wpAnyH_take (i := 10) (oi := ⟨some 6, _, _, _, _, _⟩) (v := ?_) rfl (by kernel_rfl) (by kernel_rfl) (by kernel_rfl) (fun _ _ _ h => h) (Or.inl ⟨by rfl, ?_⟩) (by assumption) ?_
      rotate_left
      ·(intro wS hSw; go_simp; try with_reducible rfl)
      try simp only [Act.put, List.setIfInBounds_toArray, List.set_cons_zero, List.set_cons_succ]
      refine wpAnyH_done (by kernel_rfl) ?_ _
      clear hHeld
      go_wp2_with fail
      go_meet
      exact ⟨_, _, P6, rfl, HNS.out, HNM.out, Sx23.out⟩
     ·go_simp
      obtain ⟨x20, hx20⟩ : ∃ x, x = x17.alloc (Obj.cells #[.slice none 0 0, .int .i64 9, .int .i64 1, .int .i64 0, .int .i64 0, .int .i64 0, .slice none 0 0, .string ⟨#[]⟩, .slice none 0 0, .bool false, .slice (some ⟨w1.heap.size, 0, none⟩) 1 1, .int .i64 1, .int .i64 2, .int .i64 0, .int .i64 0, .int .i64 0, .slice none 0 0, .string ⟨#[]⟩, .slice none 0 0, .bool false, .slice (some ⟨w3.heap.size, 0, none⟩) 1 1, .int .i64 5, .int .i64 2, .int .i64 0, .int .i64 0, .int .i64 0, .slice none 0 0, .string ⟨#[]⟩, .slice none 0 0, .bool false] 44) := ⟨_, rfl⟩
      rw [← hx20]
      have Bx20 : Hid (Below x17.heap.size x17 x20) := by show Below _ _ _; rw [hx20]; exact below_one _ _
      have e_s_x20 : Hid (x20.heap[wd.heap.size]? = some (Obj.cells #[.string ⟨#[97]⟩] 9)) := up_blk Bx20.out e_s_x17.out
      have e_p31_x20 : Hid (x20.heap[x17.heap.size]? = some (Obj.cells #[.slice none 0 0, .int .i64 9, .int .i64 1, .int .i64 0, .int .i64 0, .int .i64 0, .slice none 0 0, .string ⟨#[]⟩, .slice none 0 0, .bool false, .slice (some ⟨w1.heap.size, 0, none⟩) 1 1, .int .i64 1, .int .i64 2, .int .i64 0, .int .i64 0, .int .i64 0, .slice none 0 0, .string ⟨#[]⟩, .slice none 0 0, .bool false, .slice (some ⟨w3.heap.size, 0, none⟩) 1 1, .int .i64 5, .int .i64 2, .int .i64 0, .int .i64 0, .int .i64 0, .slice none 0 0, .string ⟨#[]⟩, .slice none 0 0, .bool false] 44)) := by show _ = _; rw [hx20]; exact heap_alloc_new _ _
      have Sx20 := hide (Sx17.out.trans (Bx20.out.mono Sx17.out.size))
      clear hx20
      refine hK.out _ _ Sx20.out (fun hHeld => ?_)
      clear hK K
      try simp only [Act.put, List.setIfInBounds_toArray, List.set_cons_zero, List.set_cons_succ]
      refine wpAnyH_ready (rs := [3]) (by kernel_rfl) (by simp) ?_
      refine AllReadyH.cons (o := ⟨some 27, _, _, _, _, _⟩) rfl (fun K hK => ?_) AllReadyH.nil
      go_simp
      obtain ⟨x24, hx24⟩ : ∃ x, x = x20.alloc (Obj.cells #[.slice none 0 0, .int .i64 9, .int .i64 1, .int .i64 0, .int .i64 0, .int .i64 0, .slice none 0 0, .string ⟨#[]⟩, .slice none 0 0, .bool false, .slice (some ⟨wd.heap.size, 0, none⟩) 1 1, .int .i64 1, .int .i64 4, .int .i64 0, .int .i64 0, .int .i64 0, .slice none 0 0, .string ⟨#[]⟩, .slice none 0 0, .bool false] 44) := ⟨_, rfl⟩
      rw [← hx24]
      have Bx24 : Hid (Below x20.heap.size x20 x24) := by show Below _ _ _; rw [hx24]; exact below_one _ _
      have e_s_x24 : Hid (x24.heap[wd.heap.size]? = some (Obj.cells #[.string ⟨#[97]⟩] 9)) := up_blk Bx24.out e_s_x20.out
      have e_p31_x24 : Hid (x24.heap[x17.heap.size]? = some (Obj.cells #[.slice none 0 0, .int .i64 9, .int .i64 1, .int .i64 0, .int .i64 0, .int .i64 0, .slice none 0 0, .string ⟨#[]⟩, .slice none 0 0, .bool false, .slice (some ⟨w1.heap.size, 0, none⟩) 1 1, .int .i64 1, .int .i64 2, .int .i64 0, .int .i64 0, .int .i64 0, .slice none 0 0, .string ⟨#[]⟩, .slice none 0 0, .bool false, .slice (some ⟨w3.heap.size, 0, none⟩) 1 1, .int .i64 5, .int .i64 2, .int .i64 0, .int .i64 0, .int .i64 0, .slice none 0 0, .string ⟨#[]⟩, .slice none 0 0, .bool false] 44)) := up_blk Bx24.out e_p31_x20.out
      have e_p27_x24 : Hid (x24.heap[x20.heap.size]? = some (Obj.cells #[.slice none 0 0, .int .i64 9, .int .i64 1, .int .i64 0, .int .i64 0, .int .i64 0, .slice none 0 0, .string ⟨#[]⟩, .slice none 0 0, .bool false, .slice (some ⟨wd.heap.size, 0, none⟩) 1 1, .int .i64 1, .int .i64 4, .int .i64 0, .int .i64 0, .int .i64 0, .slice none 0 0, .string ⟨#[]⟩, .slice none 0 0, .bool false] 44)) := by show _ = _; rw [hx24]; exact heap_alloc_new _ _
      have Sx24 := hide (Sx20.out.trans (Bx24.out.mono Sx20.out.size))
      clear hx24
      refine hK.out _ _ Sx24.out (fun hHeld => ?_)
      clear hK K
      try simp only [Act.put, List.setIfInBounds_toArray, List.set_cons_zero, List.set_cons_succ]
      refine wpAnyH_ready (rs := [8]) (by kernel_rfl) (by simp) ?_
      refine AllReadyH.cons (o := ⟨some 32, _, _, _, _, _⟩) rfl (fun K hK => ?_) AllReadyH.nil
      go_simp
      obtain ⟨x25, hx25⟩ : ∃ x, x = x24.alloc (Obj.cells #[.slice (some ⟨x20.heap.size, 0, none⟩) 2 2, .slice (some ⟨x17.heap.size, 0, none⟩) 3 3] 25) := ⟨_, rfl⟩
      rw [← hx25]
      have Bx25 : Hid (Below x24.heap.size x24 x25) := by show Below _ _ _; rw [hx25]; exact below_one _ _
      have e_s_x25 : Hid (x25.heap[wd.heap.size]? = some (Obj.cells #[.string ⟨#[97]⟩] 9)) := up_blk Bx25.out e_s_x24.out
      have e_p31_x25 : Hid (x25.heap[x17.heap.size]? = some (Obj.cells #[.slice none 0 0, .int .i64 9, .int .i64 1, .int .i64 0, .int .i64 0, .int .i64 0, .slice none 0 0, .string ⟨#[]⟩, .slice none 0 0, .bool false, .slice (some ⟨w1.heap.size, 0, none⟩) 1 1, .int .i64 1, .int .i64 2, .int .i64 0, .int .i64 0, .int .i64 0, .slice none 0 0, .string ⟨#[]⟩, .slice none 0 0, .bool false, .slice (some ⟨w3.heap.size, 0, none⟩) 1 1, .int .i64 5, .int .i64 2, .int .i64 0, .int .i64 0, .int .i64 0, .slice none 0 0, .string ⟨#[]⟩, .slice none 0 0, .bool false] 44)) := up_blk Bx25.out e_p31_x24.out
      have e_p27_x25 : Hid (x25.heap[x20.heap.size]? = some (Obj.cells #[.slice none 0 0, .int .i64 9, .int .i64 1, .int .i64 0, .int .i64 0, .int .i64 0, .slice none 0 0, .string ⟨#[]⟩, .slice none 0 0, .bool false, .slice (some ⟨wd.heap.size, 0, none⟩) 1 1, .int .i64 1, .int .i64 4, .int .i64 0, .int .i64 0, .int .i64 0, .slice none 0 0, .string ⟨#[]⟩, .slice none 0 0, .bool false] 44)) := up_blk Bx25.out e_p27_x24.out
      have e_p32_x25 : Hid (x25.heap[x24.heap.size]? = some (Obj.cells #[.slice (some ⟨x20.heap.size, 0, none⟩) 2 2, .slice (some ⟨x17.heap.size, 0, none⟩) 3 3] 25)) := by show _ = _; rw [hx25]; exact heap_alloc_new _ _
      have Sx25 := hide (Sx24.out.trans (Bx25.out.mono Sx24.out.size))
      clear hx25
      refine hK.out _ _ Sx25.out (fun hHeld => ?_)
      clear hK K
      try simp only [Act.put, List.setIfInBounds_toArray, List.set_cons_zero, List.set_cons_succ]
      refine wpAnyH_ready (rs := [9]) (by kernel_rfl) (by simp) ?_
      refine AllReadyH.cons (o := ⟨some 33, _, _, _, _, _⟩) rfl (fun K hK => ?_) AllReadyH.nil
      go_simp
      refine (mX_any e_p32_x25.out e_p27_x25.out e_p31_x25.out e_s_x25.out (up_blk Sx25.out HX7.out.sa) (up_blk Sx25.out HX7.out.sb)).mono ?_
      rintro e x26 ⟨a6, c6, P6, rfl, hns, hnm, hbx26⟩
      have HNS := hide hns
      have HNM := hide hnm
      have Bx26 := hide hbx26
      clear hns hnm hbx26
      have Sx26 := hide (Sx25.out.trans (Bx26.out.mono Sx25.out.size))
      refine hK.out _ _ Sx26.out (fun hHeld => ?_)
      clear hK K
      try simp only [Act.put, List.setIfInBounds_toArray, List.set_cons_zero, List.set_cons_succ]
      refine wpAnyH_take (i := 10) (oi := ⟨some 6, _, _, _, _, _⟩) (v := ?_) rfl (by kernel_rfl) (by kernel_rfl) (by kernel_rfl) (fun _ _ _ h => h) (Or.inl ⟨by rfl, ?_⟩) (by assumption) ?_
      rotate_left
      ·(intro wS hSw; go_simp; try with_reducible rfl)
      try simp only [Act.put, List.setIfInBounds_toArray, List.set_cons_zero, List.set_cons_succ]
      refine wpAnyH_done (by kernel_rfl) ?_ _
      clear hHeld
      go_wp2_with fail
      go_meet
      exact ⟨_, _, P6, rfl, HNS.out, HNM.out, Sx26.out⟩
    ·go_simp
     obtain ⟨x18, hx18⟩ : ∃ x, x = x15.alloc (Obj.cells #[.slice none 0 0, .int .i64 9, .int .i64 1, .int .i64 0, .int .i64 0, .int .i64 0, .slice none 0 0, .string ⟨#[]⟩, .slice none 0 0, .bool false, .slice (some ⟨w1.heap.size, 0, none⟩) 1 1, .int .i64 1, .int .i64 2, .int .i64 0, .int .i64 0, .int .i64 0, .slice none 0 0, .string ⟨#[]⟩, .slice none 0 0, .bool false, .slice (some ⟨w3.heap.size, 0, none⟩) 1 1, .int .i64 5, .int .i64 2, .int .i64 0, .int .i64 0, .int .i64 0, .slice none 0 0, .string ⟨#[]⟩, .slice none 0 0, .bool false] 44) := ⟨_, rfl⟩
     rw [← hx18]
     have Bx18 : Hid (Below x15.heap.size x15 x18) := by show Below _ _ _; rw [hx18]; exact below_one _ _
     have e_s_x18 : Hid (x18.heap[wd.heap.size]? = some (Obj.cells #[.string ⟨#[97]⟩] 9)) := up_blk Bx18.out e_s_x15.out
     have e_p31_x18 : Hid (x18.heap[x15.heap.size]? = some (Obj.cells #[.slice none 0 0, .int .i64 9, .int .i64 1, .int .i64 0, .int .i64 0, .int .i64 0, .slice none 0 0, .string ⟨#[]⟩, .slice none 0 0, .bool false, .slice (some ⟨w1.heap.size, 0, none⟩) 1 1, .int .i64 1, .int .i64 2, .int .i64 0, .int .i64 0, .int .i64 0, .slice none 0 0, .string ⟨#[]⟩, .slice none 0 0, .bool false, .slice (some ⟨w3.heap.size, 0, none⟩) 1 1, .int .i64 5, .int .i64 2, .int .i64 0, .int .i64 0, .int .i64 0, .slice none 0 0, .string ⟨#[]⟩, .slice none 0 0, .bool false] 44)) := by show _ = _; rw [hx18]; exact heap_alloc_new _ _
     have Sx18 := hide (Sx15.out.trans (Bx18.out.mono Sx15.out.size))
     clear hx18
     refine hK.out _ _ Sx18.out (fun hHeld => ?_)
     clear hK K
     try simp only [Act.put, List.setIfInBounds_toArray, List.set_cons_zero, List.set_cons_succ]
     refine wpAnyH_ready (rs := [2]) (by kernel_rfl) (by simp) ?_
     refine AllReadyH.cons (o := ⟨some 26, _, _, _, _, _⟩) rfl (fun K hK => ?_) AllReadyH.nil
     go_simp
     refine (at_any 4 _ 1 _).mono ?_
     rintro e x27 ⟨rfl, hbx27⟩
     have Bx27 := hide hbx27
     clear hbx27
     have e_s_x27 : Hid (x27.heap[wd.heap.size]? = some (Obj.cells #[.string ⟨#[97]⟩] 9)) := up_blk Bx27.out e_s_x18.out
     have e_p31_x27 : Hid (x27.heap[x15.heap.size]? = some (Obj.cells #[.slice none 0 0, .int .i64 9, .int .i64 1, .int .i64 0, .int .i64 0, .int .i64 0, .slice none 0 0, .string ⟨#[]⟩, .slice none 0 0, .bool false, .slice (some ⟨w1.heap.size, 0, none⟩) 1 1, .int .i64 1, .int .i64 2, .int .i64 0, .int .i64 0, .int .i64 0, .slice none 0 0, .string ⟨#[]⟩, .slice none 0 0, .bool false, .slice (some ⟨w3.heap.size, 0, none⟩) 1 1, .int .i64 5, .int .i64 2, .int .i64 0, .int .i64 0, .int .i64 0, .slice none 0 0, .string ⟨#[]⟩, .slice none 0 0, .bool false] 44)) := up_blk Bx27.out e_p31_x18.out
     have Sx27 := hide (Sx18.out.trans (Bx27.out.mono Sx18.out.size))
     refine hK.out _ _ Sx27.out (fun hHeld => ?_)
     clear hK K
     try simp only [Act.put, List.setIfInBounds_toArray, List.set_cons_zero, List.set_cons_succ]
     refine wpAnyH_ready (rs := [3]) (by kernel_rfl) (by simp) ?_
     refine AllReadyH.cons (o := ⟨some 27, _, _, _, _, _⟩) rfl (fun K hK => ?_) AllReadyH.nil
     go_simp
     obtain ⟨x28, hx28⟩ : ∃ x, x = x27.alloc (Obj.cells #[.slice none 0 0, .int .i64 9, .int .i64 1, .int .i64 0, .int .i64 0, .int .i64 0, .slice none 0 0, .string ⟨#[]⟩, .slice none 0 0, .bool false, .slice (some ⟨wd.heap.size, 0, none⟩) 1 1, .int .i64 1, .int .i64 4, .int .i64 0, .int .i64 0, .int .i64 0, .slice none 0 0, .string ⟨#[]⟩, .slice none 0 0, .bool false] 44) := ⟨_, rfl⟩
     rw [← hx28]
     have Bx28 : Hid (Below x27.heap.size x27 x28) := by show Below _ _ _; rw [hx28]; exact below_one _ _
     have e_s_x28 : Hid (x28.heap[wd.heap.size]? = some (Obj.cells #[.string ⟨#[97]⟩] 9)) := up_blk Bx28.out e_s_x27.out
     have e_p31_x28 : Hid (x28.heap[x15.heap.size]? = some (Obj.cells #[.slice none 0 0, .int .i64 9, .int .i64 1, .int .i64 0, .int .i64 0, .int .i64 0, .slice none 0 0, .string ⟨#[]⟩, .slice none 0 0, .bool false, .slice (some ⟨w1.heap.size, 0, none⟩) 1 1, .int .i64 1, .int .i64 2, .int .i64 0, .int .i64 0, .int .i64 0, .slice none 0 0, .string ⟨#[]⟩, .slice none 0 0, .bool false, .slice (some ⟨w3.heap.size, 0, none⟩) 1 1, .int .i64 5, .int .i64 2, .int .i64 0, .int .i64 0, .int .i64 0, .slice none 0 0, .string ⟨#[]⟩, .slice none 0 0, .bool false] 44)) := up_blk Bx28.out e_p31_x27.out
     have e_p27_x28 : Hid (x28.heap[x27.heap.size]? = some (Obj.cells #[.slice none 0 0, .int .i64 9, .int .i64 1, .int .i64 0, .int .i64 0, .int .i64 0, .slice none 0 0, .string ⟨#[]⟩, .slice none 0 0, .bool false, .slice (some ⟨wd.heap.size, 0, none⟩) 1 1, .int .i64 1, .int .i64 4, .int .i64 0, .int .i64 0, .int .i64 0, .slice none 0 0, .string ⟨#[]⟩, .slice none 0 0, .bool false] 44)) := by show _ = _; rw [hx28]; exact heap_alloc_new _ _
     have Sx28 := hide (Sx27.out.trans (Bx28.out.mono Sx27.out.size))
     clear hx28
     refine hK.out _ _ Sx28.out (fun hHeld => ?_)
     clear hK K
     try simp only [Act.put, List.setIfInBounds_toArray, List.set_cons_zero, List.set_cons_succ]
     refine wpAnyH_ready (rs := [8]) (by kernel_rfl) (by simp) ?_
     refine AllReadyH.cons (o := ⟨some 32, _, _, _, _, _⟩) rfl (fun K hK => ?_) AllReadyH.nil
     go_simp
     obtain ⟨x29, hx29⟩ : ∃ x, x = x28.alloc (Obj.cells #[.slice (some ⟨x27.heap.size, 0, none⟩) 2 2, .slice (some ⟨x15.heap.size, 0, none⟩) 3 3] 25) := ⟨_, rfl⟩
     rw [← hx29]
     have Bx29 : Hid (Below x28.heap.size x28 x29) := by show Below _ _ _; rw [hx29]; exact below_one _ _
     have e_s_x29 : Hid (x29.heap[wd.heap.size]? = some (Obj.cells #[.string ⟨#[97]⟩] 9)) := up_blk Bx29.out e_s_x28.out
     have e_p31_x29 : Hid (x29.heap[x15.heap.size]? = some (Obj.cells #[.slice none 0 0, .int .i64 9, .int .i64 1, .int .i64 0, .int .i64 0, .int .i64 0, .slice none 0 0, .string ⟨#[]⟩, .slice none 0 0, .bool false, .slice (some ⟨w1.heap.size, 0, none⟩) 1 1, .int .i64 1, .int .i64 2, .int .i64 0, .int .i64 0, .int .i64 0, .slice none 0 0, .string ⟨#[]⟩, .slice none 0 0, .bool false, .slice (some ⟨w3.heap.size, 0, none⟩) 1 1, .int .i64 5, .int .i64 2, .int .i64 0, .int .i64 0, .int .i64 0, .slice none 0 0, .string ⟨#[]⟩, .slice none 0 0, .bool false] 44)) := up_blk Bx29.out e_p31_x28.out
     have e_p27_x29 : Hid (x29.heap[x27.heap.size]? = some (Obj.cells #[.slice none 0 0, .int .i64 9, .int .i64 1, .int .i64 0, .int .i64 0, .int .i64 0, .slice none 0 0, .string ⟨#[]⟩, .slice none 0 0, .bool false, .slice (some ⟨wd.heap.size, 0, none⟩) 1 1, .int .i64 1, .int .i64 4, .int .i64 0, .int .i64 0, .int .i64 0, .slice none 0 0, .string ⟨#[]⟩, .slice none 0 0, .bool false] 44)) := up_blk Bx29.out e_p27_x28.out
     have e_p32_x29 : Hid (x29.heap[x28.heap.size]? = some (Obj.cells #[.slice (some ⟨x27.heap.size, 0, none⟩) 2 2, .slice (some ⟨x15.heap.size, 0, none⟩) 3 3] 25)) := by show _ = _; rw [hx29]; exact heap_alloc_new _ _
     have Sx29 := hide (Sx28.out.trans (Bx29.out.mono Sx28.out.size))
     clear hx29
     refine hK.out _ _ Sx29.out (fun hHeld => ?_)
     clear hK K
     try simp only [Act.put, List.setIfInBounds_toArray, List.set_cons_zero, List.set_cons_succ]
     refine wpAnyH_ready (rs := [9]) (by kernel_rfl) (by simp) ?_
     refine AllReadyH.cons (o := ⟨some 33, _, _, _, _, _⟩) rfl (fun K hK => ?_) AllReadyH.nil
     go_simp
     refine (mX_any e_p32_x29.out e_p27_x29.out e_p31_x29.out e_s_x29.out (up_blk Sx29.out HX7.out.sa) (up_blk Sx29.out HX7.out.sb)).mono ?_
     rintro e x30 ⟨a6, c6, P6, rfl, hns, hnm, hbx30⟩
     have HNS := hide hns
     have HNM := hide hnm
     have Bx30 := hide hbx30
     clear hns hnm hbx30
     have Sx30 := hide (Sx29.out.trans (Bx30.out.mono Sx29.out.size))
     refine hK.out _ _ Sx30.out (fun hHeld => ?_)
     clear hK K
     try simp only [Act.put, List.setIfInBounds_toArray, List.set_cons_zero, List.set_cons_succ]
     refine wpAnyH_take (i := 10) (oi := ⟨some 6, _, _, _, _, _⟩) (v := ?_) rfl (by kernel_rfl) (by kernel_rfl) (by kernel_rfl) (fun _ _ _ h => h) (Or.inl ⟨by rfl, ?_⟩) (by assumption) ?_
     rotate_left
     ·(intro wS hSw; go_simp; try with_reducible rfl)
     try simp only [Act.put, List.setIfInBounds_toArray, List.set_cons_zero, List.set_cons_succ]
     refine wpAnyH_done (by kernel_rfl) ?_ _
     clear hHeld
     go_wp2_with fail
     go_meet
     exact ⟨_, _, P6, rfl, HNS.out, HNM.out, Sx30.out⟩
   ·go_simp
    obtain ⟨x16, hx16⟩ : ∃ x, x = wd.alloc (Obj.cells #[.slice none 0 0, .int .i64 9, .int .i64 1, .int .i64 0, .int .i64 0, .int .i64 0, .slice none 0 0, .string ⟨#[]⟩, .slice none 0 0, .bool false, .slice (some ⟨w1.heap.size, 0, none⟩) 1 1, .int .i64 1, .int .i64 2, .int .i64 0, .int .i64 0, .int .i64 0, .slice none 0 0, .string ⟨#[]⟩, .slice none 0 0, .bool false, .slice (some ⟨w3.heap.size, 0, none⟩) 1 1, .int .i64 5, .int .i64 2, .int .i64 0, .int .i64 0, .int .i64 0, .slice none 0 0, .string ⟨#[]⟩, .slice none 0 0, .bool false] 44) := ⟨_, rfl⟩
    rw [← hx16]
    have Bx16 : Hid (Below wd.heap.size wd x16) := by show Below _ _ _; rw [hx16]; exact below_one _ _
    have e_p31_x16 : Hid (x16.heap[wd.heap.size]? = some (Obj.cells #[.slice none 0 0, .int .i64 9, .int .i64 1, .int .i64 0, .int .i64 0, .int .i64 0, .slice none 0 0, .string ⟨#[]⟩, .slice none 0 0, .bool false, .slice (some ⟨w1.heap.size, 0, none⟩) 1 1, .int .i64 1, .int .i64 2, .int .i64 0, .int .i64 0, .int .i64 0, .slice none 0 0, .string ⟨#[]⟩, .slice none 0 0, .bool false, .slice (some ⟨w3.heap.size, 0, none⟩) 1 1, .int .i64 5, .int .i64 2, .int .i64 0, .int .i64 0, .int .i64 0, .slice none 0 0, .string ⟨#[]⟩, .slice none 0 0, .bool false] 44)) := by show _ = _; rw [hx16]; exact heap_alloc_new _ _
    have Sx16 := hide (Swd.out.trans (Bx16.out.mono Swd.out.size))
    clear hx16
    refine hK.out _ _ Sx16.out (fun hHeld => ?_)
    clear hK K
    try simp only [Act.put, List.setIfInBounds_toArray, List.set_cons_zero, List.set_cons_succ]
    refine wpAnyH_ready (rs := [1]) (by kernel_rfl) (by simp) ?_
    refine AllReadyH.cons (o := ⟨some 25, _, _, _, _, _⟩) rfl (fun K hK => ?_) AllReadyH.nil
    go_simp
    obtain ⟨x31, hx31⟩ : ∃ x, x = x16.alloc (Obj.cells #[.string ⟨#[97]⟩] 9) := ⟨_, rfl⟩
    rw [← hx31]
    have Bx31 : Hid (Below x16.heap.size x16 x31) := by show Below _ _ _; rw [hx31]; exact below_one _ _
    have e_p31_x31 : Hid (x31.heap[wd.heap.size]? = some (Obj.cells #[.slice none 0 0, .int .i64 9, .int .i64 1, .int .i64 0, .int .i64 0, .int .i64 0, .slice none 0 0, .string ⟨#[]⟩, .slice none 0 0, .bool false, .slice (some ⟨w1.heap.size, 0, none⟩) 1 1, .int .i64 1, .int .i64 2, .int .i64 0, .int .i64 0, .int .i64 0, .slice none 0 0, .string ⟨#[]⟩, .slice none 0 0, .bool false, .slice (some ⟨w3.heap.size, 0, none⟩) 1 1, .int .i64 5, .int .i64 2, .int .i64 0, .int .i64 0, .int .i64 0, .slice none 0 0, .string ⟨#[]⟩, .slice none 0 0, .bool false] 44)) := up_blk Bx31.out e_p31_x16.out
    have e_s_x31 : Hid (x31.heap[x16.heap.size]? = some (Obj.cells #[.string ⟨#[97]⟩] 9)) := by show _ = _; rw [hx31]; exact heap_alloc_new _ _
    have Sx31 := hide (Sx16.out.trans (Bx31.out.mono Sx16.out.size))
    clear hx31
    refine hK.out _ _ Sx31.out (fun hHeld => ?_)
    clear hK K
    try simp only [Act.put, List.setIfInBounds_toArray, List.set_cons_zero, List.set_cons_succ]
    refine wpAnyH_ready (rs := [2]) (by kernel_rfl) (by simp) ?_
    refine AllReadyH.cons (o := ⟨some 26, _, _, _, _, _⟩) rfl (fun K hK => ?_) AllReadyH.nil
    go_simp
    refine (at_any 4 _ 1 _).mono ?_
    rintro e x32 ⟨rfl, hbx32⟩
    have Bx32 := hide hbx32
    clear hbx32
    have e_p31_x32 : Hid (x32.heap[wd.heap.size]? = some (Obj.cells #[.slice none 0 0, .int .i64 9, .int .i64 1, .int .i64 0, .int .i64 0, .int .i64 0, .slice none 0 0, .string ⟨#[]⟩, .slice none 0 0, .bool false, .slice (some ⟨w1.heap.size, 0, none⟩) 1 1, .int .i64 1, .int .i64 2, .int .i64 0, .int .i64 0, .int .i64 0, .slice none 0 0, .string ⟨#[]⟩, .slice none 0 0, .bool false, .slice (some ⟨w3.heap.size, 0, none⟩) 1 1, .int .i64 5, .int .i64 2, .int .i64 0, .int .i64 0, .int .i64 0, .slice none 0 0, .string ⟨#[]⟩, .slice none 0 0, .bool false] 44)) := up_blk Bx32.out e_p31_x31.out
    have e_s_x32 : Hid (x32.heap[x16.heap.size]? = some (Obj.cells #[.string ⟨#[97]⟩] 9)) := up_blk Bx32.out e_s_x31.out
    have Sx32 := hide (Sx31.out.trans (Bx32.out.mono Sx31.out.size))
    refine hK.out _ _ Sx32.out (fun hHeld => ?_)
    clear hK K
    try simp only [Act.put, List.setIfInBounds_toArray, List.set_cons_zero, List.set_cons_succ]
    refine wpAnyH_ready (rs := [3]) (by kernel_rfl) (by simp) ?_
    refine AllReadyH.cons (o := ⟨some 27, _, _, _, _, _⟩) rfl (fun K hK => ?_) AllReadyH.nil
    go_simp
    obtain ⟨x33, hx33⟩ : ∃ x, x = x32.alloc (Obj.cells #[.slice none 0 0, .int .i64 9, .int .i64 1, .int .i64 0, .int .i64 0, .int .i64 0, .slice none 0 0, .string ⟨#[]⟩, .slice none 0 0, .bool false, .slice (some ⟨x16.heap.size, 0, none⟩) 1 1, .int .i64 1, .int .i64 4, .int .i64 0, .int .i64 0, .int .i64 0, .slice none 0 0, .string ⟨#[]⟩, .slice none 0 0, .bool false] 44) := ⟨_, rfl⟩
    rw [← hx33]
    have Bx33 : Hid (Below x32.heap.size x32 x33) := by show Below _ _ _; rw [hx33]; exact below_one _ _
    have e_p31_x33 : Hid (x33.heap[wd.heap.size]? = some (Obj.cells #[.slice none 0 0, .int .i64 9, .int .i64 1, .int .i64 0, .int .i64 0, .int .i64 0, .slice none 0 0, .string ⟨#[]⟩, .slice none 0 0, .bool false, .slice (some ⟨w1.heap.size, 0, none⟩) 1 1, .int .i64 1, .int .i64 2, .int .i64 0, .int .i64 0, .int .i64 0, .slice none 0 0, .string ⟨#[]⟩, .slice none 0 0, .bool false, .slice (some ⟨w3.heap.size, 0, none⟩) 1 1, .int .i64 5, .int .i64 2, .int .i64 0, .int .i64 0, .int .i64 0, .slice none 0 0, .string ⟨#[]⟩, .slice none 0 0, .bool false] 44)) := up_blk Bx33.out e_p31_x32.out
    have e_s_x33 : Hid (x33.heap[x16.heap.size]? = some (Obj.cells #[.string ⟨#[97]⟩] 9)) := up_blk Bx33.out e_s_x32.out
    have e_p27_x33 : Hid (x33.heap[x32.heap.size]? = some (Obj.cells #[.slice none 0 0, .int .i64 9, .int .i64 1, .int .i64 0, .int .i64 0, .int .i64 0, .slice none 0 0, .string ⟨#[]⟩, .slice none 0 0, .bool false, .slice (some ⟨x16.heap.size, 0, none⟩) 1 1, .int .i64 1, .int .i64 4, .int .i64 0, .int .i64 0, .int .i64 0, .slice none 0 0, .string ⟨#[]⟩, .slice none 0 0, .bool false] 44)) := by show _ = _; rw [hx33]; exact heap_alloc_new _ _
    have Sx33 := hide (Sx32.out.trans (Bx33.out.mono Sx32.out.size))
    clear hx33
    refine hK.out _ _ Sx33.out (fun hHeld => ?_)
    clear hK K
    try simp only [Act.put, List.setIfInBounds_toArray, List.set_cons_zero, List.set_cons_succ]
    refine wpAnyH_ready (rs := [8]) (by kernel_rfl) (by simp) ?_
    refine AllReadyH.cons (o := ⟨some 32, _, _, _, _, _⟩) rfl (fun K hK => ?_) AllReadyH.nil
    go_simp
    obtain ⟨x34, hx34⟩ : ∃ x, x = x33.alloc (Obj.cells #[.slice (some ⟨x32.heap.size, 0, none⟩) 2 2, .slice (some ⟨wd.heap.size, 0, none⟩) 3 3] 25) := ⟨_, rfl⟩
    rw [← hx34]
    have Bx34 : Hid (Below x33.heap.size x33 x34) := by show Below _ _ _; rw [hx34]; exact below_one _ _
    have e_p31_x34 : Hid (x34.heap[wd.heap.size]? = some (Obj.cells #[.slice none 0 0, .int .i64 9, .int .i64 1, .int .i64 0, .int .i64 0, .int .i64 0, .slice none 0 0, .string ⟨#[]⟩, .slice none 0 0, .bool false, .slice (some ⟨w1.heap.size, 0, none⟩) 1 1, .int .i64 1, .int .i64 2, .int .i64 0, .int .i64 0, .int .i64 0, .slice none 0 0, .string ⟨#[]⟩, .slice none 0 0, .bool false, .slice (some ⟨w3.heap.size, 0, none⟩) 1 1, .int .i64 5, .int .i64 2, .int .i64 0, .int .i64 0, .int .i64 0, .slice none 0 0, .string ⟨#[]⟩, .slice none 0 0, .bool false] 44)) := up_blk Bx34.out e_p31_x33.out
    have e_s_x34 : Hid (x34.heap[x16.heap.size]? = some (Obj.cells #[.string ⟨#[97]⟩] 9)) := up_blk Bx34.out e_s_x33.out
    have e_p27_x34 : Hid (x34.heap[x32.heap.size]? = some (Obj.cells #[.slice none 0 0, .int .i64 9, .int .i64 1, .int .i64 0, .int .i64 0, .int .i64 0, .slice none 0 0, .string ⟨#[]⟩, .slice none 0 0, .bool false, .slice (some ⟨x16.heap.size, 0, none⟩) 1 1, .int .i64 1, .int .i64 4, .int .i64 0, .int .i64 0, .int .i64 0, .slice none 0 0, .string ⟨#[]⟩, .slice none 0 0, .bool false] 44)) := up_blk Bx34.out e_p27_x33.out
    have e_p32_x34 : Hid (x34.heap[x33.heap.size]? = some (Obj.cells #[.slice (some ⟨x32.heap.size, 0, none⟩) 2 2, .slice (some ⟨wd.heap.size, 0, none⟩) 3 3] 25)) := by show _ = _; rw [hx34]; exact heap_alloc_new _ _
    have Sx34 := hide (Sx33.out.trans (Bx34.out.mono Sx33.out.size))
    clear hx34
    refine hK.out _ _ Sx34.out (fun hHeld => ?_)
    clear hK K
    try simp only [Act.put, List.setIfInBounds_toArray, List.set_cons_zero, List.set_cons_succ]
    refine wpAnyH_ready (rs := [9]) (by kernel_rfl) (by simp) ?_
    refine AllReadyH.cons (o := ⟨some 33, _, _, _, _, _⟩) rfl (fun K hK => ?_) AllReadyH.nil
    go_simp
    refine (mX_any e_p32_x34.out e_p27_x34.out e_p31_x34.out e_s_x34.out (up_blk Sx34.out HX7.out.sa) (up_blk Sx34.out HX7.out.sb)).mono ?_
    rintro e x35 ⟨a6, c6, P6, rfl, hns, hnm, hbx35⟩
    have HNS := hide hns
    have HNM := hide hnm
    have Bx35 := hide hbx35
    clear hns hnm hbx35
    have Sx35 := hide (Sx34.out.trans (Bx35.out.mono Sx34.out.size))
    refine hK.out _ _ Sx35.out (fun hHeld => ?_)
    clear hK K
    try simp only [Act.put, List.setIfInBounds_toArray, List.set_cons_zero, List.set_cons_succ]
    refine wpAnyH_take (i := 10) (oi := ⟨some 6, _, _, _, _, _⟩) (v := ?_) rfl (by kernel_rfl) (by kernel_rfl) (by kernel_rfl) (fun _ _ _ h => h) (Or.inl ⟨by rfl, ?_⟩) (by assumption) ?_
    rotate_left
    ·(intro wS hSw; go_simp; try with_reducible rfl)
    try simp only [Act.put, List.setIfInBounds_toArray, List.set_cons_zero, List.set_cons_succ]
    refine wpAnyH_done (by kernel_rfl) ?_ _
    clear hHeld
    go_wp2_with fail
    go_meet
    exact ⟨_, _, P6, rfl, HNS.out, HNM.out, Sx35.out⟩
  case rest =>
   obtain ⟨a6, c6, P6, rfl, hns6, hnm6, hbc⟩ := hcut
   obtain ⟨v8, rfl⟩ : ∃ x, x = wc := ⟨wc, rfl⟩
   have HX8 := hide (HX7.out.below hbc)
   have HN6 := hide hns6
   have HM6 := hide hnm6
   have HG5 := hide (up_blk hbc HF5.out)
   have HG6 := hide (up_blk hbc HF6.out)
   have HG7 := hide (up_blk hbc HF7.out)
   clear hns6 hnm6 hbc HX7 HF5 HF6 HF7 HL1 HL2 HL3
   have HL1 : Hid (∀ W, Below v8.heap.size v8 W → W.cell? ⟨w.heap.size, 0, none⟩ = some (.slice none 0 0) ∧ W.cell? ⟨w.heap.size, 1, none⟩ = some (.int .i64 9) ∧ W.cell? ⟨w.heap.size, 2, none⟩ = some (.int .i64 1) ∧ W.cell? ⟨w.heap.size, 3, none⟩ = some (.int .i64 0) ∧ W.cell? ⟨w.heap.size, 4, none⟩ = some (.int .i64 0) ∧ W.cell? ⟨w.heap.size, 5, none⟩ = some (.int .i64 0) ∧ W.cell? ⟨w.heap.size, 6, none⟩ = some (.slice none 0 0) ∧ W.cell? ⟨w.heap.size, 7, none⟩ = some (.string ⟨#[]⟩) ∧ W.cell? ⟨w.heap.size, 8, none⟩ = some (.slice none 0 0) ∧ W.cell? ⟨w.heap.size, 9, none⟩ = some (.bool false)) := fun W hW => by
    obtain ⟨_, b0, b1, b2, b3, b4, b5, b6, b7, b8, b9⟩ := Bk.box (up_blk hW HX8.out.r)
    exact ⟨b0, b1, b2, b3, b4, b5, b6, b7, b8, b9⟩
   go_upto_region 9 with fail
   go_cut [7] from 9 (fun s7 wx => ∃ a7 c7 P7, s7 = .slice a7 3 c7 ∧ Ns wx a7 3 P7 ∧ (gl P7 2).2.names = [nD, nF] ∧ Below v8.heap.size v8 wx)
   case first =>
    refine wp_region_held_drew (S := fun wX => Below v8.heap.size v8 wX) (by kernel_rfl) (below_drewN (Below.refl _ _) 1) (fun hHeld => ?_)
    obtain ⟨wd, hwd⟩ : ∃ x, x = v8.drewN 1 := ⟨_, rfl⟩
    have Swd : Hid (Below v8.heap.size v8 wd) := by show Below _ _ _; rw [hwd]; exact below_drewN (Below.refl _ _) 1
    first | rw [← hwd] | (have hwd2 : wd = v8.drew := hwd; rw [← hwd2]; clear hwd2)
    clear hwd
    refine wpAnyH_take (i := 0) (oi := ⟨some 34, _, _, _, _, _⟩) (v := ?_) rfl (by kernel_rfl) (by kernel_rfl) (by kernel_rfl) (fun _ _ _ h => h) (Or.inl ⟨by rfl, ?_⟩) (by assumption) ?_
    rotate_left
    ·(intro wS hSw; obtain ⟨b0, b1, b2, b3, b4, b5, b6, b7, b8, b9⟩ := HL1.out wS hSw; go_simp; try with_reducible rfl)
    try simp only [Act.put, List.setIfInBounds_toArray, List.set_cons_zero, List.set_cons_succ]
    refine wpAnyH_take (i := 4) (oi := ⟨some 38, _, _, _, _, _⟩) (v := ?_) rfl (by kernel_rfl) (by kernel_rfl) (by kernel_rfl) (fun _ _ _ h => h) (Or.inl ⟨by rfl, ?_⟩) (by assumption) ?_
    rotate_left
    ·(intro wS hSw; go_simp; try with_reducible rfl)
    try simp only [Act.put, List.setIfInBounds_toArray, List.set_cons_zero, List.set_cons_succ]
    refine wpAnyH_ready (rs := [1]) (by kernel_rfl) (by simp) ?_
    refine AllReadyH.cons (o := ⟨some 35, _, _, _, _, _⟩) rfl (fun K hK => ?_) AllReadyH.nil
    go_simp
    obtain ⟨x36, hx36⟩ : ∃ x, x = wd.alloc (Obj.cells #[.string ⟨#[100]⟩] 9) := ⟨_, rfl⟩
    rw [← hx36]
    have Bx36 : Hid (Below wd.heap.size wd x36) := by show Below _ _ _; rw [hx36]; exact below_one _ _
    have e_s_x36 : Hid (x36.heap[wd.heap.size]? = some (Obj.cells #[.string ⟨#[100]⟩] 9)) := by show _ = _; rw [hx36]; exact heap_alloc_new _ _
    have Sx36 := hide (Swd.out.trans (Bx36.out.mono Swd.out.size))
    clear hx36
    refine hK.out _ _ Sx36.out (fun hHeld => ?_)
    clear hK K
    try simp only [Act.put, List.setIfInBounds_toArray, List.set_cons_zero, List.set_cons_succ]
    refine wpAnyH_ready (rs := [2]) (by kernel_rfl) (by simp) ?_
    refine AllReadyH.cons (o := ⟨some 36, _, _, _, _, _⟩) rfl (fun K hK => ?_) AllReadyH.nil
    go_simp
    refine (at_any 1 _ 1 _).mono ?_
    rintro e x37 ⟨rfl, hbx37⟩
    have Bx37 := hide hbx37
    clear hbx37
    have e_s_x37 : Hid (x37.heap[wd.heap.size]? = some (Obj.cells #[.string ⟨#[100]⟩] 9)) := up_blk Bx37.out e_s_x36.out
    have Sx37 := hide (Sx36.out.trans (Bx37.out.mono Sx36.out.size))
    refine hK.out _ _ Sx37.out (fun hHeld => ?_)
    clear hK K
    try simp only [Act.put, List.setIfInBounds_toArray, List.set_cons_zero, List.set_cons_succ]
    refine wpAnyH_ready (rs := [3]) (by kernel_rfl) (by simp) ?_
    refine AllReadyH.cons (o := ⟨some 37, _, _, _, _, _⟩) rfl (fun K hK => ?_) AllReadyH.nil
    go_simp
    obtain ⟨x38, hx38⟩ : ∃ x, x = x37.alloc (Obj.cells #[.slice none 0 0, .int .i64 9, .int .i64 1, .int .i64 0, .int .i64 0, .int .i64 0, .slice none 0 0, .string ⟨#[]⟩, .slice none 0 0, .bool false, .slice (some ⟨wd.heap.size, 0, none⟩) 1 1, .int .i64 1, .int .i64 1, .int .i64 0, .int .i64 0, .int .i64 0, .slice none 0 0, .string ⟨#[]⟩, .slice none 0 0, .bool false] 44) := ⟨_, rfl⟩
    rw [← hx38]
    have Bx38 : Hid (Below x37.heap.size x37 x38) := by show Below _ _ _; rw [hx38]; exact below_one _ _
    have e_s_x38 : Hid (x38.heap[wd.heap.size]? = some (Obj.cells #[.string ⟨#[100]⟩] 9)) := up_blk Bx38.out e_s_x37.out
    have e_p37_x38 : Hid (x38.heap[x37.heap.size]? = some (Obj.cells #[.slice none 0 0, .int .i64 9, .int .i64 1, .int .i64 0, .int .i64 0, .int .i64 0, .slice none 0 0, .string ⟨#[]⟩, .slice none 0 0, .bool false, .slice (some ⟨wd.heap.size, 0, none⟩) 1 1, .int .i64 1, .int .i64 1, .int .i64 0, .int .i64 0, .int .i64 0, .slice none 0 0, .string ⟨#[]⟩, .slice none 0 0, .bool false] 44)) := by show _ = _; rw [hx38]; exact heap_alloc_new _ _
    have Sx38 := hide (Sx37.out.trans (Bx38.out.mono Sx37.out.size))
    clear hx38
    refine hK.out _ _ Sx38.out (fun hHeld => ?_)
    clear hK K
    try simp only [Act.put, List.setIfInBounds_toArray, List.set_cons_zero, List.set_cons_succ]
    refine wpAnyH_ready (rs := [5]) (by kernel_rfl) (by simp) ?_
    refine AllReadyH.cons (o := ⟨some 39, _, _, _, _, _⟩) rfl (fun K hK => ?_) AllReadyH.nil
    go_simp
    obtain ⟨x39, hx39⟩ : ∃ x, x = x38.alloc (Obj.cells #[.slice (some ⟨x37.heap.size, 0, none⟩) 2 2, .slice (some ⟨b5, 0, none⟩) 3 3] 25) := ⟨_, rfl⟩
    rw [← hx39]
    have Bx39 : Hid (Below x38.heap.size x38 x39) := by show Below _ _ _; rw [hx39]; exact below_one _ _
    have e_s_x39 : Hid (x39.heap[wd.heap.size]? = some (Obj.cells #[.string ⟨#[100]⟩] 9)) := up_blk Bx39.out e_s_x38.out
    have e_p37_x39 : Hid (x39.heap[x37.heap.size]? = some (Obj.cells #[.slice none 0 0, .int .i64 9, .int .i64 1, .int .i64 0, .int .i64 0, .int .i64 0, .slice none 0 0, .string ⟨#[]⟩, .slice none 0 0, .bool false, .slice (some ⟨wd.heap.size, 0, none⟩) 1 1, .int .i64 1, .int .i64 1, .int .i64 0, .int .i64 0, .int .i64 0, .slice none 0 0, .string ⟨#[]⟩, .slice none 0 0, .bool false] 44)) := up_blk Bx39.out e_p37_x38.out
    have e_p39_x39 : Hid (x39.heap[x38.heap.size]? = some (Obj.cells #[.slice (some ⟨x37.heap.size, 0, none⟩) 2 2, .slice (some ⟨b5, 0, none⟩) 3 3] 25)) := by show _ = _; rw [hx39]; exact heap_alloc_new _ _
    have Sx39 := hide (Sx38.out.trans (Bx39.out.mono Sx38.out.size))
    clear hx39
    refine hK.out _ _ Sx39.out (fun hHeld => ?_)
    clear hK K
    try simp only [Act.put, List.setIfInBounds_toArray, List.set_cons_zero, List.set_cons_succ]
    refine wpAnyH_ready (rs := [6]) (by kernel_rfl) (by simp) ?_
    refine AllReadyH.cons (o := ⟨some 40, _, _, _, _, _⟩) rfl (fun K hK => ?_) AllReadyH.nil
    go_simp
    refine (mY_any e_p39_x39.out e_p37_x39.out e_s_x39.out (up_blk Sx39.out HG5.out) (up_blk Sx39.out HG6.out) (up_blk Sx39.out HG7.out)).mono ?_
    rintro e x40 ⟨a6, c6, P6, rfl, hns, hnm, hbx40⟩
    have HNS := hide hns
    have HNM := hide hnm
    have Bx40 := hide hbx40
    clear hns hnm hbx40
    have Sx40 := hide (Sx39.out.trans (Bx40.out.mono Sx39.out.size))
    refine hK.out _ _ Sx40.out (fun hHeld => ?_)
    clear hK K
    try simp only [Act.put, List.setIfInBounds_toArray, List.set_cons_zero, List.set_cons_succ]
    refine wpAnyH_take (i := 7) (oi := ⟨some 7, _, _, _, _, _⟩) (v := ?_) rfl (by kernel_rfl) (by kernel_rfl) (by kernel_rfl) (fun _ _ _ h => h) (Or.inl ⟨by rfl, ?_⟩) (by assumption) ?_
    rotate_left
    ·(intro wS hSw; go_simp; try with_reducible rfl)
    try simp only [Act.put, List.setIfInBounds_toArray, List.set_cons_zero, List.set_cons_succ]
    refine wpAnyH_done (by kernel_rfl) ?_ _
    clear hHeld
    go_wp2_with fail
    go_meet
    exact ⟨_, _, P6, rfl, HNS.out, HNM.out, Sx40.out⟩
   case rest =>
    obtain ⟨a7, c7, P7, rfl, hns7, hnm7, hbc⟩ := hcut
    obtain ⟨v9, rfl⟩ : ∃ x, x = wc := ⟨wc, rfl⟩
    have HX9 := hide (HX8.out.below hbc)
    have HN7 := hide hns7
    have HM7 := hide hnm7
    have HO6 := hide (HN6.out.below hbc)
    have HH5 := hide (up_blk hbc HG5.out)
    have HH6 := hide (up_blk hbc HG6.out)
    have HH7 := hide (up_blk hbc HG7.out)
    clear hns7 hnm7 hbc HX8 HG5 HG6 HG7 HL1 HN6
    have hr9 := Bk.box HX9.out.r
    obtain ⟨_, r0, r1, r2, r3, r4, r5, r6, r7, r8, r9⟩ := hr9
    have hd9 := Bk.box HX9.out.d
    obtain ⟨_, d0, d1, d2, d3, d4, d5, d6, d7, d8, d9⟩ := hd9
    simp only [mroV, atV] at r0 r1 r2 r3 r4 r5 r6 r7 r8 r9 d0 d1 d2 d3 d4 d5 d6 d7 d8 d9
    obtain ⟨u1, hu1⟩ : ∃ x, x = v9.alloc (Obj.cells #[.slice none 0 0, .int .i64 9, .int .i64 1, .int .i64 0, .int .i64 0, .int .i64 0, .slice none 0 0, .string ⟨#[]⟩, .slice none 0 0, .bool false, .slice (some ⟨w6.heap.size, 0, none⟩) 1 1, .int .i64 1, .int .i64 1, .int .i64 0, .int .i64 0, .int .i64 0, .slice none 0 0, .string ⟨#[]⟩, .slice none 0 0, .bool true] 44) := ⟨_, rfl⟩
    obtain ⟨u2, hu2⟩ : ∃ x, x = u1.alloc (Obj.cells #[.slice (some ⟨v9.heap.size, 0, none⟩) 2 2, .slice (some ⟨b5, 0, none⟩) 3 3] 25) := ⟨_, rfl⟩
    have B1 : Below v9.heap.size v9 u1 := by rw [hu1]; exact below_one _ _
    have B2 : Below u1.heap.size u1 u2 := by rw [hu2]; exact below_one _ _
    have B3 : Below v9.heap.size v9 u2 := B1.trans (B2.mono B1.size)
    have g1 : u1.heap[v9.heap.size]? = some (Obj.cells #[.slice none 0 0, .int .i64 9, .int .i64 1, .int .i64 0, .int .i64 0, .int .i64 0, .slice none 0 0, .string ⟨#[]⟩, .slice none 0 0, .bool false, .slice (some ⟨w6.heap.size, 0, none⟩) 1 1, .int .i64 1, .int .i64 1, .int .i64 0, .int .i64 0, .int .i64 0, .slice none 0 0, .string ⟨#[]⟩, .slice none 0 0, .bool true] 44) := by rw [hu1]; exact heap_alloc_new _ _
    have g2 : u2.heap[u1.heap.size]? = some (Obj.cells #[.slice (some ⟨v9.heap.size, 0, none⟩) 2 2, .slice (some ⟨b5, 0, none⟩) 3 3] 25) := by rw [hu2]; exact heap_alloc_new _ _
    have hs1 : u1.heap.size = v9.heap.size + 1 := by rw [hu1]; simp
    have HZ := hide (mZ_any g2 (up_blk B2 g1) (up_blk B3 HX9.out.sd) (up_blk B3 HH5.out) (up_blk B3 HH6.out) (up_blk B3 HH7.out))
    rw [hs1] at HZ
    have hu3 : u2 = (v9.alloc (Obj.cells #[.slice none 0 0, .int .i64 9, .int .i64 1, .int .i64 0, .int .i64 0, .int .i64 0, .slice none 0 0, .string ⟨#[]⟩, .slice none 0 0, .bool false, .slice (some ⟨w6.heap.size, 0, none⟩) 1 1, .int .i64 1, .int .i64 1, .int .i64 0, .int .i64 0, .int .i64 0, .slice none 0 0, .string ⟨#[]⟩, .slice none 0 0, .bool true] 44)).alloc (Obj.cells #[.slice (some ⟨v9.heap.size, 0, none⟩) 2 2, .slice (some ⟨b5, 0, none⟩) 3 3] 25) := by rw [hu2, hu1]
    have HU3 := hide hu3
    have HB3 := hide B3
    clear hu1 hu2 B1 B2 B3 g1 g2 hs1 hu3 HH5 HH6 HH7
    go_upto_region 11 with (go_at_call 11; rw [← HU3.out]; refine HZ.out.mono ?_; rintro e v10 ⟨a8, c8, P8, rfl, hns8, hop8, hb8⟩; have HN8 := hide hns8; have HM8 := hide hop8; have HB8 := hide (HB3.out.trans (hb8.mono HB3.out.size)); clear hns8 hop8 hb8)
    have N6 := HO6.out.below HB8.out
    have N7 := HN7.out.below HB8.out
    have N8 := HN8.out
    obtain ⟨b6, o6, rfl, _, hc6⟩ := N6.at (by omega)
    obtain ⟨b7, o7, rfl, _, hc7⟩ := N7.at (by omega)
    obtain ⟨b8, o8, rfl, _, hc8⟩ := N8.at (by omega)
    have k6 := (hc6 1 (by omega)).c0
    have k7 := (hc7 2 (by omega)).c0
    have k8 := (hc8 1 (by omega)).c9
    have e8 := (N8.rep 1 (by omega)).op
    rw [HM8.out] at e8
    rw [← e8] at k8
    have m6 := (N6.rep 1 (by omega)).names
    have m7 := (N7.rep 2 (by omega)).names
    rw [HM6.out] at m6
    rw [HM7.out] at m7
    generalize (gl P6 1).1.na = na6 at *
    generalize (gl P6 1).1.nn = nn6 at *
    generalize (gl P6 1).1.nc = nc6 at *
    generalize (gl P7 2).1.na = na7 at *
    generalize (gl P7 2).1.nn = nn7 at *
    generalize (gl P7 2).1.nc = nc7 at *
    have l6 : 1 = nn6 := m6.1
    have l7 : 2 = nn7 := m7.1
    subst l6
    subst l7
    obtain ⟨bn, on, rfl, hn6⟩ : ∃ bn on, na6 = some ⟨bn, on, none⟩ ∧ v10.cell? ⟨bn, on, none⟩ = some (.string nB) := by
     rcases m6.2 with h | ⟨bn, on, h1, _, h2⟩
     ·omega
     ·exact ⟨bn, on, h1, h2 0 (by simp)⟩
    have HBF := hide (HB8.out)
    have HGW := hide HX9.out.bel
    clear N6 N7 N8 hc6 hc7 hc8 e8 m6 m7 HB8 HX9 HO6 HN7 HN8 HM6 HM7 HM8 HZ HU3 HB3 r0 r1 r2 r3 r4 r5 r6 r7 r8 r9 d0 d1 d2 d3 d4 d5 d6 d7 d8 d9
    unfold nB at hn6
    go_wp2
    go_ret
    exact ⟨rfl, HGW.out.trans (HBF.out.mono HGW.out.size)⟩
end Go.Proofs.Ytoocipdhplaboaa
namespace Go.Proofs.Ytoocipdhplaboaa
open Go.RowKit Go.Maps
open Nam Tre Mrg Brn
def lvs (Q : List Ly) : List Value := Q.map fun y => .slice y.a y.n y.c
theorem lvs_append (Q P : List Ly) : lvs (Q ++ P) = lvs Q ++ lvs P := by simp [lvs]
theorem lvs_length (Q : List Ly) : (lvs Q).length = Q.length := by simp [lvs]
theorem infoNds : (Try.prog.info? 25).map (fun i => (i.zero, i.size, i.bytes)) = some (some (.slice none 0 0), 1, 24) := by kernel_rfl
theorem wpList_append_ly (w : World) {ops : Array Oper} {rest : List Oper} {o : Oper} {a : Act} {Q : Exit → Act → World → Prop} (hgd : o.guard = none) (s x : Operand)
  (ho : o.op = .call { callee := .builtin .append, args := #[s, x], argTypes := #[22, 22] })
  (base : Nat) (vo : Option Addr) (n vc : Nat) (L : List Ly) (hs : a.eval s = .slice vo n vc) (hown : w.ownsRow base 25 1 (.slice vo n vc) n (lvs L))
  (p : Nat) (t : Ly) (hx : a.eval x = .slice (some ⟨p, 0, none⟩) 1 1) (hp : w.cell? ⟨p, 0, none⟩ = some (.slice t.a t.n t.c))
  (hbd : n + 1 ≤ 1000000) (hbase : base ≤ w.heap.size)
  (h : ∀ b' c' w', w'.ownsRow base 25 1 (.slice (some ⟨b', 0, none⟩) (n + 1) c') (n + 1) (lvs (L ++ [t])) → w.grownBy w' (Value.slice vo n vc).ownBlock → ((Value.slice vo n vc).ownBlock = some b' ∨ b' = w.heap.size) → wpList Try.prog ops Q rest (a.put o.dst (.slice (some ⟨b', 0, none⟩) (n + 1) c')) w') :
  wpList Try.prog ops Q (o :: rest) a w := by
 obtain ⟨i0, hi, hz0, hz1, hz2⟩ := info_parts infoNds
 refine wpList_append_own_at w hgd s x _ ho base 25 i0 (.slice none 0 0) 1 24 Try.underlying22 hi hz0 hz1 hz2 rfl (by decide) _ n _ hs hown ⟨p, 0, none⟩ 1 1 [.slice t.a t.n t.c] hx (by simp) ?_ (by simp; rfl) (by unfold maxLen; omega) (by omega) hbase ?_
 ·intro j u hj
  match j, hj with
  | 0, hj => simp at hj; subst hj; simpa [Addr.add] using hp
 ·intro v' w' h2 h3 _ h5
  obtain ⟨g', c', rfl, _⟩ := h2.form (by omega)
  refine h g' c' w' (by rw [lvs_append]; exact h2) h3 ?_
  rcases h5 with h5 | h5
  ·exact .inl h5.symm
  ·exact .inr (by simpa [Value.ownBlock] using h5)
def cutn (n : Nod) : Nod := { n with names := n.names.take 18 }
def cutnv (v : Nv) : Nv := { v with nn := min v.nn 18 }
theorem rep_cutn {w : World} {v : Nv} {n : Nod} (h : Rep w v n) : Rep w (cutnv v) (cutn n) :=
 { h with
  names := by
   have := h.names.take (min v.nn 18) (by omega)
   have e : n.names.take (min v.nn 18) = n.names.take 18 := by rw [← h.names.1, Nat.min_comm, ← List.take_take, List.take_length]
   rw [e] at this; exact this
  nc := by have := h.nc; show min v.nn 18 ≤ v.nc; omega }
def fewT (L : List (Nv × Nod)) : List (Nv × Nod) := (L.take 25).map (fun p => (cutnv p.1, cutn p.2))
theorem fewT_length (L : List (Nv × Nod)) : (fewT L).length = min 25 L.length := by simp [fewT]
theorem fewT_rep {w : World} {L : List (Nv × Nod)} (h : ∀ p ∈ L, Rep w p.1 p.2) : ∀ p ∈ fewT L, Rep w p.1 p.2 := by
 intro p hp
 simp only [fewT, List.mem_map] at hp
 obtain ⟨q, hq, rfl⟩ := hp
 exact rep_cutn (h q (List.mem_of_mem_take hq))
theorem fewT_take (L : List (Nv × Nod)) (i : Nat) (h : i < L.length) (h2 : i < 25) : ((fewT L).take (i + 1)).map (·.1) = ((fewT L).take i).map (·.1) ++ [cutnv (gl L i).1] := by
 rw [List.take_succ_eq_append_getElem (by rw [fewT_length]; omega), List.map_append, gl_lt L i h]
 simp [fewT]
theorem fewT_names (L : List (Nv × Nod)) : ∀ p ∈ fewT L, p.2.names.length ≤ 18 := by
 intro p hp
 simp only [fewT, List.mem_map] at hp
 obtain ⟨q, _, rfl⟩ := hp
 simp [cutn]; omega
structure LyW (w W : World) (y : Ly) : Prop where
 row : W.ownsRow w.heap.size 44 10 (.slice y.a y.n y.c) y.n (nvs (y.L.map (·.1)))
 rep : ∀ p ∈ y.L, Rep w p.1 p.2
 len : y.L.length ≤ 25
 nms : ∀ p ∈ y.L, p.2.names.length ≤ 18
 may : checkB (nds y.L) = 0
theorem LyW.ok {w W : World} {y : Ly} (h : LyW w W y) (hb : Below w.heap.size w W) : y.Ok W := by
 obtain ⟨h1, h2, _⟩ := cap_owns h.row
 exact ⟨(sh_of_owns h.row).ns (fun p hp => (h.rep p hp).below hb), h1, h2⟩
theorem LyW.below {w W W' : World} {y : Ly} (h : LyW w W y) (hb : Below W.heap.size W W') : LyW w W' y :=
 ⟨h.row.kept (row := none) ⟨hb.os, hb.tape, hb.output, hb.size, fun k hk _ => hb.block k hk⟩ (by cases hv : (Value.slice y.a y.n y.c).ownBlock with | none => exact .inl rfl | some g => exact .inr (by simp)), h.rep, h.len, h.nms, h.may⟩
theorem LyW.grown {w W W' : World} {y : Ly} (h : LyW w W y) {B n c : Nat} {ao : Option Addr} {xs : List Value} (ho : W.ownsRow B 25 1 (.slice ao n c) n xs) (hg : W.grownBy W' (Value.slice ao n c).ownBlock) : LyW w W' y := by
 refine ⟨h.row.kept hg ?_, h.rep, h.len, h.nms, h.may⟩
 cases hv : (Value.slice y.a y.n y.c).ownBlock with
 | none => exact .inl rfl
 | some g =>
  refine .inr fun e => ?_
  obtain ⟨c1, q1⟩ := owns_obj h.row hv
  obtain ⟨c2, q2⟩ := owns_obj ho e.symm
  rw [q1] at q2
  injection q2 with q2
  injection q2 with _ q2 _
  exact absurd q2 (by decide)
theorem fewT_names1 (L : List (Nv × Nod)) : ∀ p ∈ fewT L, p.2.names.length ≤ 1000000 := fun p hp => by have := fewT_names L p hp; omega
def fewI (Q : List Ly) (i : Nat) : List (List Nod) := ((Q.take i).map (fun y => nds (fewT y.L))).filter (fun l => decide (checkB l = 0))
theorem fewI_succ (Q : List Ly) (i : Nat) (h : i < Q.length) : fewI Q (i + 1) = fewI Q i ++ (if checkB (nds (fewT (gy Q i).L)) = 0 then [nds (fewT (gy Q i).L)] else []) := by
 unfold fewI
 rw [List.take_succ_eq_append_getElem h, List.map_append, List.filter_append, gy_lt Q i h]
 simp only [List.map_cons, List.map_nil]
 rw [List.filter_cons, List.filter_nil]
 simp
theorem infoNds0 (w : World) : (w.alloc (.cells #[] 25)).ownsRow w.heap.size 25 1 (.slice (some ⟨w.heap.size, 0, none⟩) 0 0) 0 (lvs []) :=
 ⟨rfl, .inr ⟨w.heap.size, 0, #[], rfl, Nat.le_refl _, heap_alloc_new w _, Nat.le_refl _, by unfold maxLen; omega, rfl, rfl⟩⟩
theorem lys_append (Q P : List Ly) : lys (Q ++ P) = lys Q ++ lys P := by simp [lys]
set_option maxRecDepth 100000 in
set_option maxHeartbeats 4000000 in
theorem few19_any (a : Option Addr) (n c : Nat) (Q : List Ly) (w : World) (hq : NsR w a n Q) (hc : n ≤ c) (hcm : c ≤ 9223372036854775807) :
  Calls Try.prog 10 #[.slice a n c] w fun e w' => ∃ ao k c' QQ, e = .returned (.slice ao k c') ∧ k ≤ 5 ∧ w'.ownsRow w.heap.size 25 1 (.slice ao k c') k (lvs QQ) ∧ (∀ y ∈ QQ, LyW w w' y) ∧ lys QQ = fewI Q 5 ∧ Below w.heap.size w w' := by
 have HQ := hide hq
 have HQN := hide hq.1
 clear hq
 go_enter Try.func10, Try.ntmps10
 go_wp2_with fail
 go_loopw [3, 4, 5, 6, 7] (fun r3 r4 _ _ _ wr => ∃ (i k : Nat) (ao : Option Addr) (co : Nat) (QQ : List Ly), r4 = .int .i64 i ∧ r3 = .slice ao k co ∧ i ≤ n ∧ i ≤ 5 ∧ k ≤ i ∧ wr.ownsRow w.heap.size 25 1 (.slice ao k co) k (lvs QQ) ∧ (∀ y ∈ QQ, LyW w wr y) ∧ lys QQ = fewI Q i ∧ Below w.heap.size w wr) (fun _ r4 _ _ _ _ => n - (intOf r4).toNat)
 case atStart => exact ⟨0, 0, _, _, [], rfl, rfl, Nat.zero_le _, by omega, Nat.le_refl _, infoNds0 w, fun y hy => by simp at hy, rfl, below_one _ _⟩
 case round =>
  obtain ⟨i, k, ao, co, QQ, rfl, rfl, hi0, hi5, hki, hO, hY, hL, hb⟩ := hrel
  have HO := hide hO
  have HY := hide hY
  have HL := hide hL
  have HB := hide hb
  clear hO hY hL hb
  have HFIN : Hid (n ≤ i ∨ 5 ≤ i → fewI Q i = fewI Q 5) := fun h => by
   unfold fewI
   congr 1
   congr 1
   rcases h with h | h
   ·rw [List.take_of_length_le (by rw [HQN.out]; omega), List.take_of_length_le (by rw [HQN.out]; omega)]
   ·rw [show i = 5 by omega]
  by_cases hi : i < n
  ·have hd : decide ((i : Int) < n) = true := by simpa using hi
   by_cases h5 : i < 5
   ·have hd2 : decide ((i : Int) < 5) = true := by simp; omega
    have hi1 : (i : Int) < n := by omega
    obtain ⟨b, off, rfl, hbl, hcs⟩ := (HQ.out.below HB.out).at (by omega)
    have cr := hcs i hi
    have hyo := HQ.out.ok i hi
    have HFS := hide (fewI_succ Q i (by rw [HQN.out]; exact hi))
    generalize gy Q i = y at *
    obtain ⟨ya, yn, yc, yL⟩ := y
    simp only at cr
    have HYO := hide hyo
    have HYN : Hid (yL.length = yn) := hyo.ns.1
    have hyc : yn ≤ yc := hyo.le
    have hym : yc ≤ 9223372036854775807 := hyo.max
    have HCR : Hid (∀ W, Below wr.heap.size wr W → W.cell? ⟨b, off + i, none⟩ = some (.slice ya yn yc)) := fun W hW => (hW.cell (by exact hbl)).trans cr
    clear hcs hyo hbl
    obtain ⟨wo, rfl⟩ : ∃ wo, wo = wr := ⟨wr, rfl⟩
    have HE0 : Hid (∀ W : World, W = wo.alloc (.cells #[] 44) → W.ownsRow wo.heap.size 44 10 (.slice (some ⟨wo.heap.size, 0, none⟩) 0 0) 0 (nvs (((fewT yL).take 0).map (·.1))) ∧ Below wo.heap.size wo W) := fun W hW => by
     rw [hW]; exact ⟨by simpa using emptyN (Nat.le_refl _), below_one _ _⟩
    go_wp2_with fail
    go_loopw [5, 6, 7] (fun r5 r6 _ wx => ∃ (j : Nat) (at' : Option Addr) (ct : Nat), r6 = .int .i64 j ∧ r5 = .slice at' j ct ∧ j ≤ yn ∧ j ≤ 25 ∧ wo.heap.size < wx.heap.size ∧ wx.ownsRow wo.heap.size 44 10 (.slice at' j ct) j (nvs (((fewT yL).take j).map (·.1))) ∧ Below wo.heap.size wo wx) (fun _ r6 _ _ => yn - (intOf r6).toNat)
    case atStart => exact ⟨0, _, _, rfl, rfl, Nat.zero_le _, by omega, by simp, (HE0.out _ rfl).1, (HE0.out _ rfl).2⟩
    case round =>
     obtain ⟨j, at', ct, rfl, rfl, hjn, hj25, hsz, hown, hbel⟩ := hrel
     have HBx := hide hbel
     have HOx := hide hown
     have crx := HCR.out wr hbel
     have hln : (fewT yL).length = min 25 yn := by rw [fewT_length, HYN.out]
     by_cases hj : j < yn
     ·have hdj : decide ((j : Int) < yn) = true := by simpa using hj
      have hj1 : (j : Int) < yn := by omega
      by_cases h25 : j < 25
      ·have hd25 : decide ((j : Int) < 25) = true := by simp; omega
       have hyns : Ns w ya yn yL := HYO.out.ns
       obtain ⟨ba, oa, rfl, hba, hca⟩ := ((hyns.below HB.out).below hbel).at (by omega)
       obtain ⟨c0, c1, c2, c3, c4, c5, c6, c7, c8, c9⟩ := hca j hj
       have hr := hyns.rep j hj
       have HT := hide (fewT_take yL j (by rw [HYN.out]; exact hj) h25)
       have x1 := hr.nc
       have x2 := hr.ncm
       generalize (gl yL j).1 = v at *
       obtain ⟨Vt, hVt⟩ : ∃ Vt, Vt = ((fewT yL).take j).map (·.1) := ⟨_, rfl⟩
       rw [← hVt] at hown HT
       have HO2 := hide hown
       clear hca hr hown hbel HOx hVt hln cr hyns
       by_cases h1 : 18 < v.nn
       ·have HCV : Hid (cutnv v = ⟨v.na, 18, v.nc, v.ino, v.kind, v.mode, v.uid, v.gid, v.da, v.dn, v.dc, v.tg, v.xa, v.xn, v.xc, v.op⟩) := by show _ = _; unfold cutnv; rw [show min v.nn 18 = 18 by omega]
        have g1 : (18 : Int) < v.nn := by omega
        rw [HCV.out] at HT
        go_wp2_with (at_builtin; refine wpList_append_nod _ rfl _ _ rfl wo.heap.size _ _ _ Vt rfl ((HO2.out.alloc _).alloc _) _ _ _ _ rfl (sh_one' (v := ⟨v.na, 18, v.nc, v.ino, v.kind, v.mode, v.uid, v.gid, v.da, v.dn, v.dc, v.tg, v.xa, v.xn, v.xc, v.op⟩) (by simp)) (fun h => by cases h) (by omega) (by simp; omega) ?_)
        intro ao2 k2 w2 hown2 hg2
        rw [← HT.out] at hown2
        have e2 := hide (((HBx.out.alloc (by omega) _).alloc (by simp; omega) _).grown hg2 (by simp; omega) (fun k e => (HO2.out.lt k e).1))
        have s2 := hg2.size
        simp only [World.size_alloc] at s2
        have HO3 := hide hown2
        clear hown2 hg2 HCV HT
        go_wp2
        exact ⟨⟨j + 1, ao2, k2, by go_num, rfl, by omega, by omega, by omega, HO3.out, e2.out⟩, by simp [intOf]; omega⟩
       ·have HCV : Hid (cutnv v = ⟨v.na, v.nn, v.nc, v.ino, v.kind, v.mode, v.uid, v.gid, v.da, v.dn, v.dc, v.tg, v.xa, v.xn, v.xc, v.op⟩) := by show _ = _; unfold cutnv; rw [show min v.nn 18 = v.nn by omega]
        have g1 : ¬ (18 : Int) < v.nn := by omega
        rw [HCV.out] at HT
        go_wp2_with (at_builtin; refine wpList_append_nod _ rfl _ _ rfl wo.heap.size _ _ _ Vt rfl ((HO2.out.alloc _).alloc _) _ _ _ _ rfl (sh_one' (v := ⟨v.na, v.nn, v.nc, v.ino, v.kind, v.mode, v.uid, v.gid, v.da, v.dn, v.dc, v.tg, v.xa, v.xn, v.xc, v.op⟩) (by simp)) (fun h => by cases h) (by omega) (by simp; omega) ?_)
        intro ao2 k2 w2 hown2 hg2
        rw [← HT.out] at hown2
        have e2 := hide (((HBx.out.alloc (by omega) _).alloc (by simp; omega) _).grown hg2 (by simp; omega) (fun k e => (HO2.out.lt k e).1))
        have s2 := hg2.size
        simp only [World.size_alloc] at s2
        have HO3 := hide hown2
        clear hown2 hg2 HCV HT
        go_wp2
        exact ⟨⟨j + 1, ao2, k2, by go_num, rfl, by omega, by omega, by omega, HO3.out, e2.out⟩, by simp [intOf]; omega⟩
      ·have hd25 : decide ((j : Int) < 25) = false := by simp; omega
       have HT0 : Hid (wr.ownsRow wo.heap.size 44 10 (.slice at' j ct) j (nvs ((fewT yL).map (·.1)))) := by
        have e : (fewT yL).take j = fewT yL := List.take_of_length_le (by rw [hln]; omega)
        rw [e] at hown
        exact hown
       have HRP : Hid (∀ p ∈ fewT yL, Rep w p.1 p.2) := fewT_rep (fun p hp => HYO.out.ns.2.1 p hp)
       have HBW := hide (HB.out.trans (hbel.mono HB.out.size))
       have hns : Ns wr at' j (fewT yL) := (sh_of_owns HT0.out).ns (fun p hp => (HRP.out p hp).below HBW.out)
       have hcap := cap_owns HT0.out
       have HCK := hide (refCheck18_any at' j ct (fewT yL) wr hns hcap.1 hcap.2.1 (fewT_names1 yL))
       have HLY : Hid (∀ W, Below wr.heap.size wr W → checkB (nds (fewT yL)) = 0 → LyW w W ⟨at', j, ct, fewT yL⟩) := fun W hW hz => ⟨own_up (owns_below HT0.out hW) HB.out.size, HRP.out, by rw [hln]; omega, fewT_names yL, hz⟩
       have HO1 := hide (owns_below HO.out hbel)
       have HY1 : Hid (∀ y ∈ QQ, LyW w wr y) := fun y hy => (HY.out y hy).below hbel
       obtain ⟨z, hz⟩ : ∃ z, z = checkB (nds (fewT yL)) := ⟨_, rfl⟩
       have HZ := hide hz
       rw [← hz] at HCK
       clear hown hbel hns hcap hz HOx
       by_cases hz0 : z = 0
       ·have hzb : (z == 0) = true := by simp [hz0]
        have HZ0 := hide hz0
        clear hz0
        go_wp2_with (first
         | (go_at_call 29; refine HCK.out.mono ?_; rintro e w3 ⟨rfl, hb3⟩; have HB3 := hide hb3; clear hb3)
         | (at_builtin; refine wpList_append_ly _ rfl _ _ rfl w.heap.size _ _ _ QQ rfl ((owns_below HO1.out HB3.out).alloc _) _ ⟨at', j, ct, fewT yL⟩ rfl (cell_new1 _ _ _) (by omega) (by have := HBW.out.size; have := HB3.out.size; simp; omega) ?_))
        rintro b4 c4 w4 ho4 hg4 _
        have HY4 : Hid (∀ y ∈ QQ ++ [(⟨at', j, ct, fewT yL⟩ : Ly)], LyW w w4 y) := fun y hy => by
         have hL3 : ∀ y ∈ QQ ++ [(⟨at', j, ct, fewT yL⟩ : Ly)], LyW w w3 y := fun y hy => by
          rcases List.mem_append.1 hy with hy | hy
          ·exact (HY1.out y hy).below HB3.out
          ·rw [List.mem_singleton.1 hy]
           exact HLY.out w3 HB3.out (by rw [← HZ.out, HZ0.out])
         exact ((hL3 y hy).below (below_one _ _)).grown ((owns_below HO1.out HB3.out).alloc _) hg4
        have HB4 : Hid (Below w.heap.size w w4) := by
         have h3 := HBW.out.trans (HB3.out.mono HBW.out.size)
         exact (h3.alloc h3.size _).grown hg4 (by have := h3.size; simp; omega) (fun k e => (HO1.out.lt k e).1)
        have HO4 := hide ho4
        have HL4 : Hid (lys (QQ ++ [(⟨at', j, ct, fewT yL⟩ : Ly)]) = fewI Q (i + 1)) := by
         show _ = _
         rw [lys_append, HL.out, HFS.out, if_pos (by rw [← HZ.out, HZ0.out])]
         rfl
        clear ho4 hg4
        go_wp2
        exact ⟨⟨i + 1, k + 1, _, c4, QQ ++ [(⟨at', j, ct, fewT yL⟩ : Ly)], by go_num, rfl, by omega, by omega, by omega, HO4.out, HY4.out, HL4.out, HB4.out⟩, by simp [intOf]; omega⟩
       ·have hzb : (z == 0) = false := by simp [hz0]
        have HZ0 := hide hz0
        clear hz0
        go_wp2_with (go_at_call 29; refine HCK.out.mono ?_; rintro e w3 ⟨rfl, hb3⟩; have HB3 := hide hb3; clear hb3)
        refine ⟨⟨i + 1, k, ao, co, QQ, by go_num, rfl, by omega, by omega, by omega, owns_below HO1.out HB3.out, fun y hy => (HY1.out y hy).below HB3.out, ?_, HBW.out.trans (HB3.out.mono HBW.out.size)⟩, by simp [intOf]; omega⟩
        rw [HL.out, HFS.out, if_neg (fun e => HZ0.out (HZ.out.trans e)), List.append_nil]
     ·have hdj : decide ((j : Int) < yn) = false := by simpa using hj
      have HT0 : Hid (wr.ownsRow wo.heap.size 44 10 (.slice at' j ct) j (nvs ((fewT yL).map (·.1)))) := by
       have e : (fewT yL).take j = fewT yL := List.take_of_length_le (by rw [hln]; omega)
       rw [e] at hown
       exact hown
      have HRP : Hid (∀ p ∈ fewT yL, Rep w p.1 p.2) := fewT_rep (fun p hp => HYO.out.ns.2.1 p hp)
      have HBW := hide (HB.out.trans (hbel.mono HB.out.size))
      have hns : Ns wr at' j (fewT yL) := (sh_of_owns HT0.out).ns (fun p hp => (HRP.out p hp).below HBW.out)
      have hcap := cap_owns HT0.out
      have HCK := hide (refCheck18_any at' j ct (fewT yL) wr hns hcap.1 hcap.2.1 (fewT_names1 yL))
      have HLY : Hid (∀ W, Below wr.heap.size wr W → checkB (nds (fewT yL)) = 0 → LyW w W ⟨at', j, ct, fewT yL⟩) := fun W hW hz => ⟨own_up (owns_below HT0.out hW) HB.out.size, HRP.out, by rw [hln]; omega, fewT_names yL, hz⟩
      have HO1 := hide (owns_below HO.out hbel)
      have HY1 : Hid (∀ y ∈ QQ, LyW w wr y) := fun y hy => (HY.out y hy).below hbel
      obtain ⟨z, hz⟩ : ∃ z, z = checkB (nds (fewT yL)) := ⟨_, rfl⟩
      have HZ := hide hz
      rw [← hz] at HCK
      clear hown hbel hns hcap hz HOx
      by_cases hz0 : z = 0
      ·have hzb : (z == 0) = true := by simp [hz0]
       have HZ0 := hide hz0
       clear hz0
       go_wp2_with (first
        | (go_at_call 29; refine HCK.out.mono ?_; rintro e w3 ⟨rfl, hb3⟩; have HB3 := hide hb3; clear hb3)
        | (at_builtin; refine wpList_append_ly _ rfl _ _ rfl w.heap.size _ _ _ QQ rfl ((owns_below HO1.out HB3.out).alloc _) _ ⟨at', j, ct, fewT yL⟩ rfl (cell_new1 _ _ _) (by omega) (by have := HBW.out.size; have := HB3.out.size; simp; omega) ?_))
       rintro b4 c4 w4 ho4 hg4 _
       have HY4 : Hid (∀ y ∈ QQ ++ [(⟨at', j, ct, fewT yL⟩ : Ly)], LyW w w4 y) := fun y hy => by
        have hL3 : ∀ y ∈ QQ ++ [(⟨at', j, ct, fewT yL⟩ : Ly)], LyW w w3 y := fun y hy => by
         rcases List.mem_append.1 hy with hy | hy
         ·exact (HY1.out y hy).below HB3.out
         ·rw [List.mem_singleton.1 hy]
          exact HLY.out w3 HB3.out (by rw [← HZ.out, HZ0.out])
        exact ((hL3 y hy).below (below_one _ _)).grown ((owns_below HO1.out HB3.out).alloc _) hg4
       have HB4 : Hid (Below w.heap.size w w4) := by
        have h3 := HBW.out.trans (HB3.out.mono HBW.out.size)
        exact (h3.alloc h3.size _).grown hg4 (by have := h3.size; simp; omega) (fun k e => (HO1.out.lt k e).1)
       have HO4 := hide ho4
       have HL4 : Hid (lys (QQ ++ [(⟨at', j, ct, fewT yL⟩ : Ly)]) = fewI Q (i + 1)) := by
        show _ = _
        rw [lys_append, HL.out, HFS.out, if_pos (by rw [← HZ.out, HZ0.out])]
        rfl
       clear ho4 hg4
       go_wp2
       exact ⟨⟨i + 1, k + 1, _, c4, QQ ++ [(⟨at', j, ct, fewT yL⟩ : Ly)], by go_num, rfl, by omega, by omega, by omega, HO4.out, HY4.out, HL4.out, HB4.out⟩, by simp [intOf]; omega⟩
      ·have hzb : (z == 0) = false := by simp [hz0]
       have HZ0 := hide hz0
       clear hz0
       go_wp2_with (go_at_call 29; refine HCK.out.mono ?_; rintro e w3 ⟨rfl, hb3⟩; have HB3 := hide hb3; clear hb3)
       refine ⟨⟨i + 1, k, ao, co, QQ, by go_num, rfl, by omega, by omega, by omega, owns_below HO1.out HB3.out, fun y hy => (HY1.out y hy).below HB3.out, ?_, HBW.out.trans (HB3.out.mono HBW.out.size)⟩, by simp [intOf]; omega⟩
       rw [HL.out, HFS.out, if_neg (fun e => HZ0.out (HZ.out.trans e)), List.append_nil]
   ·have hd2 : decide ((i : Int) < 5) = false := by simp; omega
    have HF := hide (HFIN.out (.inr (by omega)))
    go_wp2
    go_ret
    exact ⟨ao, k, co, QQ, rfl, by omega, HO.out, HY.out, by rw [HL.out, HF.out], HB.out⟩
  ·have hd : decide ((i : Int) < n) = false := by simpa using hi
   have HF := hide (HFIN.out (.inl (by omega)))
   go_wp2
   go_ret
   exact ⟨ao, k, co, QQ, rfl, by omega, HO.out, HY.out, by rw [HL.out, HF.out], HB.out⟩
end Go.Proofs.Ytoocipdhplaboaa
namespace Go.Proofs.Ytoocipdhplaboaa
open Go.RowKit Go.Maps
open Nam Tre Mrg Brn
structure FQ (w W : World) (ao : Option Addr) (k c' : Nat) (QQ : List Ly) : Prop where
 row : NsR W ao k QQ
 br : ∀ t ∈ lys QQ, Br t
 cnt : cntP QQ k ≤ 125
 k5 : k ≤ 5
 kc : k ≤ c'
 cm : c' ≤ 9223372036854775807
 bel : Below w.heap.size w W
theorem FQ.below {w W W' : World} {ao : Option Addr} {k c' : Nat} {QQ : List Ly} (h : FQ w W ao k c' QQ) (hb : Below W.heap.size W W') : FQ w W' ao k c' QQ :=
 ⟨h.row.below hb, h.br, h.cnt, h.k5, h.kc, h.cm, h.bel.trans (hb.mono h.bel.size)⟩
theorem cntP_bound (Q : List Ly) (hb : ∀ y ∈ Q, y.n ≤ 25) : ∀ i, cntP Q i ≤ 25 * i
 | 0 => Nat.le_refl _
 | i + 1 => by
  have ih := cntP_bound Q hb i
  have h2 : (gy Q i).n ≤ 25 := by
   by_cases h : i < Q.length
   ·rw [gy_lt Q i h]; exact hb _ (List.getElem_mem h)
   ·have : gy Q i = ly0 := by unfold gy; rw [List.getD_eq_getElem?_getD, List.getElem?_eq_none (by omega)]; rfl
    rw [this]; exact Nat.zero_le _
  rw [cntP]; omega
theorem nsr_of {w W : World} {ao : Option Addr} {k c' : Nat} {QQ : List Ly} (ho : W.ownsRow w.heap.size 25 1 (.slice ao k c') k (lvs QQ)) (hy : ∀ y ∈ QQ, LyW w W y) (hb : Below w.heap.size w W) : NsR W ao k QQ := by
 have hl : QQ.length = k := by have := ho.1; rw [lvs_length] at this; omega
 refine ⟨hl, fun y h => (hy y h).ok hb, ?_⟩
 by_cases e : k = 0
 ·exact .inl e
 ·obtain ⟨g, c2, hv, hg, hlt⟩ := ho.form (by omega)
  obtain ⟨rfl, _, rfl⟩ : ao = some ⟨g, 0, none⟩ ∧ k = k ∧ c' = c2 := by simpa using hv
  refine .inr ⟨g, 0, rfl, hlt, fun i hi => ?_⟩
  rw [Nat.zero_add, ho.cellAt i (by omega), gy_lt QQ i (by omega)]
  simp [lvs, show i < QQ.length by omega]
theorem fq_of {w W : World} {ao : Option Addr} {k c' : Nat} {QQ : List Ly} (hk : k ≤ 5) (ho : W.ownsRow w.heap.size 25 1 (.slice ao k c') k (lvs QQ)) (hy : ∀ y ∈ QQ, LyW w W y) (hb : Below w.heap.size w W) : FQ w W ao k c' QQ := by
 have hc := cap_owns ho
 refine ⟨nsr_of ho hy hb, fun t ht => ?_, ?_, hk, hc.1, hc.2.1, hb⟩
 ·simp only [lys, List.mem_map] at ht
  obtain ⟨y, h, rfl⟩ := ht
  exact br_of (hy y h).may
 ·have := cntP_bound QQ (fun y h => by
   have h1 := ((hy y h).ok hb).ns.1
   have h2 := (hy y h).len
   omega) k
  omega
theorem fewQ_any (a : Option Addr) (n c : Nat) (Q : List Ly) (w : World) (hq : NsR w a n Q) (hc : n ≤ c) (hcm : c ≤ 9223372036854775807) :
  Calls Try.prog 10 #[.slice a n c] w fun e w' => ∃ ao k c' QQ, e = .returned (.slice ao k c') ∧ FQ w w' ao k c' QQ ∧ lys QQ = fewI Q 5 ∧ (∀ y ∈ QQ, LyW w w' y) := by
 refine (few19_any a n c Q w hq hc hcm).mono ?_
 rintro e w' ⟨ao, k, c', QQ, rfl, h1, h2, h3, h4, h5⟩
 exact ⟨ao, k, c', QQ, rfl, fq_of h1 h2 h3 h5, h4, h3⟩
structure MQ (W : World) (ao : Option Addr) (k c' : Nat) (P : List (Nv × Nod)) (L : List (List Nod)) : Prop where
 ns : Ns W ao k P
 kc : k ≤ c'
 cm : c' ≤ 9223372036854775807
 k1 : k ≤ 1000
 mrg : IsMerge L (nds P)
theorem MQ.below {W W' : World} {ao : Option Addr} {k c' : Nat} {P : List (Nv × Nod)} {L : List (List Nod)} (h : MQ W ao k c' P L) (hb : Below W.heap.size W W') : MQ W' ao k c' P L := ⟨h.ns.below hb, h.kc, h.cm, h.k1, h.mrg⟩
theorem mergeQ_any (a : Option Addr) (n c : Nat) (Q : List Ly) (w : World) (hq : NsR w a n Q) (hn : n ≤ 1000) (ht : cntP Q n ≤ 1000) (hB : ∀ t ∈ lys Q, Br t) :
  Calls Try.prog 11 #[.slice a n c] w fun e w' => ∃ ao k c' P, e = .returned (.slice ao k c') ∧ MQ w' ao k c' P (lys Q) ∧ Below w.heap.size w w' := by
 refine (merge_any a n c Q w hq hn ht hB).mono ?_
 rintro e w' ⟨ao, k, c', P, rfl, h1, h2, h3, h4, h5⟩
 have hc := cap_owns h1
 exact ⟨ao, k, c', P, rfl, ⟨h2, hc.1, hc.2.1, h3, h4⟩, h5⟩
theorem MQ.names {W : World} {ao : Option Addr} {k c' : Nat} {P : List (Nv × Nod)} {L : List (List Nod)} (h : MQ W ao k c' P L) (hB : ∀ t ∈ L, Br t) : ∀ p ∈ P, p.2.names.length ≤ 16 := fun p hp => by
 obtain ⟨f, _, hperm⟩ := told h.mrg
 have hm : p.2 ∈ nds P := List.mem_map_of_mem hp
 obtain ⟨x, hx, e⟩ := List.mem_map.1 (hperm.mem_iff.1 hm)
 obtain ⟨⟨t, t1, t2⟩, _⟩ := mem_iff.1 hx
 have := (hB t (List.mem_of_getElem? t1)).deep _ t2
 unfold deep at this
 rw [← e]
 simpa [cl] using this
theorem MQ.names1 {W : World} {ao : Option Addr} {k c' : Nat} {P : List (Nv × Nod)} {L : List (List Nod)} (h : MQ W ao k c' P L) (hB : ∀ t ∈ L, Br t) : ∀ p ∈ P, p.2.names.length ≤ 1000000 := fun p hp => by have := h.names hB p hp; omega
end Go.Proofs.Ytoocipdhplaboaa
namespace Go.Proofs.Ytoocipdhplaboaa
set_option maxRecDepth 100000
open Go.RowKit Go.Maps
open Nam Tre Mrg Brn
namespace Mrg
def rootN (n : Nod) : Nod := if n.names = [] then { n with opq := true } else n
theorem rootN_names (n : Nod) : (rootN n).names = n.names := by unfold rootN; split <;> rfl
theorem rootN_kind (n : Nod) : (rootN n).kind = n.kind := by unfold rootN; split <;> rfl
theorem rootN_ino (n : Nod) : (rootN n).ino = n.ino := by unfold rootN; split <;> rfl
theorem root_kind {t : List Nod} (h : Br t) {n : Nod} (hn : n ∈ t) (e : n.names = []) : n.kind = 1 := by
 obtain ⟨r, r1, r2, r3⟩ := h.root
 rw [names_inj h.nodup n hn r r1 (e.trans r2.symm)]
 exact r3
theorem br_rootN {t : List Nod} (h : Br t) : Br (t.map rootN) := by
 have hm : ∀ n ∈ t.map rootN, ∃ m ∈ t, n = rootN m := fun n hn => by
  obtain ⟨m, h1, rfl⟩ := List.mem_map.1 hn
  exact ⟨m, h1, rfl⟩
 refine ⟨by rw [List.length_map]; exact h.len, fun n hn => ?_, fun n hn => ?_, ?_, ?_, fun n hn hne => ?_, fun n hn => ?_, ?_⟩
 ·obtain ⟨m, h1, rfl⟩ := hm n hn
  rw [rootN_names]; exact h.wrong m h1
 ·obtain ⟨m, h1, rfl⟩ := hm n hn
  have := h.deep m h1
  unfold deep at this ⊢
  rw [rootN_names]; exact this
 ·have e : (t.map rootN).map Nod.names = t.map Nod.names := by
   rw [List.map_map]
   exact List.map_congr_left fun n _ => rootN_names n
  rw [e]; exact h.nodup
 ·obtain ⟨r, r1, r2, r3⟩ := h.root
  exact ⟨rootN r, List.mem_map_of_mem r1, by rw [rootN_names]; exact r2, by rw [rootN_kind]; exact r3⟩
 ·obtain ⟨m, h1, rfl⟩ := hm n hn
  rw [rootN_names] at hne ⊢
  obtain ⟨p, p1, p2, p3⟩ := h.dirs m h1 hne
  exact ⟨rootN p, List.mem_map_of_mem p1, by rw [rootN_names]; exact p2, by rw [rootN_kind]; exact p3⟩
 ·obtain ⟨m, h1, rfl⟩ := hm n hn
  have hb := h.may m h1
  unfold rootN
  split
  ·rename_i e
   have hk := root_kind h h1 e
   unfold mayB at hb ⊢
   rw [if_neg (by rw [hk]; decide), if_pos hk] at hb
   rw [if_neg (by show ¬ m.kind = 4; rw [hk]; decide), if_pos (show m.kind = 1 from hk)]
   exact hb
  ·exact hb
 ·rw [List.pairwise_map]
  refine h.one.imp_of_mem fun {a b} ha hb q e => ?_
  rw [rootN_ino, rootN_ino] at e
  obtain ⟨q1, q2⟩ := q e
  have hk := ((alike_iff a b).1 q2).1
  have ea : rootN a = a := by
   unfold rootN
   rw [if_neg (fun e => q1.1 (hk ▸ root_kind h ha e))]
  have eb : rootN b = b := by
   unfold rootN
   rw [if_neg (fun e => q1.1 (root_kind h hb e))]
  rw [ea, eb]
  exact ⟨q1, q2⟩
theorem root_hides {t : List Nod} (h : Br t) (L : List (List Nod)) : mrs (t.map rootN :: L) = mrs [t.map rootN] := by
 obtain ⟨r, r1, r2, r3⟩ := h.root
 have hb := br_rootN h
 have hr : rootN r ∈ t.map rootN := List.mem_map_of_mem r1
 have hf := fnd_mem hb.nodup hr
 rw [rootN_names, r2] at hf
 refine hidden L hf ?_
 unfold rootN; rw [if_pos r2]
end Mrg
def rootP (p : Nv × Nod) : Nv × Nod := if p.2.names = [] then ({ p.1 with op := true }, { p.2 with opq := true }) else p
theorem rootP_snd (p : Nv × Nod) : (rootP p).2 = rootN p.2 := by unfold rootP rootN; split <;> rfl
theorem nds_rootP (L : List (Nv × Nod)) : nds (L.map rootP) = (nds L).map rootN := by
 unfold nds
 rw [List.map_map, List.map_map]
 exact List.map_congr_left fun p _ => rootP_snd p
theorem rep_rootP {w : World} {p : Nv × Nod} (h : Rep w p.1 p.2) : Rep w (rootP p).1 (rootP p).2 := by
 unfold rootP
 split
 ·exact { h with op := rfl }
 ·exact h
theorem nvs_set9 (V : List Nv) (i : Nat) (b : Bool) (h : i < V.length) : (nvs V).set (i * 10 + 9) (.bool b) = nvs (V.set i { V[i] with op := b }) := by
 induction V generalizing i with
 | nil => simp at h
 | cons v r ih =>
  have e : ∀ y l, nvs (y :: l) = y.cells.toList ++ nvs l := by simp [nvs]
  cases i with
  | zero => rw [e, List.set_cons_zero, e]; rfl
  | succ i =>
   rw [e, List.set_cons_succ, e, List.set_append_right _ _ (by rw [cells_length]; omega), cells_length, show (i + 1) * 10 + 9 - 10 = i * 10 + 9 by omega, ih i (by simpa using h)]
   rfl
theorem wpList_append_lys (w : World) {ops : Array Oper} {rest : List Oper} {o : Oper} {a : Act} {Q : Exit → Act → World → Prop} (hgd : o.guard = none) (s x : Operand)
  (ho : o.op = .call { callee := .builtin .append, args := #[s, x], argTypes := #[22, 22] })
  (base : Nat) (vo : Option Addr) (n vc : Nat) (L : List Ly) (hs : a.eval s = .slice vo n vc) (hown : w.ownsRow base 25 1 (.slice vo n vc) n (lvs L))
  (b off m c : Nat) (U : List Ly) (hx : a.eval x = .slice (some ⟨b, off, none⟩) m c) (hb : NsR w (some ⟨b, off, none⟩) m U)
  (hbd : n + m ≤ 1000000) (hbase : base ≤ w.heap.size)
  (h : ∀ ao' c' w', w'.ownsRow base 25 1 (.slice ao' (n + m) c') (n + m) (lvs (L ++ U)) → w.grownBy w' (Value.slice vo n vc).ownBlock → wpList Try.prog ops Q rest (a.put o.dst (.slice ao' (n + m) c')) w') :
  wpList Try.prog ops Q (o :: rest) a w := by
 obtain ⟨i0, hi, hz0, hz1, hz2⟩ := info_parts infoNds
 refine wpList_append_own w hgd s x _ ho base 25 i0 (.slice none 0 0) 1 24 Try.underlying22 hi hz0 hz1 hz2 rfl (by decide) _ n (lvs L) hs hown ⟨b, off, none⟩ m c (lvs U) hx (by rw [lvs_length, hb.1]; omega) ?_ (by intro u hu; simp only [lvs, List.mem_map] at hu; obtain ⟨y, _, rfl⟩ := hu; rfl) (by unfold maxLen; omega) (by omega) hbase ?_
 ·intro j u hu
  have hj : j < U.length := by have := (List.getElem?_eq_some_iff.1 hu).1; rw [lvs_length] at this; exact this
  rcases hb.2.2 with h0 | ⟨b', off', h1, _, h3⟩
  ·have := hb.1; omega
  ·injection h1 with h1
   injection h1 with e1 e2
   subst e1; subst e2
   rw [Addr.add_lit]
   have := h3 j (by rw [← hb.1]; exact hj)
   rw [gy_lt U j hj] at this
   rw [this]
   simp [lvs, hj] at hu
   rw [← hu]
 ·intro v' w' h2 h3 _
  obtain ⟨ao', c', rfl⟩ := owns_shape h2
  exact h ao' c' w' (by rw [lvs_append]; exact h2) h3
theorem nsr_lvs {W : World} {B : Nat} {ao : Option Addr} {k c' : Nat} {QQ : List Ly} (ho : W.ownsRow B 25 1 (.slice ao k c') k (lvs QQ)) (hy : ∀ y ∈ QQ, y.Ok W) : NsR W ao k QQ := by
 have hl : QQ.length = k := by have := ho.1; rw [lvs_length] at this; omega
 refine ⟨hl, hy, ?_⟩
 by_cases e : k = 0
 ·exact .inl e
 ·obtain ⟨g, c2, hv, hg, hlt⟩ := ho.form (by omega)
  obtain ⟨rfl, _, rfl⟩ : ao = some ⟨g, 0, none⟩ ∧ k = k ∧ c' = c2 := by simpa using hv
  refine .inr ⟨g, 0, rfl, hlt, fun i hi => ?_⟩
  rw [Nat.zero_add, ho.cellAt i (by omega), gy_lt QQ i (by omega)]
  simp [lvs, show i < QQ.length by omega]
def rowI (L : List (Nv × Nod)) (i : Nat) : List (Nv × Nod) := (L.take i).map rootP ++ L.drop i
theorem rowI_len (L : List (Nv × Nod)) (i : Nat) : (rowI L i).length = L.length := by unfold rowI; simp; omega
theorem rowI_end (L : List (Nv × Nod)) : rowI L L.length = L.map rootP := by unfold rowI; simp
theorem rowI_zero (L : List (Nv × Nod)) : rowI L 0 = L := by unfold rowI; simp
theorem rowI_at (L : List (Nv × Nod)) (i : Nat) (h : i < L.length) : (rowI L i)[i]'(by rw [rowI_len]; exact h) = L[i] := by
 unfold rowI
 rw [List.getElem_append_right (by simp; omega)]
 simp [Nat.min_eq_left (Nat.le_of_lt h)]
theorem rowI_succ (L : List (Nv × Nod)) (i : Nat) (h : i < L.length) : rowI L (i + 1) = (rowI L i).set i (rootP L[i]) := by
 have hl : ((L.take i).map rootP).length = i := by rw [List.length_map, List.length_take]; omega
 have e : (L.drop i).set (i - ((L.take i).map rootP).length) (rootP L[i]) = rootP L[i] :: L.drop (i + 1) := by
  rw [hl, Nat.sub_self, List.drop_eq_getElem_cons h]; rfl
 unfold rowI
 rw [List.set_append_right _ _ (by omega), e, List.take_succ_eq_append_getElem h, List.map_append, List.append_assoc]
 rfl
theorem rootP_no {p : Nv × Nod} (h : p.2.names ≠ []) : rootP p = p := by unfold rootP; rw [if_neg h]
theorem rootP_yes {p : Nv × Nod} (h : p.2.names = []) : (rootP p).1 = { p.1 with op := true } := by unfold rootP; rw [if_pos h]
theorem rowI_no (L : List (Nv × Nod)) (i : Nat) (h : i < L.length) (hn : L[i].2.names ≠ []) : rowI L (i + 1) = rowI L i := by
 rw [rowI_succ L i h, rootP_no hn, ← rowI_at L i h, List.set_getElem_self]
theorem rowI_yes (L : List (Nv × Nod)) (i : Nat) (h : i < L.length) (hn : L[i].2.names = []) : nvs ((rowI L (i + 1)).map (·.1)) = (nvs ((rowI L i).map (·.1))).set (i * 10 + 9) (.bool true) := by
 rw [nvs_set9 _ i true (by rw [List.length_map, rowI_len]; exact h)]
 congr 1
 rw [rowI_succ L i h, List.map_set, rootP_yes hn]
 congr 1
 rw [List.getElem_map, rowI_at L i h]
theorem rep_rowI {w : World} {L : List (Nv × Nod)} (h : ∀ p ∈ L, Rep w p.1 p.2) : ∀ p ∈ L.map rootP, Rep w p.1 p.2 := by
 intro p hp
 obtain ⟨q, hq, rfl⟩ := List.mem_map.1 hp
 exact rep_rootP (h q hq)
theorem br_single {t : List Nod} (h : Br t) {n : Nod} (hn : n ∈ t) (e : n.names = []) : Br [nopN n] := by
 have hk := root_kind h hn e
 refine ⟨by simp, fun m hm => ?_, fun m hm => ?_, by simp, ⟨nopN n, by simp, e, hk⟩, fun m hm hne => ?_, fun m hm => ?_, List.pairwise_singleton _ _⟩
 ·rw [List.mem_singleton.1 hm]; exact h.wrong n hn
 ·rw [List.mem_singleton.1 hm]; exact h.deep n hn
 ·rw [List.mem_singleton.1 hm] at hne; exact absurd e hne
 ·rw [List.mem_singleton.1 hm]
  have hb := h.may n hn
  unfold mayB at hb ⊢
  rw [if_neg (by rw [hk]; decide), if_pos hk] at hb
  rw [if_neg (by show ¬ n.kind = 4; rw [hk]; decide), if_pos (show (nopN n).kind = 1 from hk)]
  exact hb
theorem ns_one {W : World} {b : Nat} {v : Nv} {x : Nod} (h : Bk W b v) (r : Rep W v x) : Ns W (some ⟨b, 0, none⟩) 1 [(v, x)] := by
 refine ⟨rfl, fun p hp => ?_, .inr ⟨b, 0, rfl, heap_lt h, fun i hi => ?_⟩⟩
 ·rw [List.mem_singleton.1 hp]; exact r
 ·have e : i = 0 := by omega
  subst e
  have hb := h.box
  exact ⟨hb.c0, hb.c1, hb.c2, hb.c3, hb.c4, hb.c5, hb.c6, hb.c7, hb.c8, hb.c9⟩
theorem root_at {L : List (Nv × Nod)} (h : Br (nds L)) : ∃ kr, ∃ hk : kr < L.length, fi (nmd []) 0 (nds L) = ((kr : Nat) : Int) ∧ L[kr].2.names = [] := by
 rcases fi_spec (nmd []) (nds L) 0 with ⟨_, h2⟩ | ⟨j, h1, hj, h3⟩
 ·obtain ⟨r, r1, r2, _⟩ := h.root
  have := List.find?_eq_none.1 h2 r r1
  simp [nmd, r2] at this
 ·have hjl : j < L.length := by rw [nds_length] at hj; exact hj
  refine ⟨j, hjl, by rw [h1, Nat.zero_add], ?_⟩
  have := List.find?_some h3
  simp only [nmd, decide_eq_true_eq] at this
  simpa [nds] using this
end Go.Proofs.Ytoocipdhplaboaa
namespace Go.Proofs.Ytoocipdhplaboaa
open Go.RowKit Go.Maps
open Nam Tre Mrg Brn
theorem NsR.drop1 {W : World} {b off k : Nat} {QQ : List Ly} (h : NsR W (some ⟨b, off, none⟩) k QQ) (hk : 0 < k) : NsR W (some ⟨b, off + 1, none⟩) (k - 1) (QQ.drop 1) := by
 refine ⟨by rw [List.length_drop, h.1], fun y hy => h.2.1 y (List.mem_of_mem_drop hy), ?_⟩
 rcases h.2.2 with h0 | ⟨b', off', h1, h2, h3⟩
 ·omega
 ·injection h1 with h1
  injection h1 with e1 e2
  subst e1; subst e2
  refine .inr ⟨b, off + 1, rfl, h2, fun i hi => ?_⟩
  have := h3 (i + 1) (by omega)
  have e : gy (QQ.drop 1) i = gy QQ (i + 1) := by unfold gy; rw [List.getD_eq_getElem?_getD, List.getD_eq_getElem?_getD, List.getElem?_drop, Nat.add_comm]
  rw [e, show off + 1 + i = off + (i + 1) by omega]
  exact this
theorem lys_head {QQ : List Ly} (h : 0 < QQ.length) : lys QQ = nds (gy QQ 0).L :: lys (QQ.drop 1) := by
 cases QQ with
 | nil => simp at h
 | cons y r => simp [lys, gy]
end Go.Proofs.Ytoocipdhplaboaa
namespace Go.Proofs.Ytoocipdhplaboaa
set_option maxRecDepth 100000
open Go.RowKit Go.Maps
open Nam Tre Mrg Brn
set_option maxHeartbeats 8000000 in
theorem mhide_walk (a : Option Addr) (n c : Nat) (Q : List Ly) (w : World) (hq : NsR w a n Q) (hc : n ≤ c) (hcm : c ≤ 9223372036854775807) :
  Calls Try.prog 6 #[.slice a n c] w fun e w' => e = .returned (.bool true) ∧ Below w.heap.size w w' := by
 have HQ := hide hq
 clear hq
 go_enter Try.func6, Try.ntmps6
 go_wp2_with (go_at_call 9; refine (shown_any _).mono ?_)
 rintro e w1 ⟨rfl, hb1⟩
 have E1 := hide hb1
 clear hb1
 go_wp2_with (go_at_call 10; refine (fewQ_any a n c Q _ (HQ.out.below E1.out) hc hcm).mono ?_)
 rintro e w2 ⟨ao, k, c', QQ, rfl, hf, _, hy⟩
 have HF := hide hf
 have hk5 := hf.k5
 have hkc := hf.kc
 have hcm' := hf.cm
 have H25 : Hid (∀ y ∈ QQ, y.n ≤ 25) := fun y h => by
  have h1 := ((hy y h).ok hf.bel).ns.1
  have h2 := (hy y h).len
  omega
 have E2 := hide (E1.out.trans (hf.bel.mono E1.out.size))
 clear hf hy
 by_cases hk : k = 0
 ·subst hk
  go_wp2
  go_ret
  exact ⟨rfl, E2.out⟩
 ·have hkb : ((k : Int) == 0) = false := by simp; omega
  have hQl : QQ.length = k := HF.out.row.1
  obtain ⟨b, off, rfl, hbl, hcs⟩ := HF.out.row.at (by omega)
  have cr := hcs 0 (by omega)
  rw [Nat.add_zero] at cr
  obtain ⟨y, hy⟩ : ∃ y, y = gy QQ 0 := ⟨_, rfl⟩
  have HHD : Hid (lys QQ = nds y.L :: lys (QQ.drop 1)) := by rw [hy]; exact lys_head (by omega)
  have hyO : y.Ok w2 := by rw [hy]; exact HF.out.row.ok 0 (by omega)
  have hy25 : y.n ≤ 25 := by rw [hy, gy_lt QQ 0 (by omega)]; exact H25.out _ (List.getElem_mem _)
  rw [← hy] at cr
  have HYO := hide hyO
  have HBY : Hid (Br (nds y.L)) := HF.out.br (nds y.L) (by rw [HHD.out]; simp)
  have HBD : Hid (∀ t ∈ lys (QQ.drop 1), Br t) := fun t ht => HF.out.br t (by rw [HHD.out]; exact List.mem_cons_of_mem _ ht)
  clear hbl hcs hy hyO hQl
  obtain ⟨ya, yn, yc, yL⟩ := y
  simp only at cr hy25
  have HYN : Hid (Ns w2 ya yn yL) := HYO.out.ns
  have hyl : yL.length = yn := HYN.out.1
  have HYL := hide hyl
  have HCR : Hid (∀ W, Below w2.heap.size w2 W → W.cell? ⟨b, off, none⟩ = some (.slice ya yn yc)) := fun W hW => (hW.cell (World.block_lt_of_cell? w2 _ cr)).trans cr
  have hyp : 0 < yn := by
   obtain ⟨r, r1, _, _⟩ := HBY.out.root
   have : (nds yL).length ≠ 0 := fun e => by rw [List.eq_nil_of_length_eq_zero e] at r1; simp at r1
   rw [nds_length] at this
   omega
  obtain ⟨yb, yo, rfl, hyb, hyc⟩ := HYN.out.at hyp
  have hi0 : (0 : Int) < k := by omega
  have hk0 : 0 < k := by omega
  clear hyl hyc hyb
  have HSH : Hid (∀ W, Below w2.heap.size w2 W → Sh W (some ⟨yb, yo, none⟩) yn (yL.map (·.1))) := fun W hW => (HYN.out.below hW).sh
  have cr1 := HCR.out _ (below_one w2 (.cells #[] 44))
  go_wp2_with (at_builtin; refine wpList_append_nod _ rfl _ _ rfl w2.heap.size _ _ _ [] rfl (emptyN (Nat.le_refl _)) _ _ _ (yL.map (·.1)) rfl (HSH.out _ (below_one _ _)) (fun h => by cases h) (by omega) (by simp) ?_)
  intro af cf w3 hown hg
  have hb3 : Below w2.heap.size w2 w3 := (below_one w2 _).grown hg (by simp) (fun k e => by simp [Value.ownBlock] at e; omega)
  have hown : w3.ownsRow w2.heap.size 44 10 (.slice af yn cf) yn (nvs (yL.map (·.1))) := by simpa using hown
  obtain ⟨g, cf2, hv, hg0, hgl⟩ := hown.form (by omega)
  obtain ⟨rfl, _, rfl⟩ : af = some ⟨g, 0, none⟩ ∧ yn = yn ∧ cf = cf2 := by simpa using hv
  have HO0 : Hid (w3.ownsRow w2.heap.size 44 10 (.slice (some ⟨g, 0, none⟩) yn cf) yn (nvs ((rowI yL 0).map (·.1)))) := by
   show World.ownsRow _ _ _ _ _ _ _
   rw [rowI_zero]; exact hown
  have HB3 := hide hb3
  clear hown hg hb3 hv cr1 hgl
  go_wp2_with fail
  go_loopw [5] (fun r5 wr => ∃ i : Nat, r5 = .int .i64 i ∧ i ≤ yn ∧ wr.ownsRow w2.heap.size 44 10 (.slice (some ⟨g, 0, none⟩) yn cf) yn (nvs ((rowI yL i).map (·.1))) ∧ Below w2.heap.size w2 wr) (fun r5 _ => yn - (intOf r5).toNat)
  case atStart => exact ⟨0, rfl, Nat.zero_le _, HO0.out, HB3.out⟩
  case round =>
   obtain ⟨i, rfl, hi0', hown, hbel⟩ := hrel
   have HOx := hide hown
   have HBx := hide hbel
   by_cases hi : i < yn
   ·have hd : decide ((i : Int) < yn) = true := by simpa using hi
    have hi1 : (i : Int) < yn := by omega
    have hiL : i < yL.length := by rw [HYL.out]; exact hi
    have hat : ((rowI yL i).map (·.1))[i]'(by rw [List.length_map, rowI_len]; exact hiL) = yL[i].1 := by rw [List.getElem_map, rowI_at yL i hiL]
    have c0 : wr.cell? ⟨g, i * 10, none⟩ = some (.slice yL[i].1.na yL[i].1.nn yL[i].1.nc) := by
     have h1 := hown.cellAt (i * 10 + 0) (by omega)
     have h2 := nvs_get ((rowI yL i).map (·.1)) i 0 (by rw [List.length_map, rowI_len]; exact hiL) (by omega)
     rw [h2, hat] at h1
     exact h1
    have c9 : wr.cell? ⟨g, i * 10 + 9, none⟩ = some (.bool yL[i].1.op) := by
     have h1 := hown.cellAt (i * 10 + 9) (by omega)
     have h2 := nvs_get ((rowI yL i).map (·.1)) i 9 (by rw [List.length_map, rowI_len]; exact hiL) (by omega)
     rw [h2, hat] at h1
     exact h1
    have f9 : wr.frozen? ⟨g, i * 10 + 9, none⟩ = false := hown.frozenAt _
    have hnm : yL[i].2.names.length = yL[i].1.nn := (HYN.out.2.1 yL[i] (List.getElem_mem hiL)).names.1
    have HNO : Hid (yL[i].1.nn ≠ 0 → wr.ownsRow w2.heap.size 44 10 (.slice (some ⟨g, 0, none⟩) yn cf) yn (nvs ((rowI yL (i + 1)).map (·.1)))) := fun h => by
     rw [rowI_no yL i hiL (fun e => h (by rw [← hnm, e]; rfl))]; exact hown
    have HYS : Hid (yL[i].1.nn = 0 → (wr.setCell ⟨g, i * 10 + 9, none⟩ (.bool true)).ownsRow w2.heap.size 44 10 (.slice (some ⟨g, 0, none⟩) yn cf) yn (nvs ((rowI yL (i + 1)).map (·.1)))) := fun h => by
     rw [rowI_yes yL i hiL (List.eq_nil_of_length_eq_zero (by rw [hnm, h]))]
     exact (hown.stored (i * 10 + 9) (.bool true)).1
    generalize yL[i].1.na = na at *
    generalize yL[i].1.nn = nn at *
    generalize yL[i].1.nc = nc at *
    generalize yL[i].1.op = op at *
    clear hown hbel hat hnm
    by_cases hn0 : nn = 0
    ·subst hn0
     have HY2 := hide (HYS.out rfl)
     clear HYS HNO
     go_wp2
     exact ⟨⟨i + 1, by go_num, by omega, HY2.out, HBx.out.setCell (by exact hg0) _⟩, by simp [intOf]; omega⟩
    ·have hnb : ((nn : Int) == 0) = false := by simp; omega
     have HY2 := hide (HNO.out hn0)
     clear HYS HNO
     go_wp2
     exact ⟨⟨i + 1, by go_num, by omega, HY2.out, HBx.out⟩, by simp [intOf]; omega⟩
   ·have hd : decide ((i : Int) < yn) = false := by simpa using hi
    have hin : i = yn := by omega
    obtain ⟨v1, rfl⟩ : ∃ x, x = wr := ⟨wr, rfl⟩
    have HO1 : Hid (v1.ownsRow w2.heap.size 44 10 (.slice (some ⟨g, 0, none⟩) yn cf) yn (nvs ((yL.map rootP).map (·.1)))) := by
     show World.ownsRow _ _ _ _ _ _ _
     have h := hown
     rw [hin] at h
     rw [← rowI_end, HYL.out]; exact h
    have HB1 := hide hbel
    have hcap := cap_owns HO1.out
    have HFO : Hid ((⟨some ⟨g, 0, none⟩, yn, cf, yL.map rootP⟩ : Ly).Ok v1) :=
     ⟨(sh_of_owns HO1.out).ns (rep_rowI (HYN.out.below hbel).2.1), hcap.1, hcap.2.1⟩
    obtain ⟨TL, hTL⟩ : ∃ TL, TL = QQ.drop 1 := ⟨_, rfl⟩
    have HTL := hide hTL
    rw [← hTL] at HBD HHD
    have HFQ1 := hide (HF.out.below hbel)
    have hdr := HFQ1.out.row.drop1 (by omega)
    rw [← hTL] at hdr
    have HDR := hide hdr
    have hdl : TL.length = k - 1 := by rw [hTL, List.length_drop]; have := HF.out.row.1; omega
    have HALL : Hid (∀ W, Below v1.heap.size v1 W → ∀ y ∈ (⟨some ⟨g, 0, none⟩, yn, cf, yL.map rootP⟩ : Ly) :: TL, y.Ok W) := fun W hW y hy => by
     rcases List.mem_cons.1 hy with rfl | hy
     ·exact HFO.out.below hW
     ·exact (HDR.out.2.1 y hy).below hW
    clear hown hbel hcap hin HOx HBx hdr hTL
    have hk1 : 1 ≤ k := by omega
    have hi5 : (1 : Int) ≤ k := by omega
    have hi6 : (1 : Int) ≤ c' := by omega
    go_upto_region 11 with fail
    go_cut [6] from 47 (fun s6 wx => ∃ a6 c6, s6 = .slice a6 k c6 ∧ wx.ownsRow v1.heap.size 25 1 (.slice a6 k c6) k (lvs ((⟨some ⟨g, 0, none⟩, yn, cf, yL.map rootP⟩ : Ly) :: TL)) ∧ Below v1.heap.size v1 wx)
    case first =>
     have HE0 := hide (show (v1.alloc (.cells #[.slice (some ⟨g, 0, none⟩) yn cf] 25)).ownsRow v1.heap.size 25 1 (.slice (some ⟨v1.heap.size, 0, none⟩) 1 1) 1 (lvs [(⟨some ⟨g, 0, none⟩, yn, cf, yL.map rootP⟩ : Ly)]) from
      ⟨rfl, .inr ⟨v1.heap.size, 1, _, rfl, Nat.le_refl _, heap_alloc_new v1 _, Nat.le_refl _, by unfold maxLen; omega, rfl, rfl⟩⟩)
     by_cases hc1 : c' = 1
     ·have hkk : k = 1 := by omega
      have HNL : Hid (∀ W, NsR W (some ⟨b, off, none⟩) (k - 1) (TL)) := fun W => by
       have e : TL = [] := List.eq_nil_of_length_eq_zero (by omega)
       rw [e, hkk]; exact NsR.nil _ _
      have HKK := hide hkk
      clear hkk
      go_wp2_with (at_builtin; refine wpList_append_lys _ rfl _ _ rfl v1.heap.size _ _ _ [(⟨some ⟨g, 0, none⟩, yn, cf, yL.map rootP⟩ : Ly)] rfl HE0.out _ _ _ _ (TL) rfl (HNL.out _) (by omega) (by simp) ?_)
      intro a6 c6 w6 ho6 hg6
      have HB6 := hide ((below_one v1 _).grown hg6 (by simp) (fun k e => by simp [Value.ownBlock] at e; omega))
      have HO6 := hide ho6
      clear ho6 hg6
      go_wp2_with fail
      subst hc1
      go_meet
      exact ⟨_, _, rfl, HO6.out, HB6.out⟩
     ·go_wp2_with (at_builtin; refine wpList_append_lys _ rfl _ _ rfl v1.heap.size _ _ _ [(⟨some ⟨g, 0, none⟩, yn, cf, yL.map rootP⟩ : Ly)] rfl HE0.out _ _ _ _ TL rfl (HDR.out.below (below_one _ _)) (by omega) (by simp) ?_)
      intro a6 c6 w6 ho6 hg6
      have HB6 := hide ((below_one v1 _).grown hg6 (by simp) (fun k e => by simp [Value.ownBlock] at e; omega))
      have HO6 := hide ho6
      clear ho6 hg6
      go_wp2_with fail
      go_meet
      exact ⟨_, _, rfl, HO6.out, HB6.out⟩
    case rest =>
     obtain ⟨a6, c6, rfl, ho6, hb6⟩ := hcut
     obtain ⟨v6, rfl⟩ : ∃ x, x = wc := ⟨wc, rfl⟩
     have HO6 := hide ho6
     have HB6 := hide hb6
     have HR6 := hide (nsr_lvs ho6 (HALL.out v6 hb6))
     have hc6 := cap_owns ho6
     have HBA : Hid (∀ t ∈ lys ((⟨some ⟨g, 0, none⟩, yn, cf, yL.map rootP⟩ : Ly) :: TL), Br t) := fun t ht => by
      rcases List.mem_cons.1 ht with rfl | ht
      ·show Br (nds (yL.map rootP))
       rw [nds_rootP]; exact br_rootN HBY.out
      ·exact HBD.out t ht
     have hcA := cntP_bound ((⟨some ⟨g, 0, none⟩, yn, cf, yL.map rootP⟩ : Ly) :: TL) (fun z hz => by
      rcases List.mem_cons.1 hz with rfl | hz
      ·exact hy25
      ·exact H25.out z (List.mem_of_mem_drop (by rw [← HTL.out]; exact hz))) k
     have HW6 := hide (HB1.out.trans (HB6.out.mono HB1.out.size))
     have hc61 : (1 : Int) ≤ c6 := by have := hc6.1; omega
     clear ho6 hb6
     go_wp2_with (go_at_call 11; refine (mergeQ_any a6 k c6 _ v6 HR6.out (by omega) (by omega) HBA.out).mono ?_)
     rintro e v7 ⟨am, km, cm, PA, rfl, hmA, hb7⟩
     have HMA := hide hmA
     have HB7 := hide hb7
     have HR1 : Hid (NsR v7 a6 1 [(⟨some ⟨g, 0, none⟩, yn, cf, yL.map rootP⟩ : Ly)]) := by
      have h := HR6.out.below hb7
      refine ⟨rfl, fun z hz => h.2.1 z (by rw [List.mem_singleton.1 hz]; simp), .inr ?_⟩
      rcases h.2.2 with h0 | ⟨b', off', h1, h2, h3⟩
      ·omega
      ·exact ⟨b', off', h1, h2, fun j hj => by
        have := h3 j (by omega)
        have e : j = 0 := by omega
        subst e; exact this⟩
     have HBF : Hid (∀ t ∈ lys [(⟨some ⟨g, 0, none⟩, yn, cf, yL.map rootP⟩ : Ly)], Br t) := fun t ht => HBA.out t (by
      rw [List.mem_singleton.1 ht]; exact List.mem_cons_self)
     clear hmA hb7
     go_wp2_with (go_at_call 11; refine (mergeQ_any a6 1 c6 _ v7 HR1.out (by omega) (by simp [cntP, gy]; omega) HBF.out).mono ?_)
     rintro e v8 ⟨an, kn, cn, PB, rfl, hmB, hb8⟩
     have HMB := hide hmB
     have HB8 := hide (HB7.out.trans (hb8.mono HB7.out.size))
     have hE : nds PB = nds PA := by
      have h1 := HMA.out.mrg
      have h2 := hmB.mrg
      refine merge_same (fun t ht => (HBF.out t ht).nodup) ?_ h2 h1
      show mrs (nds (yL.map rootP) :: lys TL) = mrs [nds (yL.map rootP)]
      rw [nds_rootP]
      exact root_hides HBY.out _
     have HS := hide (refSame7_any am an km cm kn cn PA PB v8 (HMA.out.below hb8).ns hmB.ns (HMA.out.names1 HBA.out) (hmB.names1 HBF.out) (by have := HMA.out.k1; omega) true ⟨fun _ => hE.symm, fun _ => rfl⟩)
     clear hmB hb8 hE
     go_wp2_with (go_at_call 13; refine HS.out.mono ?_; rintro e v9 ⟨rfl, hb9⟩; have HB9 := hide (HW6.out.trans ((HB8.out.trans (hb9.mono HB8.out.size)).mono HW6.out.size)); have cr9 := HCR.out _ HB9.out; clear hb9)
     obtain ⟨kr, hkr, hfi, hnr⟩ := root_at HBY.out
     have hkr' : kr < yn := by rw [← HYL.out]; exact hkr
     have HFI : Hid (Calls Try.prog 24 #[.slice (some ⟨yb, yo, none⟩) yn yc, .slice none 0 0] v9 fun e w' => e = .returned (.int .i64 (kr : Int)) ∧ Below v9.heap.size v9 w') := by
      have hyc := HYO.out.le
      have hym := HYO.out.max
      refine (refFind_any (some ⟨yb, yo, none⟩) yn yc yL none 0 0 [] v9 (HYN.out.below HB9.out) hyc hym (Rs.nil _ _) (fun p hp => ?_)).mono ?_
      ·have := HBY.out.deep p.2 (List.mem_map_of_mem hp)
       unfold deep at this
       have h2 : p.2.names.length ≤ 16 := by simpa using this
       omega
      ·rintro e w' ⟨rfl, q, rfl⟩
       exact ⟨by rw [hfi], drewN_below v9 q⟩
     have HCK : Hid (∀ W, Below w2.heap.size w2 W → NodAt W yb (yo + kr * 10) (gl yL kr).1) := fun W hW => by
      obtain ⟨b', o', h1, _, h3⟩ := (HYN.out.below hW).at hyp
      injection h1 with h1
      injection h1 with e1 e2
      subst e1; subst e2
      exact h3 kr hkr'
     have hglr : gl yL kr = yL[kr] := gl_lt yL kr hkr
     have HRR : Hid (Rep w2 (gl yL kr).1 (gl yL kr).2 ∧ (gl yL kr).2.names = [] ∧ (gl yL kr).2 ∈ nds yL) := by
      rw [hglr]
      exact ⟨HYN.out.2.1 _ (List.getElem_mem hkr), hnr, List.mem_map_of_mem (List.getElem_mem hkr)⟩
     generalize (gl yL kr).1 = vr at *
     generalize (gl yL kr).2 = xr at *
     have hik : (kr : Int) < yn := by omega
     have hik0 : (0 : Int) ≤ kr := by omega
     clear hfi hnr hglr hkr
     go_upto_region 16 with (go_at_call 24; refine HFI.out.mono ?_; rintro e v10 ⟨rfl, hb10⟩; have HB10 := hide (HB9.out.trans (hb10.mono HB9.out.size)); have cr10 := HCR.out _ HB10.out; obtain ⟨n0, n1, n2, n3, n4, n5, n6, n7, n8, n9⟩ := HCK.out _ HB10.out; clear hb10)
     go_upto_region 18 with fail
     obtain ⟨v11, hv11⟩ : ∃ x, x = v10.alloc (Obj.cells (nop vr).cells 44) := ⟨_, rfl⟩
     have hv11' := hv11
     simp only [nop, Nv.cells] at hv11'
     rw [← hv11']
     have hb11 : Below v10.heap.size v10 v11 := by rw [hv11]; exact below_one _ _
     have hbk : Bk v11 v10.heap.size (nop vr) := by rw [hv11]; exact bk_new v10 (nop vr)
     have HB11 := hide (HB10.out.trans (hb11.mono HB10.out.size))
     have HEO : Hid ((⟨some ⟨v10.heap.size, 0, none⟩, 1, 1, [(nop vr, nopN xr)]⟩ : Ly).Ok v11) := ⟨ns_one hbk (rep_nop (HRR.out.1.below HB11.out)), Nat.le_refl _, (by decide : (1 : Nat) ≤ 9223372036854775807)⟩
     have HFQ : Hid (∀ W, Below v11.heap.size v11 W → NsR W (some ⟨b, off, none⟩) k QQ) := fun W hW => HF.out.row.below (HB11.out.trans (hW.mono HB11.out.size))
     have HE1 := hide (show (v11.alloc (.cells #[.slice (some ⟨v10.heap.size, 0, none⟩) 1 1] 25)).ownsRow v11.heap.size 25 1 (.slice (some ⟨v11.heap.size, 0, none⟩) 1 1) 1 (lvs [(⟨some ⟨v10.heap.size, 0, none⟩, 1, 1, [(nop vr, nopN xr)]⟩ : Ly)]) from
      ⟨rfl, .inr ⟨v11.heap.size, 1, _, rfl, Nat.le_refl _, heap_alloc_new v11 _, Nat.le_refl _, by unfold maxLen; omega, rfl, rfl⟩⟩)
     clear hv11 hv11' hb11 hbk n0 n1 n2 n3 n4 n5 n6 n7 n8 n9 cr10
     go_upto_region 19 with (first
      | (go_at_call 11; refine HM12.out.mono ?_; rintro e v13 ⟨ac, kcc, cc, PC, rfl, hmC, hb13⟩; have HMC := hide hmC; have HB13 := hide (HB12.out.trans (hb13.mono HB12.out.size)); clear hmC hb13)
      | (at_builtin; refine wpList_append_lys _ rfl _ _ rfl v11.heap.size _ _ _ [(⟨some ⟨v10.heap.size, 0, none⟩, 1, 1, [(nop vr, nopN xr)]⟩ : Ly)] rfl HE1.out _ _ _ _ QQ rfl (HFQ.out _ (below_one _ _)) (by omega) (by simp) ?_; intro a12 c12 w12 ho12 hg12; have hb12 := (below_one v11 _).grown hg12 (by simp) (fun k e => by simp [Value.ownBlock] at e; omega); have HB12 := hide (HB11.out.trans (hb12.mono HB11.out.size)); have HM12 := hide (mergeQ_any a12 (1 + k) c12 ((⟨some ⟨v10.heap.size, 0, none⟩, 1, 1, [(nop vr, nopN xr)]⟩ : Ly) :: QQ) w12 (nsr_lvs ho12 (fun z hz => by
        rcases List.mem_cons.1 hz with rfl | hz
        ·exact HEO.out.below hb12
        ·exact (HFQ.out _ hb12).2.1 z hz)) (by omega) (by
        have := cntP_bound ((⟨some ⟨v10.heap.size, 0, none⟩, 1, 1, [(nop vr, nopN xr)]⟩ : Ly) :: QQ) (fun z hz => by
         rcases List.mem_cons.1 hz with rfl | hz
         ·exact (by decide : (1 : Nat) ≤ 25)
         ·exact H25.out z hz) (1 + k)
        omega) (fun t ht => by
        rcases List.mem_cons.1 ht with rfl | ht
        ·exact br_single HBY.out HRR.out.2.2 HRR.out.2.1
        ·exact HF.out.br t ht)); clear ho12 hg12 hb12))
     go_wp2_with (go_at_call 11; refine (mergeQ_any (some ⟨b, off, none⟩) k c' QQ v13 (HF.out.row.below HB13.out) (by have := HF.out.k5; omega) (by have := HF.out.cnt; omega) HF.out.br).mono ?_)
     rintro e v14 ⟨ad, kd, cd, PD, rfl, hmD, hb14⟩
     have HAB := hide (above (n0 := nopN xr) (L := lys QQ) HRR.out.2.1 (show xr.kind = 1 from root_kind HBY.out HRR.out.2.2 HRR.out.2.1) rfl HF.out.br (by rw [HHD.out]; simp) HMC.out.mrg hmD.mrg)
     have hlc : PC.length = kcc := HMC.out.ns.1
     have hld : PD.length = kd := hmD.ns.1
     have hkk : kd = kcc := by
      have := HAB.out.1
      rw [nds_length, nds_length] at this
      omega
     subst hkk
     have HMD := hide hmD
     have HMC4 := hide (HMC.out.below hb14)
     have HB14 := hide (HB13.out.trans (hb14.mono HB13.out.size))
     have HLC := hide hlc
     have HLD := hide hld
     have H20 := hide (HMC.out.names1 (fun t ht => by
      rcases List.mem_cons.1 ht with rfl | ht
      ·exact br_single HBY.out HRR.out.2.2 HRR.out.2.1
      ·exact HF.out.br t ht))
     have HEX : Hid (Below w.heap.size w v14) := E2.out.trans (HB14.out.mono E2.out.size)
     have hee : ((kd : Int) == kd) = true := by simp
     have hkd1 : kd ≤ 1000 := hmD.k1
     clear hmD hb14 hlc hld HMC HB13 HMA HMB HS HB9 HB10 HB11 HB12 HM12 HE1 HFQ HEO HR1 HBF HR6 HO6 HCK HFI HALL HSH HCR HFO HO1
     go_wp2_with fail
     go_loopw [14, 15, 16, 17] (fun r14 r15 _ _ wr => ∃ i : Nat, r15 = .int .i64 i ∧ r14 = .bool true ∧ 1 ≤ i ∧ Below v14.heap.size v14 wr) (fun _ r15 _ _ _ => kd - (intOf r15).toNat)
     case atStart => exact ⟨1, rfl, rfl, Nat.le_refl _, Below.refl _ _⟩
     case round =>
      obtain ⟨i, rfl, rfl, hi0, hbel⟩ := hrel
      have HBL := hide hbel
      by_cases hi : i < kd
      ·have hd : decide ((i : Int) < kd) = true := by simpa using hi
       obtain ⟨ba, oa, rfl, hba, hca⟩ := (HMC4.out.ns.below hbel).at (by omega)
       obtain ⟨bb, ob, rfl, hbb, hcb⟩ := (HMD.out.ns.below hbel).at (by omega)
       have hra := (HMC4.out.ns.below hbel).rep i hi
       have hrb := (HMD.out.ns.below hbel).rep i hi
       have hla : i < PC.length := by rw [HLC.out]; exact hi
       have hlb : i < PD.length := by rw [HLD.out]; exact hi
       have hnn : (gl PC i).1.nn ≤ 1000000 := by rw [← hra.names.1]; exact H20.out _ (gl_mem PC i hla)
       have hE := HAB.out.2 i (by rw [nds_length]; exact hla) (by rw [nds_length]; exact hlb) hi0
       rw [nds_at hla, nds_at hlb] at hE
       have HK1 : Hid (∀ q, Calls Try.prog 25 #[.slice (gl PC i).1.na (gl PC i).1.nn (gl PC i).1.nc, .slice (gl PD i).1.na (gl PD i).1.nn (gl PD i).1.nc] (wr.drewN q) fun e w' => e = .returned (.bool true) ∧ Below wr.heap.size wr w') := fun q => by
        have := refSame_one (gl PC i).1.na (gl PD i).1.na (gl PC i).1.nn (gl PC i).1.nc (gl PD i).1.nn (gl PD i).1.nc _ _ (wr.drewN q) (hra.names.drewN q) (hrb.names.drewN q) hnn
        rw [decide_eq_true hE.1] at this
        refine this.mono ?_
        rintro e w' ⟨rfl, q', rfl⟩
        exact ⟨rfl, (drewN_below wr q).trans (drewN_below _ q')⟩
       have HK2 : Hid (∀ wX, Below wr.heap.size wr wX → Calls Try.prog 26 #[.agg (gl PC i).1.cells, .agg (gl PD i).1.cells] wX fun e w' => e = .returned (.bool true) ∧ Below wr.heap.size wr w') := fun wX hX => by
        have := refAlike_any (gl PC i).1 (gl PD i).1 _ _ wX (hra.below hX) (hrb.below hX)
        rw [hE.2] at this
        refine this.mono ?_
        rintro e w' ⟨rfl, hb⟩
        exact ⟨rfl, hX.trans (hb.mono hX.size)⟩
       simp only [Nv.cells] at HK2
       have HNA := hide (hca i hi)
       have HNB := hide (hcb i hi)
       have HS := hide (And.intro (hca i hi).c0 (hcb i hi).c0)
       have hi1 : (i : Int) < kd := by omega
       have DR : Hid (∀ q wX, Below wr.heap.size wr wX → Below wr.heap.size wr (wX.drewN q)) := fun q wX h => h.trans ((drewN_below (B := wX.heap.size) wX q).mono h.size)
       clear hca hcb hra hrb hbel hnn hE
       generalize (gl PC i).1 = v at *
       generalize (gl PD i).1 = u at *
       go_wp2
       go_region_held3 (fun wX => wX.cell? ⟨ba, oa + i * 10, none⟩ = some (.slice v.na v.nn v.nc) ∧ wX.cell? ⟨bb, ob + i * 10, none⟩ = some (.slice u.na u.nn u.nc)) (first | exact HS5.out | exact HS.out)
        ((first
         | (go_at_call 25; refine (HK1.out _).mono ?_; rintro r w5 ⟨rfl, hb5⟩; have HB5 := hide hb5; have HS5 := hide (And.intro (HNA.out.below hb5 hba).c0 (HNB.out.below hb5 hbb).c0); clear hb5)))
       have HS6 := hide (two_rows (HNA.out.below HB5.out hba) (HNB.out.below HB5.out hbb))
       clear HS HS5 HK1
       go_wp2
       go_region_held3 (fun wX => wX.cell? ⟨ba, oa + i * 10, none⟩ = some (.slice v.na v.nn v.nc) ∧ wX.cell? ⟨ba, oa + i * 10 + 1, none⟩ = some (.int .i64 v.ino) ∧ wX.cell? ⟨ba, oa + i * 10 + 2, none⟩ = some (.int .i64 v.kind) ∧ wX.cell? ⟨ba, oa + i * 10 + 3, none⟩ = some (.int .i64 v.mode) ∧ wX.cell? ⟨ba, oa + i * 10 + 4, none⟩ = some (.int .i64 v.uid) ∧ wX.cell? ⟨ba, oa + i * 10 + 5, none⟩ = some (.int .i64 v.gid) ∧ wX.cell? ⟨ba, oa + i * 10 + 6, none⟩ = some (.slice v.da v.dn v.dc) ∧ wX.cell? ⟨ba, oa + i * 10 + 7, none⟩ = some (.string v.tg) ∧ wX.cell? ⟨ba, oa + i * 10 + 8, none⟩ = some (.slice v.xa v.xn v.xc) ∧ wX.cell? ⟨ba, oa + i * 10 + 9, none⟩ = some (.bool v.op) ∧ wX.cell? ⟨bb, ob + i * 10, none⟩ = some (.slice u.na u.nn u.nc) ∧ wX.cell? ⟨bb, ob + i * 10 + 1, none⟩ = some (.int .i64 u.ino) ∧ wX.cell? ⟨bb, ob + i * 10 + 2, none⟩ = some (.int .i64 u.kind) ∧ wX.cell? ⟨bb, ob + i * 10 + 3, none⟩ = some (.int .i64 u.mode) ∧ wX.cell? ⟨bb, ob + i * 10 + 4, none⟩ = some (.int .i64 u.uid) ∧ wX.cell? ⟨bb, ob + i * 10 + 5, none⟩ = some (.int .i64 u.gid) ∧ wX.cell? ⟨bb, ob + i * 10 + 6, none⟩ = some (.slice u.da u.dn u.dc) ∧ wX.cell? ⟨bb, ob + i * 10 + 7, none⟩ = some (.string u.tg) ∧ wX.cell? ⟨bb, ob + i * 10 + 8, none⟩ = some (.slice u.xa u.xn u.xc) ∧ wX.cell? ⟨bb, ob + i * 10 + 9, none⟩ = some (.bool u.op)) (first | exact HS7.out | exact HS6.out)
        ((first
         | (go_at_call 26; refine (HK2.out w5.drew (DR.out 1 w5 HB5.out)).mono ?_; rintro r w7 ⟨rfl, hb7⟩; have HB7 := hide hb7; have HS7 := hide (two_rows (HNA.out.below hb7 hba) (HNB.out.below hb7 hbb)); clear hb7)))
       have HEnd : Hid (Below v14.heap.size v14 w7) := HBL.out.trans (HB7.out.mono HBL.out.size)
       clear HS6 HS7 HK2
       go_wp2
       exact ⟨⟨i + 1, by go_num, rfl, by omega, HEnd.out⟩, by simp [intOf]; omega⟩
      ·have hd : decide ((i : Int) < kd) = false := by simpa using hi
       go_wp2
       go_ret
       exact ⟨rfl, HEX.out.trans (HBL.out.mono HEX.out.size)⟩
end Go.Proofs.Ytoocipdhplaboaa

import Derived.Test.YtflohhefbbidcaaLJMrgPl
import Derived.Test.YtflohhefbbidcaaLJMrgOut
import Derived.Test.YtflohhefbbidcaaLJTreKid0
import Derived.Deep.CutRange
import Derived.Deep.CutBlock
import Derived.Deep.RegionHeld
import Derived.BigQuiet
import Derived.OneCell
import Derived.Deep.RegionHeld3
set_option linter.unusedVariables false
namespace Go.Proofs.Ytflohhefbbidcaa
set_option maxRecDepth 100000
open Go.RowKit Go.Maps
open Nam Tre Mrg Stb Plc
theorem cell_new1 (w : World) (x : Value) (t : TypeId) : (w.alloc (.cells #[x] t)).cell? ⟨w.heap.size, 0, none⟩ = some x := by
 have h := heap_alloc_new w (.cells #[x] t)
 unfold World.cell?; rw [h]; rfl
structure Sp where
 a : Option Addr
 n : Nat
 c : Nat
def Sp.v (s : Sp) : Value := .slice s.a s.n s.c
def svs (V : List Sp) : List Value := V.map Sp.v
theorem svs_append (V U : List Sp) : svs (V ++ U) = svs V ++ svs U := by simp [svs]
theorem svs_length (V : List Sp) : (svs V).length = V.length := by simp [svs]
theorem infoPls : (Try.prog.info? 54).map (fun i => (i.zero, i.size, i.bytes)) = some (some (.slice none 0 0), 1, 24) := by kernel_rfl
theorem wpList_append_sp (w : World) {ops : Array Oper} {rest : List Oper} {o : Oper} {a : Act} {Q : Exit → Act → World → Prop} (hgd : o.guard = none) (s x : Operand)
  (ho : o.op = .call { callee := .builtin .append, args := #[s, x], argTypes := #[52, 52] })
  (base : Nat) (vo : Option Addr) (n vc : Nat) (L : List Sp) (hs : a.eval s = .slice vo n vc) (hown : w.ownsRow base 54 1 (.slice vo n vc) n (svs L))
  (p : Nat) (t : Sp) (hx : a.eval x = .slice (some ⟨p, 0, none⟩) 1 1) (hp : w.cell? ⟨p, 0, none⟩ = some (.slice t.a t.n t.c))
  (hbd : n + 1 ≤ 1000000) (hbase : base ≤ w.heap.size)
  (h : ∀ ao' c' w', w'.ownsRow base 54 1 (.slice ao' (n + 1) c') (n + 1) (svs (L ++ [t])) → w.grownBy w' (Value.slice vo n vc).ownBlock → wpList Try.prog ops Q rest (a.put o.dst (.slice ao' (n + 1) c')) w') :
  wpList Try.prog ops Q (o :: rest) a w := by
 obtain ⟨i0, hi, hz0, hz1, hz2⟩ := info_parts infoPls
 refine wpList_append_own w hgd s x _ ho base 54 i0 (.slice none 0 0) 1 24 Try.underlying52 hi hz0 hz1 hz2 rfl (by decide) _ n (svs L) hs hown ⟨p, 0, none⟩ 1 1 (svs [t]) hx (by simp [svs]) ?_ (by intro u hu; simp [svs, Sp.v] at hu; rw [hu]; rfl) (by unfold maxLen; omega) (by omega) hbase ?_
 ·intro j u hj
  match j, hj with
  | 0, hj => simp [svs, Sp.v] at hj; subst hj; simpa [Addr.add] using hp
 ·intro v' w' h2 h3 _
  obtain ⟨ao', c', rfl⟩ := owns_shape h2
  exact h ao' c' w' (by rw [svs_append]; exact h2) h3
def gsp (V : List Sp) (i : Nat) : Sp := V.getD i ⟨none, 0, 0⟩
theorem gsp_lt (V : List Sp) (i : Nat) (h : i < V.length) : gsp V i = V[i] := by simp [gsp, h]
def PsR (w : World) (ao : Option Addr) (n : Nat) (V : List Sp) (R : List (List Pl)) : Prop :=
 V.length = n ∧ R.length = n ∧ (n = 0 ∨ ∃ b off, ao = some ⟨b, off, none⟩ ∧ b < w.heap.size ∧ ∀ i, i < n → w.cell? ⟨b, off + i, none⟩ = some (.slice (gsp V i).a (gsp V i).n (gsp V i).c) ∧ (gsp V i).n ≤ (gsp V i).c ∧ Ps w (gsp V i).a (gsp V i).n (R.getD i []))
def spOf (blk cap : Nat) (v : Nat × Nat) : Sp := ⟨some ⟨blk, v.1 * 2, none⟩, v.2 - v.1, cap - v.1⟩
theorem Ps.cut {w : World} {blk n : Nat} {D : Nat → Nat} {c : Nat} (h : Ps w (some ⟨blk, 0, none⟩) n (plsD n D)) {v : Nat × Nat} (h1 : v.1 ≤ v.2) (h2 : v.2 ≤ n) : Ps w (spOf blk c v).a (spOf blk c v).n (rowOf D v) := by
 refine ⟨rowOf_length D v, ?_⟩
 by_cases e : v.2 - v.1 = 0
 ·exact .inl e
 ·rcases h.2 with h0 | ⟨b, off, h3, h4, h5⟩
  ·omega
  ·injection h3 with h3
   injection h3 with h3 h6
   subst h3; subst h6
   refine .inr ⟨blk, v.1 * 2, rfl, h4, fun i hi => ?_⟩
   have hi' : i < v.2 - v.1 := hi
   have h7 := h5 (v.1 + i) (by omega)
   rw [gq_plsD (by omega)] at h7
   have e2 : gq (rowOf D v) i = (pa (D (v.1 + i)), pb (D (v.1 + i))) := by rw [gq_lt _ _ (by rw [rowOf_length]; exact hi'), rowOf_get D v i hi']
   rw [e2]
   have a1 : 0 + (v.1 + i) * 2 = v.1 * 2 + i * 2 := by omega
   have a2 : 0 + (v.1 + i) * 2 + 1 = v.1 * 2 + i * 2 + 1 := by omega
   rw [a1, ] at h7
   exact h7
theorem Ps.grown {w w' : World} {ao bo : Option Addr} {n m c base : Nat} {l : List Pl} {xs : List Value} (h : Ps w ao n l) (ho : w.ownsRow base 54 1 (.slice bo m c) m xs) (hg : w.grownBy w' (Value.slice bo m c).ownBlock) : Ps w' ao n l := by
 refine h.keep ((KeepT.refl _ w).grown hg fun k hk cur fz he => ?_)
 obtain ⟨c2, q2⟩ := owns_obj ho hk
 rw [q2] at he
 injection he with he
 injection he with _ he _
 exact absurd he (by decide)
theorem Mrg.Cuts.len {f : Nat → List ByteArray} {D : Nat → Nat} {n : Nat} {V : List (Nat × Nat)} {fr i : Nat} (h : Cuts f D n V fr i) : ∀ v ∈ V, v.1 < v.2 ∧ v.2 ≤ n := fun v hv => by
 have h1 := h.one v hv
 have := h.le
 have := h.le2
 exact ⟨h1.1, by omega⟩
set_option maxHeartbeats 2000000 in
theorem together_any (a : Option Addr) (n c : Nat) (Q : List Ly) (w : World) (hq : NsR w a n Q) (hn : n ≤ 1000) (hs : ∀ l k, InQ Q l k → (gp Q l k).1.nn ≤ 1000000) (ht : cntP Q n ≤ 1000) (hd : ∀ t ∈ lys Q, (t.map Nod.names).Nodup) :
  Calls Try.prog 21 #[.slice a n c] w fun e w' => ∃ ao m mc V R, e = .returned (.slice ao m mc) ∧ PsR w' ao m V R ∧ m ≤ 1000 ∧ Tog (lys Q) R ∧ Below w.heap.size w w' := by
 have HQ := hide hq
 have HS := hide hs
 have HT := hide ht
 have HD := hide hd
 clear hq hs ht hd
 go_enter Try.func21, Try.ntmps21
 go_wp2_with fail
 go_loopw [3, 4, 5, 6, 12] (fun r3 _ _ _ r12 wr => ∃ (i k : Nat) (ao' : Option Addr) (c' : Nat), r12 = .int .i64 i ∧ i ≤ n ∧ r3 = .slice ao' k c' ∧ wr.ownsRow w.heap.size 57 2 (.slice ao' k c') k (pls (allP Q i)) ∧ Below w.heap.size w wr) (fun _ _ _ _ r12 _ => n - (intOf r12).toNat)
 case atStart => exact ⟨0, 0, none, 0, rfl, Nat.zero_le _, rfl, World.ownsRow_nil _ _ _ _, Below.refl _ _⟩
 case round =>
  obtain ⟨i, k, ao', c', rfl, hi0, rfl, hO, hb⟩ := hrel
  have HO := hide hO
  have HB := hide hb
  clear hO hb
  by_cases hi : i < n
  ·have hdx : decide ((i : Int) < n) = true := by simpa using hi
   have hi1 : (i : Int) < n := by omega
   obtain ⟨b, off, rfl, hbl, hc⟩ := (HQ.out.below HB.out).at (by omega)
   have c1 := hc i hi
   have hle := cntP_le Q hi
   have htt := HT.out
   obtain ⟨m, hm⟩ : ∃ m, m = (gy Q i).n := ⟨_, rfl⟩
   rw [← hm] at c1 hle
   have HM := hide hm
   have hk : k = cntP Q i := by
    have h1 := HO.out.1
    rw [pls_length, allP_length] at h1; omega
   clear hc hbl hm
   go_wp2_with fail
   go_loopw [3, 6, 19] (fun r3 _ r19 wr => ∃ (j k : Nat) (ao' : Option Addr) (c' : Nat), r19 = .int .i64 j ∧ j ≤ m ∧ r3 = .slice ao' k c' ∧ wr.ownsRow w.heap.size 57 2 (.slice ao' k c') k (pls (allP Q i ++ lyP i j)) ∧ Below w.heap.size w wr) (fun _ _ r19 _ => m - (intOf r19).toNat)
   case atStart => exact ⟨0, k, ao', c', rfl, Nat.zero_le _, rfl, by simpa [lyP] using HO.out, HB.out⟩
   case round =>
    obtain ⟨j, k2, ao2, c2, rfl, hj0, rfl, hO2, hb2⟩ := hrel
    have HO2 := hide hO2
    have HB2 := hide hb2
    have hk2 : k2 ≤ cntP Q i + j := by
     have h1 := hO2.1
     rw [pls_length, List.length_append, allP_length, lyP_length] at h1; omega
    clear hO2 hb2
    by_cases hj : j < m
    ·have hdj : decide ((j : Int) < m) = true := by simpa using hj
     go_wp2_with (at_builtin; refine wpList_append_pl _ rfl _ _ rfl w.heap.size _ _ _ (allP Q i ++ lyP i j) rfl (HO2.out.alloc _) _ (i, j) rfl (cell_new2 _ _ _ _).1 (cell_new2 _ _ _ _).2 (by omega) (by have := HB2.out.size; simp; omega) ?_)
     rintro ao3 k3 w3 ho3 hg3
     have HT3 : Hid (w3.ownsRow w.heap.size 57 2 (.slice ao3 (k2 + 1) k3) (k2 + 1) (pls (allP Q i ++ lyP i (j + 1)))) := by
      show World.ownsRow _ _ _ _ _ _ _
      rw [lyP_succ]; exact ho3
     have HB3 : Hid (Below w.heap.size w w3) := (HB2.out.alloc (HB2.out.size) _).grown hg3 (by have := HB2.out.size; simp; omega) (fun k e => (HO2.out.lt k e).1)
     clear ho3 hg3
     go_wp2
     exact ⟨⟨j + 1, k2 + 1, ao3, k3, by go_num, by omega, rfl, HT3.out, HB3.out⟩, by simp [intOf]; omega⟩
    ·have hdj : decide ((j : Int) < m) = false := by simpa using hj
     obtain rfl : j = m := by omega
     go_wp2
     refine ⟨⟨i + 1, k2, ao2, c2, by go_num, by omega, rfl, ?_, HB2.out⟩, by simp [intOf]; omega⟩
     rw [allP, ← HM.out]; exact HO2.out
  ·have hdx : decide ((i : Int) < n) = false := by simpa using hi
   obtain rfl : i = n := by omega
   have hk : k = cntP Q i := by
    have h1 := HO.out.1
    rw [pls_length, allP_length] at h1; omega
   have hk1 : k ≤ 1000 := by have := HT.out; omega
   have hkc : k ≤ c' := (cap_owns HO.out).1
   have hp65 : ∀ j, (gy Q j).n ≤ 65536 := fun j => by
    by_cases e : j < i
    ·have h1 := cntP_le Q e
     have h2 := HT.out
     omega
    ·have : gy Q j = ly0 := by
      unfold gy; rw [List.getD_eq_getElem?_getD, List.getElem?_eq_none (by have := HQ.out.1; omega)]; rfl
     rw [this]; exact Nat.zero_le _
   have hpb : ∀ p ∈ allP Q i, p.2 < 65536 := fun p hp => by
    have := (mem_allP.1 hp).2
    have := hp65 p.1
    omega
   have hlen : (allP Q i).length = k := by rw [allP_length]; exact hk.symm
   have HSO : Hid (Calls Try.prog 42 #[.slice ao' k c', .func (.func 43) #[.slice a i c] #[]] wr fun e w' => e = .returned (.tuple #[]) ∧ ∃ D, (k = 0 ∨ ∃ blk, ao' = some ⟨blk, 0, none⟩) ∧ Ps w' ao' k (plsD k D) ∧ Stb.St (ltN (nmc (lys Q))) (cdf (allP Q i)) D 0 k ∧ Below w.heap.size w w') := by
    by_cases k0 : k = 0
    ·subst k0
     refine (pSortStable_none ao' c' (.func (.func 43) #[.slice a i c] #[]) wr).mono ?_
     rintro e w' ⟨rfl, rfl⟩
     exact ⟨rfl, fun _ => 0, .inl rfl, ⟨plsD_length _ _, .inl rfl⟩, stNone 0, HB.out⟩
    ·have hO := HO.out
     rw [pls_pvs hpb, hlen] at hO
     obtain ⟨blk, c2, hv, hblk, hlt⟩ := hO.form (by omega)
     obtain ⟨rfl, _, rfl⟩ : ao' = some ⟨blk, 0, none⟩ ∧ k = k ∧ c' = c2 := by simpa using hv
     have hcmp : PCmps 43 (.slice a i c) (kcQ Q) (fun x => InQ Q (pa x) (pb x)) wr blk := fun W hW hl x y hx hy =>
      pcompare_any a i c Q x y W (HQ.out.below (HB.out.trans (hW.mono hblk))) hx hy (by omega) HS.out
     have hin : ∀ x, x < k → InQ Q (pa (cdf (allP Q i) x)) (pb (cdf (allP Q i) x)) := fun x hx => by
      have hm : gq (allP Q i) x ∈ allP Q i := by rw [gq_lt _ _ (by rw [hlen]; exact hx)]; exact List.getElem_mem _
      unfold cdf
      rw [pa_cdp (hpb _ hm), pb_cdp (hpb _ hm)]
      obtain ⟨q1, q2⟩ := mem_allP.1 hm
      exact ⟨by rw [HQ.out.1]; exact q1, q2⟩
     have hkc : kcQ Q = kcN (nmc (lys Q)) := by
      funext x y
      unfold kcQ kcN nmsAt nmc
      rw [gp_nat, gp_nat]
     rw [hkc] at hcmp
     refine (pSortStable_any wr w.heap.size blk k c' 43 (.slice a i c) (kcN (nmc (lys Q))) (ltN (nmc (lys Q))) (fun x => InQ Q (pa x) (pb x)) (cdf (allP Q i)) wr (enters _ Try.func43 (by kernel_rfl) rfl) hcmp (ltN_odr _) ⟨hO, Below.refl _ _, hlt⟩ hk1 hin ?_).mono ?_
     ·intro x y hxy hy
      have := List.pairwise_iff_getElem.1 (allP_rise hp65 i) x y (by omega) (by omega) hxy
      unfold cdf
      rw [gq_lt _ _ (by omega), gq_lt _ _ (by omega)]
      exact this
     ·rintro e w' ⟨rfl, D, hPR, hSt⟩
      refine ⟨rfl, D, .inr ⟨blk, rfl⟩, ⟨plsD_length _ _, .inr ⟨blk, 0, rfl, ?_, fun x hx => ?_⟩⟩, hSt, HB.out.trans (hPR.bel.mono hblk)⟩
      ·obtain ⟨cur, hc⟩ := owns_obj hPR.row rfl
       exact ⟨cur, _, hc⟩
      ·rw [gq_plsD hx, Nat.zero_add]
       exact hPR.cell hx
   have HTG : Hid (∀ D V, Stb.St (ltN (nmc (lys Q))) (cdf (allP Q i)) D 0 k → Cuts (nmc (lys Q)) D k V k k → Tog (lys Q) (V.map (rowOf D))) := fun D V hs hc => by
    refine tog_of HD.out (C0 := cdf (allP Q i)) (n := k) (fun x => ?_) (fun p hp => ?_) hs hc
    ·rw [← hlen, cdf_inj_in hpb, mem_allP, inq_ok HQ.out]
     unfold InQ
     rw [HQ.out.1]
    ·have h1 := ((inq_ok HQ.out p).1 hp).2
     have := hp65 p.1
     omega
   have HPB : Hid (∀ D, Stb.St (ltN (nmc (lys Q))) (cdf (allP Q i)) D 0 k → ∀ x, x < k → InQ Q (pa (D x)) (pb (D x))) := fun D hs x hx => by
    obtain ⟨y, _, y2, y3⟩ := (hs.inn (D x)).1 ⟨x, Nat.zero_le _, hx, rfl⟩
    have hm : gq (allP Q i) y ∈ allP Q i := by rw [gq_lt _ _ (by rw [hlen]; exact y2)]; exact List.getElem_mem _
    rw [← y3]
    unfold cdf
    rw [pa_cdp (hpb _ hm), pb_cdp (hpb _ hm)]
    obtain ⟨q1, q2⟩ := mem_allP.1 hm
    exact ⟨by rw [HQ.out.1]; exact q1, q2⟩
   clear hk hp65 hpb hlen HO HD HT
   go_wp2_with (go_at_call 42; refine HSO.out.mono ?_; rintro e w5 ⟨rfl, D, hfm, hP5, hSt5, hB5⟩; have HP5 := hide hP5; have HST5 := hide hSt5; have HB5 := hide hB5; clear hP5 hSt5 hB5 HSO)
   rcases hfm with hk0 | ⟨blk, rfl⟩
   ·subst hk0
    go_loopw [7, 8, 9, 36] (fun r7 _ _ r36 wr => r7 = .slice none 0 0 ∧ r36 = .int .i64 (0 : Nat) ∧ wr = w5) (fun _ _ _ _ _ => 0)
    case atStart => exact ⟨rfl, rfl, rfl⟩
    case round =>
     obtain ⟨rfl, rfl, rfl⟩ := hrel
     go_wp2
     go_ret
     exact ⟨none, 0, 0, [], [], rfl, ⟨rfl, rfl, .inl rfl⟩, by omega, HTG.out D [] HST5.out ⟨Nat.le_refl _, Nat.le_refl _, fun v hv => by simp at hv, fun x hx => by omega, List.Pairwise.nil, fun x _ _ h3 => by omega, fun _ => rfl⟩, HB5.out⟩
   ·go_loopw [7, 8, 9, 36] (fun r7 r8 _ r36 wr => ∃ (j fr m : Nat) (aR : Option Addr) (cR : Nat) (V : List (Nat × Nat)), r36 = .int .i64 j ∧ r8 = .int .i64 fr ∧ r7 = .slice aR m cR ∧ j ≤ k ∧ m ≤ j ∧ wr.ownsRow w.heap.size 54 1 (.slice aR m cR) m (svs (V.map (spOf blk c'))) ∧ Cuts (nmc (lys Q)) D k V fr j ∧ Ps wr (some ⟨blk, 0, none⟩) k (plsD k D) ∧ Below w.heap.size w wr) (fun _ _ _ r36 _ => k - (intOf r36).toNat)
    case atStart => exact ⟨0, 0, 0, none, 0, [], rfl, rfl, rfl, Nat.zero_le _, Nat.le_refl _, World.ownsRow_nil _ _ _ _, cuts_zero _ _ _, HP5.out, HB5.out⟩
    case round =>
     obtain ⟨j, fr, m, aR, cR, V, rfl, rfl, rfl, hj0, hmj, hO, hC, hP, hb⟩ := hrel
     have HO := hide hO
     have HCT := hide hC
     have HP := hide hP
     have HB := hide hb
     have hfr := hC.le
     clear hO hC hP hb
     by_cases hj : j < k
     ·have hdj : decide ((j : Int) < k) = true := by simpa using hj
      have hj1 : (j : Int) < k := by omega
      have hx1 : IntKind.i64.wrap ((j : Int) + 1) = ((j + 1 : Nat) : Int) := by rw [IntWalk.i64_in _ (by omega)]; omega
      have hx2 : (0 : Int) ≤ (fr : Int) := by omega
      have hx3 : (fr : Int) ≤ ((j + 1 : Nat) : Int) := by omega
      have hx4 : ((j + 1 : Nat) : Int) ≤ (c' : Int) := by omega
      have hx5 : (0 : Int) ≤ (j : Int) + 1 := by omega
      have hx6 : (fr : Int) ≤ (j : Int) + 1 := by omega
      have hx7 : (j : Int) + 1 ≤ (c' : Int) := by omega
      by_cases e1 : j + 1 = k
      ·have hde2 : ((j : Int) + 1 == (k : Int)) = true := by simp; omega
       have HCC := hide (HCT.out.cut hj (fun h => absurd h (by omega)))
       have E1 := hide e1
       clear e1 hx6 hx5
       go_upto_region 17 with fail
       go_region
       obtain ⟨w3, hw3⟩ : ∃ w3, w3 = wr.drew := ⟨_, rfl⟩
       rw [← hw3]
       have HO8 : Hid (w3.ownsRow w.heap.size 54 1 (.slice aR m cR) m (svs (V.map (spOf blk c')))) := by rw [hw3]; exact HO.out
       have HP8 : Hid (Ps w3 (some ⟨blk, 0, none⟩) k (plsD k D)) := by rw [hw3]; exact HP.out.below (Below.refl _ _).drew
       have HB8 : Hid (Below w.heap.size w w3) := by rw [hw3]; exact HB.out.drew
       clear hw3
       go_wp2_with (at_builtin; refine wpList_append_sp _ rfl _ _ rfl w.heap.size _ _ _ (V.map (spOf blk c')) rfl (HO8.out.alloc _) _ (spOf blk c' (fr, j + 1)) rfl ?_ (by omega) (by have := HB8.out.size; simp; omega) ?_)
       ·exact cell_new1 _ _ _
       rintro ao3 k3 w7 ho3 hg3
       have HO7 : Hid (w7.ownsRow w.heap.size 54 1 (.slice ao3 (m + 1) k3) (m + 1) (svs ((V ++ [(fr, j + 1)]).map (spOf blk c')))) := by
        show World.ownsRow _ _ _ _ _ _ _
        rw [List.map_append]; exact ho3
       have HP7 : Hid (Ps w7 (some ⟨blk, 0, none⟩) k (plsD k D)) := (HP8.out.below (below_one _ _)).grown (HO8.out.alloc _) hg3
       have HB7 : Hid (Below w.heap.size w w7) := (HB8.out.alloc (HB8.out.size) _).grown hg3 (by have := HB8.out.size; simp; omega) (fun k e => (HO8.out.lt k e).1)
       clear ho3 hg3
       go_wp2
       exact ⟨⟨j + 1, j + 1, m + 1, ao3, k3, V ++ [(fr, j + 1)], by go_num, by go_num, rfl, by omega, by omega, HO7.out, HCC.out, HP7.out, HB7.out⟩, by simp [intOf]; omega⟩
      ·have hde2 : ((j : Int) + 1 == (k : Int)) = false := by simp; omega
       have hj3 : (j : Int) + 1 < k := by omega
       have hj2 : ((j + 1 : Nat) : Int) < k := by omega
       have hi1 := HPB.out D HST5.out j hj
       have hi2 := HPB.out D HST5.out (j + 1) (by omega)
       have HCM : Hid (∀ W, Below w.heap.size w W → Calls Try.prog 43 #[.slice a i c, .agg #[.int .i64 (pa (D j) : Int), .int .i64 (pb (D j) : Int)], .agg #[.int .i64 (pa (D (j + 1)) : Int), .int .i64 (pb (D (j + 1)) : Int)]] W fun e w' => e = .returned (.int .i64 (kcQ Q (D j) (D (j + 1)))) ∧ Below W.heap.size W w') := fun W hW => pcompare_any a i c Q (D j) (D (j + 1)) W (HQ.out.below hW) hi1 hi2 (by omega) HS.out
       have hcell : ∀ W, Below wr.heap.size wr W → W.cell? ⟨blk, j * 2, none⟩ = some (.int .i64 (pa (D j) : Int)) ∧ W.cell? ⟨blk, j * 2 + 1, none⟩ = some (.int .i64 (pb (D j) : Int)) ∧ W.cell? ⟨blk, (j + 1) * 2, none⟩ = some (.int .i64 (pa (D (j + 1)) : Int)) ∧ W.cell? ⟨blk, (j + 1) * 2 + 1, none⟩ = some (.int .i64 (pb (D (j + 1)) : Int)) := fun W hW => by
        obtain ⟨b0, o0, h1, _, h2⟩ := (HP.out.below hW).at (by omega)
        injection h1 with h1
        injection h1 with h1 h3
        subst h1; subst h3
        have q1 := h2 j hj
        have q2 := h2 (j + 1) (by omega)
        rw [gq_plsD hj, Nat.zero_add] at q1
        rw [gq_plsD (by omega), Nat.zero_add] at q2
        exact ⟨q1.1, q1.2, q2.1, q2.2⟩
       have HCELL := hide hcell
       have HZ : Hid (kcQ Q (D j) (D (j + 1)) = 0 ↔ nmc (lys Q) (D j) = nmc (lys Q) (D (j + 1))) := by
        have := kcN_zero (nmc (lys Q)) (D j) (D (j + 1))
        have e : kcN (nmc (lys Q)) (D j) (D (j + 1)) = kcQ Q (D j) (D (j + 1)) := by unfold kcQ kcN nmsAt nmc; rw [gp_nat, gp_nat]
        rw [e] at this
        exact this
       generalize kcQ Q (D j) (D (j + 1)) = z at *
       generalize pa (D j) = xa at *
       generalize pb (D j) = xb at *
       generalize pa (D (j + 1)) = ya at *
       generalize pb (D (j + 1)) = yb at *
       have HS0 := hide (HCELL.out wr (Below.refl _ _))
       have HB0 := hide (Below.refl wr.heap.size wr)
       clear hcell hi1 hi2
       go_upto_region 17 with fail
       go_region_held3 (fun wX => wX.cell? ⟨blk, j * 2, none⟩ = some (.int .i64 (xa : Int)) ∧ wX.cell? ⟨blk, j * 2 + 1, none⟩ = some (.int .i64 (xb : Int)) ∧ wX.cell? ⟨blk, (j + 1) * 2, none⟩ = some (.int .i64 (ya : Int)) ∧ wX.cell? ⟨blk, (j + 1) * 2 + 1, none⟩ = some (.int .i64 (yb : Int))) (first | exact HS0.out | exact HS3.out)
        ((go_at_call 43; refine (HCM.out _ (HB.out.trans (Below.mono (by first | exact HB0.out | exact HB0.out.drew) HB.out.size))).mono ?_; rintro e w3 ⟨rfl, hb3⟩; have HB3 : Hid (Below wr.heap.size wr w3) := (by first | exact hb3 | exact HB0.out.drew.trans hb3); have HS3 := hide (HCELL.out _ HB3.out); clear hb3))
       all_goals (
        rename_i hHd
        clear hHd HS0 HS3 HCELL HCM HB0)
       have HO8 := hide (owns_below HO.out HB3.out)
       have HP8 := hide (HP.out.below HB3.out)
       have HB8 := hide (HB.out.trans (HB3.out.mono HB.out.size))
       by_cases hz : z = 0
       ·have hzb : (z != 0) = false := by simp [hz]
        have HCC := hide (HCT.out.more (by omega) (HZ.out.1 hz))
        go_wp2
        exact ⟨⟨j + 1, fr, m, aR, cR, V, by go_num, rfl, rfl, by omega, by omega, HO8.out, HCC.out, HP8.out, HB8.out⟩, by simp [intOf]; omega⟩
       ·have hzb : (z != 0) = true := by simpa using hz
        have HCC := hide (HCT.out.cut hj (fun _ e => hz (HZ.out.2 e)))
        go_wp2_with (at_builtin; refine wpList_append_sp _ rfl _ _ rfl w.heap.size _ _ _ (V.map (spOf blk c')) rfl (HO8.out.alloc _) _ (spOf blk c' (fr, j + 1)) rfl ?_ (by omega) (by have := HB8.out.size; simp; omega) ?_)
        ·exact cell_new1 _ _ _
        rintro ao3 k3 w7 ho3 hg3
        have HO7 : Hid (w7.ownsRow w.heap.size 54 1 (.slice ao3 (m + 1) k3) (m + 1) (svs ((V ++ [(fr, j + 1)]).map (spOf blk c')))) := by
         show World.ownsRow _ _ _ _ _ _ _
         rw [List.map_append]; exact ho3
        have HP7 : Hid (Ps w7 (some ⟨blk, 0, none⟩) k (plsD k D)) := (HP8.out.below (below_one _ _)).grown (HO8.out.alloc _) hg3
        have HB7 : Hid (Below w.heap.size w w7) := (HB8.out.alloc (HB8.out.size) _).grown hg3 (by have := HB8.out.size; simp; omega) (fun k e => (HO8.out.lt k e).1)
        clear ho3 hg3
        go_wp2
        exact ⟨⟨j + 1, j + 1, m + 1, ao3, k3, V ++ [(fr, j + 1)], by go_num, by go_num, rfl, by omega, by omega, HO7.out, HCC.out, HP7.out, HB7.out⟩, by simp [intOf]; omega⟩
     ·have hdj : decide ((j : Int) < k) = false := by simpa using hj
      obtain rfl : j = k := by omega
      have hfn : fr = j := HCT.out.fin rfl
      subst hfn
      have HTF := hide (HTG.out D V HST5.out HCT.out)
      have hml : V.length = m := by have := HO.out.1; rw [svs_length, List.length_map] at this; omega
      have HR : Hid (PsR wr aR m (V.map (spOf blk c')) (V.map (rowOf D))) := by
       refine ⟨by simpa using hml, by simpa using hml, ?_⟩
       by_cases e0 : m = 0
       ·exact .inl e0
       ·obtain ⟨g, c2, hv, hg0, hlt⟩ := HO.out.form (by omega)
        obtain ⟨rfl, _, rfl⟩ : aR = some ⟨g, 0, none⟩ ∧ m = m ∧ cR = c2 := by simpa using hv
        refine .inr ⟨g, 0, rfl, hlt, fun x hx => ?_⟩
        have hxv : x < V.length := by omega
        have e2 : gsp (V.map (spOf blk c')) x = spOf blk c' V[x] := by rw [gsp_lt _ _ (by simpa using hxv)]; simp
        obtain ⟨l1, l2⟩ := HCT.out.len _ (List.getElem_mem hxv)
        rw [e2]
        refine ⟨?_, by show V[x].2 - V[x].1 ≤ c' - V[x].1; omega, ?_⟩
        ·rw [Nat.zero_add, HO.out.cellAt x (by omega)]
         simp [svs, Sp.v, hxv]
        ·have e3 : (V.map (rowOf D)).getD x [] = rowOf D V[x] := by simp [hxv]
         rw [e3]
         exact HP.out.cut (by omega) l2
      clear HO HCT HP
      go_wp2
      go_ret
      exact ⟨_, _, _, _, _, rfl, HR.out, by omega, HTF.out, HB.out⟩
end Go.Proofs.Ytflohhefbbidcaa
namespace Go.Proofs.Ytflohhefbbidcaa
open Go.RowKit Go.Maps
open Nam Tre Mrg Stb Plc
theorem jn_valid16 {S : List ByteArray} (h : ∀ x ∈ nm S, valid x = 0) (hn : S.length ≤ 30) : (jn S).length ≤ 1000000000 := by
 have := join_length (nm S) (fun n hn => (valid_zero (h n hn)).1)
 rw [nm_length] at this
 unfold jn
 omega
namespace Mrg
def kyn (m : List ByteArray) : ByteArray := ⟨(join (nm m)).toArray⟩
def ValN (m : List ByteArray) : Prop := (∀ x ∈ nm m, valid x = 0) ∧ m.length ≤ 16
theorem kyn_inj {m k : List ByteArray} (h1 : ValN m) (h2 : ValN k) (e : kyn m = kyn k) : m = k := by
 have e2 : join (nm m) = join (nm k) := by
  unfold kyn at e
  injection e with e
  exact List.toArray_inj e
 exact nm_inj (join_inj h1.1 h2.1 e2)
theorem valN_of {L : List (List Nod)} (hB : ∀ t ∈ L, Br t) {p : Pl} (hp : PlOk L p) : ValN (nat' L p).names := by
 have hm := nat_mem hp
 have ht := ly_mem hp.1
 refine ⟨fun x hx => ?_, ?_⟩
 ·simp only [nm, List.mem_map] at hx
  obtain ⟨s, hs, rfl⟩ := hx
  exact fv_zero _ ((hB _ ht).wrong _ hm) s hs
 ·have := (hB _ ht).deep _ hm
  unfold deep at this
  simpa using this
theorem ValN.drop {m : List ByteArray} (h : ValN m) : ValN m.dropLast := by
 refine ⟨fun x hx => ?_, by have := h.2; simp; omega⟩
 simp only [nm, List.mem_map] at hx
 obtain ⟨s, hs, rfl⟩ := hx
 exact h.1 _ (List.mem_map.2 ⟨s, List.dropLast_subset _ hs, rfl⟩)
theorem ValN.len {m : List ByteArray} (h : ValN m) : (jn m).length ≤ 1000000000 := jn_valid16 h.1 (by have := h.2; omega)
theorem kyn_size {m : List ByteArray} (h : ValN m) : (kyn m).size ≤ maxLen := by
 have h1 : (kyn m).size = (join (nm m)).length := by unfold kyn; simp [ByteArray.size]
 rw [h1]
 have h2 := h.len
 by_cases e : m = []
 ·subst e; simp [join, nm, maxLen]
 ·rw [join_jn m e]; unfold maxLen; omega
theorem Tog.val {L : List (List Nod)} (hB : ∀ t ∈ L, Br t) {R : List (List Pl)} (h : Tog L R) {r : List Pl} (hr : r ∈ R) : ValN (nmr L r) := by
 obtain ⟨p, t, rfl, h2⟩ := h.one r hr
 exact valN_of hB ((h2.mem p).1 (by simp)).1
def rw' (R : List (List Pl)) (i : Nat) : List Pl := R.getD i []
theorem rw_lt {R : List (List Pl)} {i : Nat} (h : i < R.length) : rw' R i = R[i] := by simp [rw', h]
theorem rw_mem {R : List (List Pl)} {i : Nat} (h : i < R.length) : rw' R i ∈ R := by rw [rw_lt h]; exact List.getElem_mem _
theorem dirOf_nil {L : List (List Nod)} {R : List (List Pl)} (h : Tog L R) (hB : ∀ t ∈ L, Br t) {m : List ByteArray} (hn : ∀ r ∈ R, nmr L r ≠ m) : dirOf L m = [] := by
 unfold dirOf
 cases e : srcs L m with
 | nil => simp
 | cons i q =>
  have hi : i < L.length := srcs_lt hB i (by rw [e]; simp)
  cases hf : Mrg.fnd (ly L i) m with
  | none => simp [hf]
  | some n =>
   exfalso
   obtain ⟨h1, h2⟩ := fnd_some hf
   obtain ⟨k, k1, k2⟩ := nat_of hi h1
   obtain ⟨r, hr, hp⟩ := h.all _ k1
   have e2 := (((h.row hr).1.mem _).1 hp).2
   rw [k2, h2] at e2
   exact hn r hr e2.symm
end Mrg
structure DirM (L : List (List Nod)) (R : List (List Pl)) (w : World) (F : ByteArray → Option Value) (i : Nat) : Prop where
 some : ∀ j, j < i → j < R.length → ∀ v, F (kyn (nmr L (rw' R j))) = some v → ∃ ao k c D, v = .slice ao k c ∧ Ps w ao k D ∧ k ≤ 1000000 ∧ D.map (·.1) = dirOf L (nmr L (rw' R j))
 none : ∀ j, j < i → j < R.length → F (kyn (nmr L (rw' R j))) = none → dirOf L (nmr L (rw' R j)) = []
 new : ∀ s, (F s).isSome = true → ∃ j, j < i ∧ j < R.length ∧ s = kyn (nmr L (rw' R j))
theorem dirM_new (L : List (List Nod)) (R : List (List Pl)) (w : World) : DirM L R w (fun _ => none) 0 := ⟨fun j hj => by omega, fun j hj => by omega, fun s hs => by simp at hs⟩
theorem DirM.keep {L : List (List Nod)} {R : List (List Pl)} {w w' : World} {F : ByteArray → Option Value} {i : Nat} (h : DirM L R w F i) (hk : KeepT 57 w w') : DirM L R w' F i :=
 ⟨fun j h1 h2 v hv => by
  obtain ⟨ao, k, c, D, e1, e2, e3, e4⟩ := h.some j h1 h2 v hv
  exact ⟨ao, k, c, D, e1, e2.keep hk, e3, e4⟩, h.none, h.new⟩
theorem DirM.look {L : List (List Nod)} (hB : ∀ t ∈ L, Br t) {R : List (List Pl)} (hT : Tog L R) {w : World} {F : ByteArray → Option Value} {i : Nat} (h : DirM L R w F i) (hi : i < R.length) (hm : nmr L (rw' R i) ≠ []) :
  ∃ ao k c D, (F (kyn (nmr L (rw' R i)).dropLast)).getD (.slice Option.none 0 0) = .slice ao k c ∧ Ps w ao k D ∧ k ≤ 1000000 ∧ D.map (·.1) = dirOf L (nmr L (rw' R i)).dropLast := by
 have hv := (hT.val hB (rw_mem hi)).drop
 cases e : F (kyn (nmr L (rw' R i)).dropLast) with
 | some v =>
  obtain ⟨j, j1, j2, j3⟩ := h.new _ (by rw [e]; rfl)
  have hj := kyn_inj hv (hT.val hB (rw_mem j2)) j3
  rw [hj] at e ⊢
  obtain ⟨ao, k, c, D, e1, e2, e3, e4⟩ := h.some j j1 j2 v e
  exact ⟨ao, k, c, D, e1, e2, e3, e4⟩
 | none =>
  refine ⟨Option.none, 0, 0, [], rfl, Ps.nil _ _, by omega, ?_⟩
  by_cases hr : ∃ r ∈ R, nmr L r = (nmr L (rw' R i)).dropLast
  ·obtain ⟨r, hr, er⟩ := hr
   obtain ⟨j, hj, rfl⟩ := List.getElem_of_mem hr
   have hl := less_drop hm
   rw [← er] at hl
   have hji : j < i := by
    rcases Nat.lt_trichotomy j i with q | q | q
    ·exact q
    ·subst q
     rw [← rw_lt hj, less_irrefl] at hl; cases hl
    ·have := List.pairwise_iff_getElem.1 hT.ltN i j hi hj q
     rw [← rw_lt hi] at this
     rw [less_asymm _ _ this] at hl; cases hl
   rw [← rw_lt hj] at er
   rw [← er] at e ⊢
   exact (h.none j hji hj e).symm
  ·exact (dirOf_nil hT hB (fun r hr' er => hr ⟨r, hr', er⟩)).symm
theorem Mrg.Tog.ne {L : List (List Nod)} {R : List (List Pl)} (hT : Tog L R) {i j : Nat} (h : j < i) (hi : i < R.length) : nmr L (rw' R j) ≠ nmr L (rw' R i) := fun e => by
 have := List.pairwise_iff_getElem.1 hT.ltN j i (by omega) hi h
 rw [← rw_lt hi, ← rw_lt (show j < R.length by omega), e, less_irrefl] at this
 cases this
theorem DirM.put {L : List (List Nod)} (hB : ∀ t ∈ L, Br t) {R : List (List Pl)} (hT : Tog L R) {w : World} {F : ByteArray → Option Value} {i : Nat} (h : DirM L R w F i) (hi : i < R.length) {ao : Option Addr} {k c : Nat} {D : List Pl} (hP : Ps w ao k D) (hk : k ≤ 1000000) (hD : D.map (·.1) = dirOf L (nmr L (rw' R i))) :
  DirM L R w (fun y => if y = kyn (nmr L (rw' R i)) then Option.some (.slice ao k c) else F y) (i + 1) := by
 have ne : ∀ j, j < i → kyn (nmr L (rw' R j)) ≠ kyn (nmr L (rw' R i)) := fun j hj e => hT.ne hj hi (kyn_inj (hT.val hB (rw_mem (by omega))) (hT.val hB (rw_mem hi)) e)
 refine ⟨fun j h1 h2 v hv => ?_, fun j h1 h2 hv => ?_, fun s hs => ?_⟩
 ·by_cases e : j = i
  ·subst e
   simp at hv
   exact ⟨ao, k, c, D, hv.symm, hP, hk, hD⟩
  ·rw [if_neg (ne j (by omega))] at hv
   exact h.some j (by omega) h2 v hv
 ·by_cases e : j = i
  ·subst e
   simp at hv
  ·rw [if_neg (ne j (by omega))] at hv
   exact h.none j (by omega) h2 hv
 ·by_cases e : s = kyn (nmr L (rw' R i))
  ·exact ⟨i, by omega, hi, e⟩
  ·rw [if_neg e] at hs
   obtain ⟨j, j1, j2, j3⟩ := h.new s hs
   exact ⟨j, by omega, j2, j3⟩
theorem DirM.skip {L : List (List Nod)} (hB : ∀ t ∈ L, Br t) {R : List (List Pl)} (hT : Tog L R) {w : World} {F : ByteArray → Option Value} {i : Nat} (h : DirM L R w F i) (hi : i < R.length) (hD : dirOf L (nmr L (rw' R i)) = []) : DirM L R w F (i + 1) := by
 refine ⟨fun j h1 h2 v hv => ?_, fun j h1 h2 hv => ?_, fun s hs => ?_⟩
 ·by_cases e : j = i
  ·subst e
   obtain ⟨j', j1, j2, j3⟩ := h.new _ (by rw [hv]; rfl)
   exact absurd (kyn_inj (hT.val hB (rw_mem hi)) (hT.val hB (rw_mem j2)) j3).symm (hT.ne j1 hi)
  ·exact h.some j (by omega) h2 v hv
 ·by_cases e : j = i
  ·subst e; exact hD
  ·exact h.none j (by omega) h2 hv
 ·obtain ⟨j, j1, j2, j3⟩ := h.new s hs
  exact ⟨j, by omega, j2, j3⟩
end Go.Proofs.Ytflohhefbbidcaa
namespace Go.Proofs.Ytflohhefbbidcaa
set_option maxRecDepth 100000
open Go.RowKit Go.Maps
open Nam Tre Mrg Stb Plc
def KeepCl (W w : World) : Prop := ∀ (k : Nat) (cs : Array Value) (t : TypeId) (fz : Nat × Nat), W.heap[k]? = some (Obj.cells cs t fz) → w.heap[k]? = some (Obj.cells cs t fz)
structure MI (L : List (List Nod)) (R : List (List Pl)) (w0 W5 : World) (db p mb d : Nat) (ks : List Lit) (am : Option Addr) (km cm : Nat) (P : List (Nv × Nod)) (F : ByteArray → Option Value) (sz : Nat) (wr : World) : Prop where
 cells : KeepCl W5 wr
 bel : Below w0.heap.size w0 wr
 size : W5.heap.size ≤ wr.heap.size
 le : w0.heap.size ≤ W5.heap.size
 dbl : w0.heap.size ≤ db
 mbl : w0.heap.size ≤ mb
 ne : mb ≠ db
 pl : p < W5.heap.size
 nu : NU wr p mb ks
 mp : MpS wr db sz F
 dir : DirM L R wr F d
 row : wr.ownsRow W5.heap.size 44 10 (.slice am km cm) km (nvs (P.map (·.1)))
 rep : ∀ q ∈ P, RepO wr W5.heap.size q.1 q.2
section
variable {L : List (List Nod)} {R : List (List Pl)} {w0 W5 wr wx : World} {db p mb d : Nat} {ks : List Lit} {am : Option Addr} {km cm : Nat} {P : List (Nv × Nod)} {F : ByteArray → Option Value} {sz : Nat}
theorem keepT_all (h : KeepCl wr wx) (e : TypeId) : KeepT e wr wx := fun i cur fz hi => h i cur e fz hi
theorem MI.to (h : MI L R w0 W5 db p mb d ks am km cm P F sz wr) (hc : KeepCl wr wx) (hb : Below w0.heap.size w0 wx) (hs : wr.heap.size ≤ wx.heap.size) {ks' : List Lit} (hn : NU wx p mb ks') {F' : ByteArray → Option Value} {sz' d' : Nat} (hm : MpS wx db sz' F') (hd : DirM L R wx F' d') : MI L R w0 W5 db p mb d' ks' am km cm P F' sz' wx :=
 ⟨fun k cs t fz hk => hc k cs t fz (h.cells k cs t fz hk), hb, Nat.le_trans h.size hs, h.le, h.dbl, h.mbl, h.ne, h.pl, hn, hm, hd, (keepT_all hc _).owns h.row, fun q hq => (h.rep q hq).keep (keepT_all hc _) (keepT_all hc _) (keepT_all hc _)⟩
theorem keepCl_below (hb : Below wr.heap.size wr wx) : KeepCl wr wx := fun k cs t fz hk => (hb.block k (heap_lt hk)).trans hk
theorem MI.below (h : MI L R w0 W5 db p mb d ks am km cm P F sz wr) (hb : Below wr.heap.size wr wx) : MI L R w0 W5 db p mb d ks am km cm P F sz wx :=
 h.to (keepCl_below hb) (h.bel.trans (hb.mono h.bel.size)) hb.size (h.nu.below hb) (h.mp.same (hb.block _ h.mp.lt)) (h.dir.keep (keepT_all (keepCl_below hb) _))
theorem MpS.ne (h : MpS wr db sz F) {c : Nat} {cs : Array Value} {t : TypeId} {fz : Nat × Nat} (hk : wr.heap[c]? = some (.cells cs t fz)) : c ≠ db := by
 obtain ⟨G, h1, _⟩ := h
 exact h1.ne hk
theorem NU.mne (h : NU wr p mb ks) {c : Nat} {cs : Array Value} {t : TypeId} {fz : Nat × Nat} (hk : wr.heap[c]? = some (.cells cs t fz)) : c ≠ mb := fun e => by
 obtain ⟨D, ⟨es, clock, h1, _⟩, _⟩ := h.mp
 rw [e, h1] at hk
 cases hk
theorem MI.mapped (h : MI L R w0 W5 db p mb d ks am km cm P F sz wr) (hg : wr.grownBy wx (some db)) {F' : ByteArray → Option Value} {sz' d' : Nat} (hm : MpS wx db sz' F') (hd : DirM L R wx F' d') : MI L R w0 W5 db p mb d' ks am km cm P F' sz' wx := by
 have hc : KeepCl wr wx := fun k cs t fz hk => (hg.block k (heap_lt hk) (by have := h.mp.ne hk; simp; exact this)).trans hk
 have hp : p < wr.heap.size := World.block_lt_of_cell? wr _ h.nu.cell
 have hpc : wx.heap[p]? = wr.heap[p]? := hg.block p hp (by
  simp
  intro e
  obtain ⟨G, ⟨D, ⟨es, clock, h1, _⟩, _⟩, _⟩ := h.mp
  have := h.nu.cell
  rw [e] at this
  unfold World.cell? at this
  rw [h1] at this
  simp at this)
 exact h.to hc (h.bel.grown hg h.bel.size (fun k e => by cases e; exact h.dbl)) hg.size (h.nu.cells hpc (hg.block _ h.nu.mp.lt (by simp; exact h.ne))) hm hd
theorem MI.num (h : MI L R w0 W5 db p mb d ks am km cm P F sz wr) (hg : wr.grownBy wx (some mb)) {ks' : List Lit} (hn : NU wx p mb ks') : MI L R w0 W5 db p mb d ks' am km cm P F sz wx := by
 have hc : KeepCl wr wx := fun k cs t fz hk => (hg.block k (heap_lt hk) (by have := h.nu.mne hk; simp; exact this)).trans hk
 exact h.to hc (h.bel.grown hg h.bel.size (fun k e => by cases e; exact h.mbl)) hg.size hn (h.mp.same (hg.block _ h.mp.lt (by simp; exact fun e => h.ne e.symm))) (h.dir.keep (keepT_all hc _))
theorem MI.cell (h : MI L R w0 W5 db p mb d ks am km cm P F sz wr) {q : Nat} {cs : Array Value} {fz : Nat × Nat} (hq : wr.heap[q]? = some (.cells cs 44 fz)) (h5 : W5.heap.size ≤ q) (hne : (Value.slice am km cm).ownBlock ≠ some q) (k : Nat) (v : Value) : MI L R w0 W5 db p mb d ks am km cm P F sz (wr.setCell ⟨q, k, none⟩ v) := by
 have hb : ∀ i, i ≠ q → (wr.setCell ⟨q, k, none⟩ v).heap[i]? = wr.heap[i]? := fun i hi => set_other _ _ _ _ _ hi
 have kt : ∀ e, e ≠ 44 → KeepT e wr (wr.setCell ⟨q, k, none⟩ v) := fun e he i cur fz' hi => by
  rw [hb i (fun e2 => by
   rw [e2, hq] at hi
   injection hi with hi
   injection hi with _ hi _
   exact he hi.symm)]
  exact hi
 have hp : p ≠ q := by have := h.pl; omega
 have hm : mb ≠ q := fun e => h.nu.mne hq e.symm
 have hd : db ≠ q := fun e => h.mp.ne hq e.symm
 refine ⟨fun i cs' t fz' hi => ?_, h.bel.setCell (p := ⟨q, k, none⟩) (by show w0.heap.size ≤ q; have := h.le; omega) _, by simp; exact h.size, h.le, h.dbl, h.mbl, h.ne, h.pl, h.nu.cells (hb _ hp) (hb _ hm), h.mp.same (hb _ hd), h.dir.keep (kt _ (by decide)), ?_, fun x hx => (h.rep x hx).keep (kt _ (by decide)) (kt _ (by decide)) (kt _ (by decide))⟩
 ·have := heap_lt hi
  rw [hb i (by omega)]
  exact h.cells i cs' t fz' hi
 ·refine ⟨h.row.1, ?_⟩
  rcases h.row.2 with h0 | ⟨g, cap, cur, e1, e2, e3, r⟩
  ·exact .inl h0
  ·have hgq : g ≠ q := fun e => hne (by rw [e1, ← e]; rfl)
   exact .inr ⟨g, cap, cur, e1, e2, (hb _ hgq).trans e3, r⟩
theorem MI.app (h : MI L R w0 W5 db p mb d ks am km cm P F sz wr) (hg : wr.grownBy wx (Value.slice am km cm).ownBlock) {am' : Option Addr} {cm' : Nat} {u : Nv} {x : Nod} (hr : RepO wr W5.heap.size u x) (ho : wx.ownsRow W5.heap.size 44 10 (.slice am' (km + 1) cm') (km + 1) (nvs (P.map (·.1) ++ [u]))) : MI L R w0 W5 db p mb d ks am' (km + 1) cm' (P ++ [(u, x)]) F sz wx := by
 have own : ∀ i, (Value.slice am km cm).ownBlock = some i → W5.heap.size ≤ i ∧ ∃ cur, wr.heap[i]? = some (.cells cur 44 (0, 0)) := fun i hi => ⟨(h.row.lt i hi).1, owns_obj h.row hi⟩
 have kt : ∀ e, e ≠ 44 → KeepT e wr wx := fun e he => (KeepT.refl e wr).grown hg fun k hk cur fz hh => by
  obtain ⟨_, c2, q2⟩ := own k hk
  rw [q2] at hh
  injection hh with hh
  injection hh with _ hh _
  exact he hh.symm
 have hp : wx.heap[p]? = wr.heap[p]? := hg.block p (World.block_lt_of_cell? wr _ h.nu.cell) (fun e => by have := (own p e.symm).1; have := h.pl; omega)
 have hm : wx.heap[mb]? = wr.heap[mb]? := hg.block mb h.nu.mp.lt (fun e => by obtain ⟨_, c, q⟩ := own mb e.symm; exact h.nu.mne q rfl)
 have hd : wx.heap[db]? = wr.heap[db]? := hg.block db h.mp.lt (fun e => by obtain ⟨_, c, q⟩ := own db e.symm; exact h.mp.ne q rfl)
 refine ⟨fun i cs' t fz' hi => ?_, h.bel.grown hg h.bel.size (fun k e => Nat.le_trans h.le (own k e).1), Nat.le_trans h.size hg.size, h.le, h.dbl, h.mbl, h.ne, h.pl, h.nu.cells hp hm, h.mp.same hd, h.dir.keep (kt _ (by decide)), by rw [List.map_append]; exact ho, fun y hy => ?_⟩
 ·have hlt := heap_lt hi
  have hw := h.cells i cs' t fz' hi
  rw [hg.block i (heap_lt hw) (fun e => by have := (own i e.symm).1; omega)]
  exact hw
 ·rcases List.mem_append.1 hy with hy | hy
  ·exact (h.rep y hy).keep (kt _ (by decide)) (kt _ (by decide)) (kt _ (by decide))
  ·rw [List.mem_singleton.1 hy]
   exact hr.keep (kt _ (by decide)) (kt _ (by decide)) (kt _ (by decide))
theorem KeepCl.psr {W w : World} (h : KeepCl W w) (hs : W.heap.size ≤ w.heap.size) {ao : Option Addr} {n : Nat} {V : List Sp} {R : List (List Pl)} (hp : PsR W ao n V R) : PsR w ao n V R := by
 refine ⟨hp.1, hp.2.1, ?_⟩
 rcases hp.2.2 with h0 | ⟨b, off, h1, h2, h3⟩
 ·exact .inl h0
 ·refine .inr ⟨b, off, h1, by omega, fun i hi => ⟨?_, (h3 i hi).2.1, (h3 i hi).2.2.keep (keepT_all h _)⟩⟩
  have hc := (h3 i hi).1
  have : w.heap[b]? = W.heap[b]? := by
   unfold World.cell? at hc
   cases e : W.heap[b]? with
   | none => rw [e] at hc; simp at hc
   | some o =>
    cases o with
    | cells cs t fz => exact h b cs t fz e
    | _ => rw [e] at hc; simp at hc
  exact (World.cell?_of_block this).trans hc
end
end Go.Proofs.Ytflohhefbbidcaa
namespace Go.Proofs.Ytflohhefbbidcaa
set_option maxRecDepth 100000
open Go.RowKit Go.Maps
open Nam Tre Mrg Stb Plc
theorem leanB_of {w : World} {v : Nv} {x : Nod} (hr : Rep w v x) (hm : mayB x = true) (hs : x.names.length ≤ 16) : Lean1 v x := by
 unfold mayB at hm
 split at hm
 ·simp only [decide_eq_true_eq] at hm
  obtain ⟨_, h1, _, h2, _⟩ := hm
  refine ⟨by rw [← hr.names.1]; omega, by rw [← hr.data.1]; omega, by rw [← hr.xs.1]; omega, fun y hy => ?_⟩
  have : x.xs = [] := List.eq_nil_of_length_eq_zero h2
  rw [this] at hy; simp at hy
 ·split at hm
  ·have hr' : Rep w { v with op := false } { x with opq := false } := { hr with op := rfl }
   have := lean_of hr' hm hs
   exact ⟨this.nn, this.dn, this.xn, this.xv⟩
  ·exact lean_of hr hm hs
theorem rise_len : ∀ {l : List Nat} {n : Nat}, l.Pairwise (· < ·) → (∀ x ∈ l, x < n) → l.length ≤ n
 | [], _, _, _ => Nat.zero_le _
 | x :: r, 0, _, h => by have := h x (by simp); omega
 | x :: r, n + 1, hp, h => by
  rw [List.pairwise_cons] at hp
  have h2 : ∀ y ∈ r.map (· - 1), y < n := fun y hy => by
   obtain ⟨z, hz, rfl⟩ := List.mem_map.1 hy
   have := h z (by simp [hz])
   have := hp.1 z hz
   omega
  have h3 : (r.map (· - 1)).Pairwise (· < ·) := by
   rw [List.pairwise_map]
   exact hp.2.imp_of_mem fun {a b} ha hb q => by
    have := hp.1 a ha
    have := hp.1 b hb
    omega
  have := rise_len h3 h2
  rw [List.length_map] at this
  simp; omega
theorem zeroPls (w : World) : (zeroValue 54).run Try.prog w = .ok (.slice none 0 0) w := by kernel_rfl
theorem inL_of {w : World} {a : Option Addr} {n : Nat} {Q : List Ly} (hq : NsR w a n Q) (hn : n ≤ 1000) : InL (lys Q) := by
 refine ⟨by simp [lys]; rw [hq.1]; omega, fun t ht x hx => ?_⟩
 simp only [lys, List.mem_map] at ht
 obtain ⟨y, hy, rfl⟩ := ht
 simp only [nds, List.mem_map] at hx
 obtain ⟨q, hq2, rfl⟩ := hx
 have := (hq.2.1 y hy).ns.2.1 q hq2
 rw [this.ino]; exact this.in64
theorem ofs_thr (L : List (List Nod)) (m : List ByteArray) (r : List Pl) : ofs L m r = mad L (if m = [] then r else ofL r (dirOf L m.dropLast)) := by
 unfold ofs; split <;> rfl
set_option maxHeartbeats 4000000 in
theorem merge_any (a : Option Addr) (n c : Nat) (Q : List Ly) (w : World) (hq : NsR w a n Q) (hn : n ≤ 1000) (ht : cntP Q n ≤ 1000) (hB : ∀ t ∈ lys Q, Br t) :
  Calls Try.prog 7 #[.slice a n c] w fun e w' => ∃ ao k c' P, e = .returned (.slice ao k c') ∧ w'.ownsRow w.heap.size 44 10 (.slice ao k c') k (nvs (P.map (·.1))) ∧ Ns w' ao k P ∧ k ≤ 1000 ∧ IsMerge (lys Q) (nds P) ∧ Below w.heap.size w w' := by
 have HQ := hide hq
 have HBr := hide hB
 have HIL := hide (inL_of hq hn)
 have HNn : Hid (∀ l k, InQ Q l k → ValN (gp Q l k).2.names ∧ Lean1 (gp Q l k).1 (gp Q l k).2) := fun l k hi => by
  have hok := (inq_ok hq (l, k)).2 hi
  have hr := hq.rep hi
  have hv := valN_of hB hok
  rw [gp_nat] at hv
  have hm := (hB _ (ly_mem hok.1)).may _ (nat_mem hok)
  rw [gp_nat] at hm
  exact ⟨hv, leanB_of hr hm hv.2⟩
 have hs : ∀ l k, InQ Q l k → (gp Q l k).1.nn ≤ 1000000 := fun l k hi => by
  rw [← (hq.rep hi).names.1]
  have := (HNn.out l k hi).1.2
  omega
 obtain ⟨w1, hw1⟩ : ∃ w1, w1 = w.alloc (.map #[] 0) := ⟨_, rfl⟩
 have HB1 : Hid (Below w.heap.size w w1) := by rw [hw1]; exact below_one _ _
 have HM1 : Hid (MpS w1 w.heap.size 0 (fun _ => none)) := by rw [hw1]; exact MpS.new w
 have HS1 : Hid (w1.heap.size = w.heap.size + 1) := by rw [hw1]; exact World.size_alloc _ _
 have HN := hide (numbers_any w1)
 have HT : Hid (∀ W, Below w.heap.size w W → Calls Try.prog 21 #[.slice a n c] W fun e w' => ∃ ao m mc V R, e = .returned (.slice ao m mc) ∧ PsR w' ao m V R ∧ m ≤ 1000 ∧ Tog (lys Q) R ∧ Below W.heap.size W w') := fun W hW => together_any a n c Q W (HQ.out.below hW) hn hs ht (fun t ht => (hB t ht).nodup)
 have hmm := @run_makeMap Try.prog
 clear hq hB ht hs
 go_enter Try.func7, Try.ntmps7
 go_upto_region 3 with fail
 rw [← hw1]
 clear hw1 hmm
 go_wp2_with (first
  | (go_at_call 21; refine (HT.out _ (HB1.out.trans (HB2.out.mono HB1.out.size))).mono ?_; rintro e W5 ⟨aR, mR, cR, V, R, rfl, hP5, hm5, hT5, hb5⟩; have HP5 := hide hP5; have HT5 := hide hT5; have HB5 := hide hb5; clear hP5 hT5 hb5)
  | (go_at_call 20; refine HN.out.mono ?_; rintro e w2 ⟨p, mb, rfl, hn2, hp2, hm2, hb2⟩; have HN2 := hide hn2; have HB2 := hide hb2; clear hn2 hb2))
 have HMI : Hid (MI (lys Q) R w W5 w.heap.size p mb 0 (kOf (toldR (lys Q) (R.take 0))) none 0 0 [] (fun _ => none) 0 W5) := by
  have hb15 := HB1.out.trans (HB2.out.mono HB1.out.size)
  have hmp2 := HM1.out.same (HB2.out.block _ HM1.out.lt)
  refine ⟨fun k cs t fz h => h, hb15.trans (HB5.out.mono hb15.size), Nat.le_refl _, ?_, Nat.le_refl _, ?_, ?_, ?_, HN2.out.below HB5.out, hmp2.same (HB5.out.block _ hmp2.lt), dirM_new _ _ _, nilN _ _, fun q hq => by simp at hq⟩
  ·exact Nat.le_trans hb15.size HB5.out.size
  ·have := HS1.out; omega
  ·have := HS1.out; omega
  ·have h1 := World.block_lt_of_cell? w2 _ HN2.out.cell
   have := HB5.out.size
   exact Nat.lt_of_lt_of_le h1 this
 clear HM1 HS1 HN HT hp2 hm2 HN2 HB1 HB2 HB5
 go_loopw [6, 8, 9, 10, 11, 12, 19] (fun r6 _ _ _ _ _ r19 wr => ∃ (i km : Nat) (am : Option Addr) (cm : Nat) (P : List (Nv × Nod)) (F : ByteArray → Option Value) (sz : Nat), r19 = .int .i64 i ∧ r6 = .slice am km cm ∧ i ≤ mR ∧ km ≤ i ∧ sz ≤ i ∧ MI (lys Q) R w W5 w.heap.size p mb i (kOf (toldR (lys Q) (R.take i))) am km cm P F sz wr ∧ nds P = out (toldR (lys Q) (R.take i))) (fun _ _ _ _ _ _ r19 _ => mR - (intOf r19).toNat)
 case atStart => exact ⟨0, 0, none, 0, [], _, 0, rfl, rfl, Nat.zero_le _, Nat.le_refl _, Nat.le_refl _, HMI.out, rfl⟩
 case round =>
  obtain ⟨i, km, am, cm, P, F, sz, rfl, rfl, hi0, hkm, hsz, hMI, hnd⟩ := hrel
  have HM := hide hMI
  have HND := hide hnd
  clear hMI hnd HMI
  by_cases hi : i < mR
  ·have hdx : decide ((i : Int) < mR) = true := by simpa using hi
   have hRl : R.length = mR := HP5.out.2.1
   obtain ⟨b, off, rfl, hbl, hcs⟩ : ∃ b off, aR = some ⟨b, off, none⟩ ∧ b < wr.heap.size ∧ ∀ j, j < mR → wr.cell? ⟨b, off + j, none⟩ = some (.slice (gsp V j).a (gsp V j).n (gsp V j).c) ∧ (gsp V j).n ≤ (gsp V j).c ∧ Ps wr (gsp V j).a (gsp V j).n (R.getD j []) := by
    rcases (HM.out.cells.psr HM.out.size HP5.out).2.2 with h0 | h0
    ·omega
    ·exact h0
   obtain ⟨cr, hsc, hPs⟩ := hcs i hi
   obtain ⟨r, hr⟩ : ∃ r, r = rw' R i := ⟨_, rfl⟩
   have hPs' : Ps wr (gsp V i).a (gsp V i).n r := by rw [hr]; exact hPs
   have hrm : r ∈ R := by rw [hr]; exact rw_mem (by omega)
   obtain ⟨hrow, hrne⟩ := HT5.out.row hrm
   have hval := HT5.out.val HBr.out hrm
   obtain ⟨m, hm⟩ : ∃ m, m = nmr (lys Q) r := ⟨_, rfl⟩
   rw [← hm] at hrow hval
   generalize gsp V i = sp at *
   obtain ⟨sa, sn, sc⟩ := sp
   simp only at cr hsc hPs'
   have hsn : 0 < sn := by
    rcases Nat.eq_zero_or_pos sn with q | q
    ·exact absurd (List.eq_nil_of_length_eq_zero (by rw [hPs'.1, q])) hrne
    ·exact q
   have hall : ∀ p ∈ r, InQ Q p.1 p.2 := fun p hp => (inq_ok HQ.out p).1 ((hrow.mem p).1 hp).1
   have hlr : sn ≤ 1000 := by
    have h1 := hrow.rise
    have h2 : (r.map (·.1)).Pairwise (· < ·) := by rw [List.pairwise_map]; exact h1
    have h3 : (r.map (·.1)).length ≤ n := rise_len h2 (fun x hx => by
     obtain ⟨p, hp, rfl⟩ := List.mem_map.1 hx
     rw [← HQ.out.1]; exact (hall p hp).1)
    rw [List.length_map, hPs'.1] at h3
    omega
   have hp0 : gq r 0 ∈ r := by rw [gq_lt r 0 (by rw [hPs'.1]; exact hsn)]; exact List.getElem_mem _
   have hi0q := hall _ hp0
   obtain ⟨b2, off2, rfl, hb2l, hc2⟩ := hPs'.at hsn
   obtain ⟨c1, c2⟩ := hc2 0 hsn
   simp only [Nat.zero_mul, Nat.add_zero] at c1 c2
   have HA : Hid (∀ W, Below wr.heap.size wr W → Calls Try.prog 22 #[.slice a n c, .agg #[.int .i64 ((gq r 0).1 : Int), .int .i64 ((gq r 0).2 : Int)]] W fun e w' => e = .returned (.agg (gp Q (gq r 0).1 (gq r 0).2).1.cells) ∧ Below W.heap.size W w') := fun W hW => pat_any a n c Q _ _ W (HQ.out.below (HM.out.bel.trans (hW.mono HM.out.bel.size))) hi0q (by omega)
   have hrep := HQ.out.rep hi0q
   have hnames : (gp Q (gq r 0).1 (gq r 0).2).2.names = m := by
    rw [← gp_nat]
    exact ((hrow.mem _).1 hp0).2
   have hRs := hrep.names
   rw [hnames] at hRs
   have hnc := hrep.nc
   have hnn : (gp Q (gq r 0).1 (gq r 0).2).1.nn ≤ 16 := by rw [← hRs.1]; exact hval.2
   have HRS : Hid (∀ W, Below wr.heap.size wr W → Rs W (gp Q (gq r 0).1 (gq r 0).2).1.na (gp Q (gq r 0).1 (gq r 0).2).1.nn m) := fun W hW => by
    have := (HQ.out.below (HM.out.bel.trans (hW.mono HM.out.bel.size))).names hi0q
    rw [hnames] at this; exact this
   have hF0 := field_nod0 (gp Q (gq r 0).1 (gq r 0).2).1
   generalize (gp Q (gq r 0).1 (gq r 0).2).1 = v at *
   generalize (gq r 0).1 = x0 at *
   generalize (gq r 0).2 = y0 at *
   have HPS := hide hPs'
   have HROW := hide hrow
   have HVAL := hide hval
   have HALL := hide hall
   have HMQ := hide hm
   have HRQ := hide hr
   clear hPs hPs' hrow hval hall hm hr hrm hrne hp0 hi0q hrep hnames hRs hcs hbl hc2 hb2l hRl
   unfold Nv.cells at *
   obtain ⟨vna, vnn, vnc, vino, vkind, vmode, vuid, vgid, vda, vdn, vdc, vtg, vxa, vxn, vxc, vop⟩ := v
   simp only at HA HRS hF0 hnc hnn
   have hi1 : (i : Int) < mR := by omega
   have hi2 : (0 : Int) < sn := by omega
   have hx1 : IntKind.i64.wrap ((vnn : Int) - 1) = (vnn : Int) - 1 := IntWalk.i64_in _ (by omega)
   go_upto_if 33 with (go_at_call 22; refine (HA.out _ (Below.refl _ _)).mono ?_; rintro e w3 ⟨rfl, hb3⟩; have HB3 := hide hb3; clear hb3)
   have HM3 := hide (HM.out.below HB3.out)
   obtain ⟨thr, hthr⟩ : ∃ thr, thr = (if m = [] then r else ofL r (dirOf (lys Q) m.dropLast)) := ⟨_, rfl⟩
   have HTHR := hide hthr
   have HRi : Hid (i < R.length) := by
    have h := HP5.out.2.1
    show i < R.length
    omega
   clear hthr HA
   go_cut [8] from 33 to 41 (fun s8 wx => ∃ ao k mc, s8 = .slice ao k mc ∧ Ps wx ao k thr ∧ k ≤ mc ∧ k ≤ 1000 ∧ Below w3.heap.size w3 wx)
   case first =>
    by_cases hme : m = []
    ·have hn0 : vnn = 0 := by have := (HRS.out wr (Below.refl _ _)).1; rw [hme] at this; exact this.symm
     have hd1 : decide ((1 : Int) ≤ vnn) = false := by simp; omega
     have hd2 : ¬ (1 : Int) ≤ vnn := by omega
     have HF : Hid (Ps w3 (some ⟨b2, off2, none⟩) sn thr) := by
      show Ps _ _ _ _
      rw [HTHR.out, if_pos hme]; exact HPS.out.below HB3.out
     clear hme hn0
     go_wp2_with fail
     go_meet
     exact ⟨_, _, _, rfl, HF.out, hsc, hlr, Below.refl _ _⟩
    ·have hn0 : 0 < vnn := by
      have h1 := (HRS.out wr (Below.refl _ _)).1
      rcases Nat.eq_zero_or_pos vnn with q | q
      ·exact absurd (List.eq_nil_of_length_eq_zero (by rw [h1, q])) hme
      ·exact q
     have hd1 : decide ((1 : Int) ≤ vnn) = true := by simp; omega
     have hnl2 : (vnn : Int) - 1 ≤ (vnc : Int) := by omega
     have hnl3 : (0 : Int) ≤ (vnn : Int) - 1 := by omega
     have HJ : Hid (∀ W, Below wr.heap.size wr W → Calls Try.prog 24 #[.slice vna (vnn - 1) vnc] W fun e w' => e = .returned (.string (kyn m.dropLast)) ∧ Below W.heap.size W w') := fun W hW => by
      have h1 := (HRS.out W hW).take (vnn - 1) (by omega)
      have e : m.take (vnn - 1) = m.dropLast := by rw [List.dropLast_eq_take, (HRS.out wr (Below.refl _ _)).1]
      rw [e] at h1
      exact Join_any _ _ _ _ W h1 (by omega) HVAL.out.drop.len
     have HLK : Hid (∀ W, Below w3.heap.size w3 W → ∃ la lk lc LD, (Instr.lookup 49 (.map (some w.heap.size)) (.string (kyn m.dropLast)) false).run Try.prog W = .ok (.slice la lk lc) W ∧ Ps W la lk LD ∧ lk ≤ 1000000 ∧ LD.map (·.1) = dirOf (lys Q) m.dropLast) := fun W hW => by
      have hM := HM3.out.below hW
      have hg := hM.mp.get Try.underlying49 (zeroPls W) (kyn_size HVAL.out.drop)
      obtain ⟨la, lk, lc, LD, h1, h2, h3, h4⟩ := hM.dir.look HBr.out HT5.out HRi.out (by rw [← HRQ.out, ← HMQ.out]; exact hme)
      rw [← HRQ.out, ← HMQ.out] at h1 h4
      rw [h1] at hg
      exact ⟨la, lk, lc, LD, hg, h2, h3, h4⟩
     have HTE : Hid (thr = ofL r (dirOf (lys Q) m.dropLast)) := HTHR.out.trans (if_neg hme)
     clear hme hn0
     go_wp2_with (first
      | (have hx4 := HL4.out; clear hx4; go_at_call 23; refine (ofLayers_any _ _ _ r _ _ _ LD w4 (HPS.out.below (HB3.out.trans (HB4.out.mono HB3.out.size))) HL4.out.1 (by omega) HL4.out.2.1 (by rw [HL4.out.2.2]; exact dirOf_rise _ _)).mono ?_; rintro e w5 ⟨ao5, k5, c5, rfl, ho5, hb5⟩; have HO5 := hide ho5; have HB5 := hide hb5; clear ho5 hb5)
      | (go_at_call 24; refine (HJ.out _ HB3.out).mono ?_; rintro e w4 ⟨rfl, hb4⟩; have HB4 := hide hb4; obtain ⟨la, lk, lc, LD, hlk, hl1, hl2, hl3⟩ := HLK.out w4 hb4; have HL4 := hide (And.intro hl1 (And.intro hl2 hl3)); clear hb4 hl1 hl2 hl3))
     go_meet
     have hfin : Ps w5 ao5 k5 thr ∧ k5 ≤ c5 ∧ k5 ≤ 1000 := by
      have h1 := ps_of_owns HO5.out
      rw [HL4.out.2.2, ← HTE.out] at h1
      refine ⟨h1, (cap_owns HO5.out).1, ?_⟩
      have h2 := ofL_len r (dirOf (lys Q) m.dropLast)
      rw [← HTE.out, h1.1, HPS.out.1] at h2
      omega
     exact ⟨_, _, _, rfl, hfin.1, hfin.2.1, hfin.2.2, HB4.out.trans (HB5.out.mono HB4.out.size)⟩
   case rest =>
    obtain ⟨ao, k, mc, rfl, hthp, hkmc, hk1, hbc⟩ := hcut
    have HTP := hide hthp
    have HBC := hide hbc
    have HMc := hide (HM3.out.below hbc)
    have HWC := hide (HMc.out.bel)
    have HALT : Hid (AllQ Q thr) := fun q hq => by
     rw [HTHR.out] at hq
     split at hq
     ·exact HALL.out q hq
     ·exact HALL.out q (List.mem_filter.1 hq).1
    have HMD := hide (made_any a n c Q ao k mc thr wc (HQ.out.below HWC.out) (by omega) hthp (by omega) hkmc HALT.out)
    obtain ⟨O, hO⟩ : ∃ O, O = ofs (lys Q) m r := ⟨_, rfl⟩
    have HO := hide hO
    have HOM : Hid (O = mad (lys Q) thr) := by show _ = _; rw [hO, ofs_thr, HTHR.out]
    have HID : Hid (∀ W k2, k2 = cutN (lys Q) thr true → Below wc.heap.size wc W → k2 ≤ k ∧ Ps W ao k2 O ∧ Calls Try.prog 26 #[.slice a n c, .slice ao k2 mc] W fun e w' => e = .returned (.bool (isD (lys Q) O)) ∧ Below W.heap.size W w') := fun W k2 hk2 hW => by
     have hle : k2 ≤ k := by rw [hk2, ← HTP.out.1]; exact cutN_le _ _
     have hp := (HTP.out.below hW).take k2 hle
     have e : thr.take k2 = O := by rw [HOM.out, hk2]; rfl
     rw [e] at hp
     have hal : AllQ Q O := fun q hq => HALT.out q (by rw [← e] at hq; exact List.mem_of_mem_take hq)
     exact ⟨hle, hp, pisDir_any a n c Q ao k2 mc O W (HQ.out.below (HWC.out.trans (hW.mono HWC.out.size))) (by omega) hp (by omega) hal⟩
    obtain ⟨bd, hbd⟩ : ∃ bd, bd = isD (lys Q) O := ⟨_, rfl⟩
    have HBD := hide hbd
    rw [← hbd] at HID
    clear hthp hbc hO hbd
    go_upto_if 47 with (first
     | (have hx5 := HB5.out; clear hx5; go_at_call 26; refine (HID.out _ _ HK2.out HB5.out).2.2.mono ?_; rintro e w6 ⟨rfl, hb6⟩; have HB6 := hide (HB5.out.trans (hb6.mono HB5.out.size)); clear hb6)
     | (go_at_call 25; refine HMD.out.mono ?_; rintro e w5 ⟨k2, rfl, hk2, hb5⟩; have HB5 := hide hb5; have HK2 := hide hk2; clear hb5 hk2))
    have HDO : Hid (dirOf (lys Q) m = if bd = true then O.map (·.1) else []) := by
     have := ofs_dir HBr.out HROW.out
     rw [← HO.out, ← HBD.out] at this
     exact this
    have HM6 := hide (HMc.out.below HB6.out)
    have HP6 := hide (HID.out w6 k2 HK2.out HB6.out).2.1
    have hk2k := (HID.out w6 k2 HK2.out HB6.out).1
    have HKY : Hid (kyn m = kyn (nmr (lys Q) (rw' R i))) := by show _ = _; rw [HMQ.out, HRQ.out]
    have HDM : Hid (dirOf (lys Q) m = dirOf (lys Q) (nmr (lys Q) (rw' R i))) := by show _ = _; rw [HMQ.out, HRQ.out]
    clear HID HMD
    go_cut [] from 47 to 51 (fun wx => ∃ F' sz', sz' ≤ i + 1 ∧ MI (lys Q) R w W5 w.heap.size p mb (i + 1) (kOf (toldR (lys Q) (R.take i))) am km cm P F' sz' wx ∧ Ps wx ao k2 O)
    case first =>
     cases bd with
     | true =>
      have HJ : Hid (∀ W, Below wr.heap.size wr W → Calls Try.prog 24 #[.slice vna vnn vnc] W fun e w' => e = .returned (.string (kyn m)) ∧ Below W.heap.size W w') := fun W hW => Join_any _ _ _ _ W (HRS.out W hW) (by omega) HVAL.out.len
      have HBR6 : Hid (Below wr.heap.size wr w6) := by
       have h1 := HB3.out.trans (HBC.out.mono HB3.out.size)
       exact h1.trans (HB6.out.mono h1.size)
      have HST : Hid (∀ W, Below w6.heap.size w6 W → ∃ w8, (Instr.mapUpdate 49 (.map (some w.heap.size)) (.string (kyn m)) (.slice ao k2 mc)).run Try.prog W = .ok () w8 ∧ ∃ F' sz', sz' ≤ i + 1 ∧ MI (lys Q) R w W5 w.heap.size p mb (i + 1) (kOf (toldR (lys Q) (R.take i))) am km cm P F' sz' w8 ∧ Ps w8 ao k2 O) := fun W hW => by
       have hM := HM6.out.below hW
       obtain ⟨w8, q1, q2, q3⟩ := hM.mp.store Try.underlying49 (kyn_size HVAL.out) (by omega) (.slice ao k2 mc)
       have hkc : KeepCl W w8 := fun k cs t fz hk => (q3.block k (heap_lt hk) (by simp; exact hM.mp.ne hk)).trans hk
       have hP8 := (HP6.out.below hW).keep (keepT_all hkc _)
       have hd8 := (hM.dir.keep (keepT_all hkc _)).put HBr.out HT5.out HRi.out hP8 (by omega) (c := mc) (by rw [← HDM.out, HDO.out, if_pos rfl])
       rw [← HKY.out] at hd8
       exact ⟨w8, q1, _, _, by split <;> omega, hM.mapped q3 q2 hd8, hP8⟩
      go_wp2_with (go_at_call 24; refine (HJ.out _ HBR6.out).mono ?_; rintro e w7 ⟨rfl, hb7⟩; obtain ⟨w8, hrun8, h8⟩ := HST.out w7 hb7; have H8 := hide h8; clear hb7 h8)
      go_meet
      exact H8.out
     | false =>
      have hd7 := HM6.out.dir.skip HBr.out HT5.out HRi.out (by rw [← HDM.out, HDO.out, if_neg (by simp)])
      have HF := hide (HM6.out.to (fun k cs t fz h => h) HM6.out.bel (Nat.le_refl _) HM6.out.nu HM6.out.mp hd7)
      clear hd7
      go_wp2_with fail
      go_meet
      exact ⟨F, sz, by omega, HF.out, HP6.out⟩
    case rest =>
     obtain ⟨F', sz', hsz', hM', hP'⟩ := hcut
     have HMx := hide hM'
     have HPx := hide hP'
     have hkO : O.length = k2 := hP'.1
     have HTT : Hid (toldR (lys Q) (R.take (i + 1)) = toldR (lys Q) (R.take i) ++ (toldOf (lys Q) m r).toList) := by
      have hlt : i < R.length := HRi.out
      show _ = _
      rw [List.take_succ_eq_append_getElem hlt, toldR_append, ← rw_lt hlt, ← HRQ.out, ← HMQ.out]
     clear hM' hP' HM6 HP6 HDO HDM HKY HB6 HBC HMc HTP HALT HTHR
     by_cases hk0 : k2 = 0
     ·subst hk0
      have HTN : Hid (toldR (lys Q) (R.take (i + 1)) = toldR (lys Q) (R.take i)) := by
       have e : O = [] := List.eq_nil_of_length_eq_zero hkO
       have e2 : toldOf (lys Q) m r = none := by unfold toldOf; rw [← HO.out, e]; rfl
       show _ = _
       rw [HTT.out, e2]; simp
      go_wp2_with fail
      exact ⟨⟨i + 1, km, am, cm, P, F', sz', by go_num, rfl, by omega, by omega, hsz', by rw [HTN.out]; exact HMx.out, by rw [HTN.out]; exact HND.out⟩, by simp [intOf]; omega⟩
     ·have hk00 : 0 < k2 := by omega
      have hd3 : decide ((k2 : Int) > 0) = true := by simp; omega
      have hd4 : decide (0 < k2) = true := by simp; omega
      have hi3 : (0 : Int) < k2 := by omega
      obtain ⟨q0, hq0⟩ : ∃ q0, q0 = gq O 0 := ⟨_, rfl⟩
      have hqO : q0 ∈ O := by rw [hq0, gq_lt O 0 (by omega)]; exact List.getElem_mem _
      have hqi : InQ Q q0.1 q0.2 := HALL.out q0 (ofs_sub q0 (by rw [← HO.out]; exact hqO))
      obtain ⟨x, hx⟩ : ∃ x, x = (gp Q q0.1 q0.2).2 := ⟨_, rfl⟩
      have HTO : Hid (toldR (lys Q) (R.take (i + 1)) = toldR (lys Q) (R.take i) ++ [(q0.1, x)]) := by
       have e2 : toldOf (lys Q) m r = some (q0.1, x) := by
        unfold toldOf
        rw [← HO.out, hx, ← gp_nat, hq0]
        cases hO2 : O with
        | nil => rw [hO2] at hkO; simp at hkO; omega
        | cons y l => simp [gq]
       show _ = _
       rw [HTT.out, e2]; rfl
      obtain ⟨b3, off3, rfl, hb3l, hc3⟩ := HPx.out.at hk00
      obtain ⟨d1, d2⟩ := hc3 0 hk00
      simp only [Nat.zero_mul, Nat.add_zero] at d1 d2
      rw [← hq0] at d1 d2
      have hrx := HQ.out.rep hqi
      rw [← hx] at hrx
      have HA2 : Hid (∀ W, Below wc.heap.size wc W → Calls Try.prog 22 #[.slice a n c, .agg #[.int .i64 (q0.1 : Int), .int .i64 (q0.2 : Int)]] W fun e w' => e = .returned (.agg (gp Q q0.1 q0.2).1.cells) ∧ Below W.heap.size W w') := fun W hW => pat_any a n c Q _ _ W (HQ.out.below (HMx.out.bel.trans (hW.mono HMx.out.bel.size))) hqi (by omega)
      have HTL : Hid (∀ W, Below wc.heap.size wc W → Calls Try.prog 27 #[.agg (gp Q q0.1 q0.2).1.cells] W fun e w' => ∃ v', e = .returned (.agg v'.cells) ∧ RepO w' W.heap.size v' (nopN x) ∧ Below W.heap.size W w') := fun W hW => told_any _ x W (by
       have := HQ.out.below (HMx.out.bel.trans (hW.mono HMx.out.bel.size))
       have := this.rep hqi
       rw [hx]; exact this) (by rw [hx]; exact (HNn.out _ _ hqi).2)
      have hwl : (Lit.int .i64 (q0.1 : Int)).wf = true := by
       have h1 := hqi.1
       have h2 := HQ.out.1
       have e : IntKind.i64.min = -9223372036854775808 := rfl
       simp [Lit.wf, e]; omega
      have hwz : (Lit.int .i64 x.ino).wf = true := by rw [hrx.ino]; exact hrx.in64
      have HDC : Hid (∀ W, Below wc.heap.size wc W → W.cell? ⟨b3, off3, none⟩ = some (.int .i64 (q0.1 : Int))) := fun W hW => (hW.cell (by exact hb3l)).trans d1
      have HWF := hide (And.intro hwl hwz)
      generalize (gp Q q0.1 q0.2).1 = v2 at *
      have HX := hide hx
      generalize hl0 : q0.1 = l0 at *
      generalize q0.2 = k0 at *
      clear hq0 hqO hqi hc3 hrx hwl hwz hx hl0
      unfold Nv.cells at *
      go_upto_region 17 with (first
       | (have hx8 := HB7.out; clear hx8; go_at_call 27; refine (HTL.out _ HB7.out).mono ?_; rintro e w8 ⟨u, rfl, hu8, hb8⟩; have HU := hide hu8; have HB8 := hide hb8; clear hu8 hb8)
       | (go_at_call 22; refine (HA2.out _ (Below.refl _ _)).mono ?_; rintro e w7 ⟨rfl, hb7⟩; have HB7 := hide hb7; clear hb7))
      obtain ⟨wq, hwq⟩ : ∃ wq, wq = w8.alloc (Obj.cells u.cells 44) := ⟨_, rfl⟩
      have hwq' := hwq
      unfold Nv.cells at hwq'
      rw [← hwq']
      clear hwq'
      have hb18 := HB7.out.trans (HB8.out.mono HB7.out.size)
      have HM8 := HMx.out.below hb18
      have hbq : Below w8.heap.size w8 wq := by rw [hwq]; exact below_one _ _
      have HMq := hide (HM8.below hbq)
      have hbk : Bk wq w8.heap.size u := by rw [hwq]; exact bk_new w8 u
      obtain ⟨qb, hqb⟩ : ∃ qb, qb = w8.heap.size := ⟨_, rfl⟩
      have hqs : qb < wq.heap.size := by rw [hqb]; exact heap_lt hbk
      have hq5 : W5.heap.size ≤ qb := by rw [hqb]; exact HM8.size
      have hown : (Value.slice am km cm).ownBlock ≠ some qb := fun e => by
       obtain ⟨cur, hcu⟩ := owns_obj HM8.row e
       have := heap_lt hcu
       omega
      have hB5 : W5.heap.size ≤ w7.heap.size := Nat.le_trans HMx.out.size HB7.out.size
      have HUo : Hid (RepO wq W5.heap.size u (nopN x)) := by
       have h := HU.out.keep (keepT_all (keepCl_below hbq) _) (keepT_all (keepCl_below hbq) _) (keepT_all (keepCl_below hbq) _)
       obtain ⟨X, x1, x2, x3⟩ := h.xs
       exact ⟨h.rep, own_up h.names hB5, own_up h.data hB5, X, x1, own_up x2 hB5, fun j hj => ⟨(x3 j hj).1, (x3 j hj).2.1, own_up (x3 j hj).2.2 hB5⟩⟩
      have hino : u.ino = x.ino := HU.out.rep.ino.symm
      rw [← hqb] at hbk
      obtain ⟨T, hT⟩ : ∃ T, T = toldR (lys Q) (R.take i) := ⟨_, rfl⟩
      have HT := hide hT
      rw [← hT] at HMq
      obtain ⟨no, hno⟩ : ∃ no, no = nno (kOf T ++ [oldK l0 x.ino]) (kOf T).length := ⟨_, rfl⟩
      have hkT : (kOf T).length ≤ 100000 := by
       rw [kOf_length]
       have h1 := HND.out
       rw [← hT] at h1
       have h2 : (nds P).length = T.length := by rw [h1, out_length]
       have h3 := HMq.out.row.1
       rw [nvs_length, List.length_map] at h3
       rw [nds_length] at h2
       omega
      have HNO := hide hno
      have HNUM : Hid (∀ W, Below wq.heap.size wq W → Calls Try.prog 41 #[.int .i64 (l0 : Int), .int .i64 u.ino, .pointer (some ⟨p, 0, none⟩)] W fun e w' => e = .returned (.int .i64 (no : Int)) ∧ NU w' p mb (kOf T ++ [oldK l0 x.ino]) ∧ W.grownBy w' (some mb)) := fun W hW => by
       rw [hino, hno]
       exact num_any l0 x.ino p mb (kOf T) W HWF.out.1 HWF.out.2 (kOf_lit T) hkT (HMq.out.nu.below hW)
      have HFIN : Hid (∀ W w9, Below wq.heap.size wq W → W.grownBy w9 (some mb) → NU w9 p mb (kOf T ++ [oldK l0 x.ino]) → w9.cell? ⟨qb, 1, none⟩ = some (.int .i64 u.ino) ∧ w9.frozen? ⟨qb, 1, none⟩ = false ∧ Bk (w9.setCell ⟨qb, 1, none⟩ (.int .i64 (no : Int))) qb { u with ino := (no : Int) } ∧ MI (lys Q) R w W5 w.heap.size p mb (i + 1) (kOf T ++ [oldK l0 x.ino]) am km cm P F' sz' (w9.setCell ⟨qb, 1, none⟩ (.int .i64 (no : Int))) ∧ RepO (w9.setCell ⟨qb, 1, none⟩ (.int .i64 (no : Int))) W5.heap.size u (nopN x)) := fun W w9 hW hg hn => by
       have hMW := HMq.out.below hW
       have hbW : Bk W qb u := hbk.block (hW.block _ hqs)
       have hbW' : W.heap[qb]? = some (.cells u.cells 44 (0, 0)) := hbW
       have hb9 : Bk w9 qb u := hbW.block (hg.block _ (heap_lt hbW') (by have := hMW.nu.mne hbW'; simp; exact this))
       have hM9 := hMW.num hg hn
       have hc9 : KeepCl W w9 := fun k cs t fz hk => (hg.block k (heap_lt hk) (by have := hMW.nu.mne hk; simp; exact this)).trans hk
       have hU9 := (HUo.out.keep (keepT_all (keepCl_below hW) _) (keepT_all (keepCl_below hW) _) (keepT_all (keepCl_below hW) _)).keep (keepT_all hc9 _) (keepT_all hc9 _) (keepT_all hc9 _)
       refine ⟨hb9.box.c1, hb9.frozen 1, setCell_heap w9 qb 1 _ _ _ _ hb9, hM9.cell hb9 hq5 hown 1 _, hU9.keep (hb9.keepT _ (by decide) _) (hb9.keepT _ (by decide) _) (hb9.keepT _ (by decide) _)⟩
      have HQC : Hid (∀ W, Below wq.heap.size wq W → W.cell? ⟨b3, off3, none⟩ = some (.int .i64 (l0 : Int)) ∧ W.cell? ⟨qb, 1, none⟩ = some (.int .i64 u.ino)) := fun W hW => ⟨HDC.out W ((hb18.trans (hbq.mono hb18.size)).trans (hW.mono (Nat.le_trans hb18.size hbq.size))), (hbk.block (hW.block _ hqs)).box.c1⟩
      have hino0 := HQC.out wq (Below.refl _ _)
      obtain ⟨g1, g2⟩ := hino0
      rw [← hqb]
      have HB0 := hide (Below.refl wq.heap.size wq)
      have HQS := hide hqs
      have HINO := hide hino
      clear hb18 HM8 hbq hbk hown hB5 hT hno hqb hqs hq5 hwq hkT hino
      go_cut [] from 61 to 69 (fun wx => Bk wx qb { u with ino := (no : Int) } ∧ MI (lys Q) R w W5 w.heap.size p mb (i + 1) (kOf T ++ [oldK l0 x.ino]) am km cm P F' sz' wx ∧ RepO wx W5.heap.size u (nopN x))
      case first =>
       have HND9 := hide (HNUM.out wq.drew HB0.out.drew)
       have HFD9 := hide (fun w9 => HFIN.out wq.drew w9 HB0.out.drew)
       clear HNUM HFIN HB0 HQC
       go_region_with (go_at_call 41; refine HND9.out.mono ?_; rintro e w9 ⟨rfl, hn9, hg9⟩; have HF9 := hide (HFD9.out w9 hg9 hn9); have j1 := HF9.out.1; have j2 := HF9.out.2.1; clear hn9 hg9)
       all_goals (
        go_wp2_with fail
        go_meet
        exact HF9.out.2.2)
      case rest =>
       obtain ⟨hbk9, hM9, hU9⟩ := hcut
       have HM9 := hide hM9
       have HWF9 : Hid ((Lit.int .i64 (no : Int)).wf = true) := by
        have h1 := nno_range (ks := kOf T ++ [oldK l0 x.ino]) (fun k hk => by
         rcases List.mem_append.1 hk with q | q
         ·exact kOf_lit T k q
         ·rw [List.mem_singleton.1 q]; trivial) (i := (kOf T).length) (by simp)
        have h2 := nst_le (kOf T ++ [oldK l0 x.ino]) ((kOf T).length + 1)
        have h3 : (kOf T).length ≤ km := by
         rw [kOf_length]
         have q1 := HND.out
         rw [← HT.out] at q1
         have q2 : (nds P).length = T.length := by rw [q1, out_length]
         have q3 := hM9.row.1
         rw [nvs_length, List.length_map] at q3
         rw [nds_length] at q2
         omega
        rw [← HNO.out] at h1
        have e : IntKind.i64.min = -9223372036854775808 := rfl
        show _ = _
        simp [Lit.wf, e]; omega
       have HU9 : Hid (∀ o, RepO (wc.alloc o) W5.heap.size { u with ino := (no : Int) } (outN x (no : Int))) := fun o => by
        have h := hU9.keep (keepT_all (keepCl_below (below_one wc o)) _) (keepT_all (keepCl_below (below_one wc o)) _) (keepT_all (keepCl_below (below_one wc o)) _)
        exact ⟨{ h.rep with ino := rfl, in64 := HWF9.out }, h.names, h.data, h.xs⟩
       have hb9 := hbk9.box
       obtain ⟨_, m0, m1, m2, m3, m4, m5, m6, m7, m8, m9⟩ := hb9
       simp only at m0 m1 m2 m3 m4 m5 m6 m7 m8 m9
       have hW9 : W5.heap.size ≤ wc.heap.size := hM9.size
       clear hM9 hU9 hbk9 HNUM HFIN HQC g1 g2 HB0
       go_wp2_with (at_builtin; refine wpList_append_nod _ rfl _ _ rfl W5.heap.size _ _ _ (P.map (·.1)) rfl (HM9.out.row.alloc _) _ _ _ _ rfl (sh_one' (v := { u with ino := (no : Int) }) (by simp)) (fun h => by cases h) (by omega) (by simp; omega) ?_)
       intro ao2 k3 w10 hown hg
       have HMA := hide ((HM9.out.below (below_one wc _)).app hg (HU9.out _) hown)
       have HKK : Hid (kOf (toldR (lys Q) (R.take (i + 1))) = kOf T ++ [oldK l0 x.ino]) := by show _ = _; rw [HTO.out, ← HT.out, kOf_append]
       have HNN : Hid (nds (P ++ [({ u with ino := (no : Int) }, outN x (no : Int))]) = out (toldR (lys Q) (R.take (i + 1)))) := by
        show _ = _
        rw [HTO.out, out_append, ← HND.out, ← HT.out, HNO.out, kOf_length]
        simp [nds]
       clear hown hg m0 m1 m2 m3 m4 m5 m6 m7 m8 m9
       go_wp2
       exact ⟨⟨i + 1, km + 1, ao2, k3, _, F', sz', by go_num, rfl, by omega, by omega, hsz', by rw [HKK.out]; exact HMA.out, HNN.out⟩, by simp [intOf]; omega⟩
  ·have hdx : decide ((i : Int) < mR) = false := by simpa using hi
   obtain rfl : i = mR := by omega
   have HTK : Hid (R.take i = R) := List.take_of_length_le (by rw [HP5.out.2.1]; omega)
   have HF : Hid (wr.ownsRow w.heap.size 44 10 (.slice am km cm) km (nvs (P.map (·.1))) ∧ Ns wr am km P ∧ IsMerge (lys Q) (nds P) ∧ Below w.heap.size w wr) := by
    have h := HM.out
    refine ⟨own_up h.row h.le, (sh_of_owns h.row).ns (fun q hq => (h.rep q hq).rep), ?_, h.bel⟩
    rw [HND.out, HTK.out]
    exact out_merge HBr.out HIL.out HT5.out
   clear HM HND
   go_wp2
   go_ret
   exact ⟨_, _, _, P, rfl, HF.out.1, HF.out.2.1, by omega, HF.out.2.2.1, HF.out.2.2.2⟩
end Go.Proofs.Ytflohhefbbidcaa
namespace Go.Proofs.Ytflohhefbbidcaa
set_option linter.unusedSimpArgs false
set_option maxRecDepth 100000
open Go.RowKit Go.Maps
open Nam Tre Mrg
def mroV : Nv := ⟨none, 0, 0, 9, 1, 0, 0, 0, none, 0, 0, ⟨#[]⟩, none, 0, 0, false⟩
def mroN : Nod := ⟨[], 9, 1, 0, 0, 0, [], ⟨#[]⟩, [], false⟩
def atV (k : Int) (p n : Nat) : Nv := ⟨some ⟨p, 0, none⟩, n, n, n, k, 0, 0, 0, none, 0, 0, ⟨#[]⟩, none, 0, 0, false⟩
def atN (k : Int) (l : List ByteArray) : Nod := ⟨l, l.length, k, 0, 0, 0, [], ⟨#[]⟩, [], false⟩
def nA : ByteArray := ⟨#[97]⟩
def nB : ByteArray := ⟨#[98]⟩
def nD : ByteArray := ⟨#[100]⟩
def nF : ByteArray := ⟨#[102]⟩
def mbN : Nod := { atN 2 [nB] with ino := 5 }
def mhN : Nod := { atN 1 [nD] with opq := true }
def mX : List (List Nod) := [[mroN, atN 4 [nA]], [mroN, atN 2 [nA], mbN]]
def mLow : List Nod := [mroN, atN 1 [nD], atN 2 [nD, nF]]
def mY : List (List Nod) := [[mroN, atN 1 [nD]], mLow]
def mZ : List (List Nod) := [[mroN, mhN], mLow]
theorem rep_bare' {w : World} (na : Option Addr) (nn : Nat) (l : List ByteArray) (i k : Int) (o : Bool) (h : Rs w na nn l) (hn : na = none → nn = 0) (hl : nn ≤ 9223372036854775807) (hi : (Lit.int .i64 i).wf = true) : Rep w ⟨na, nn, nn, i, k, 0, 0, 0, none, 0, 0, ⟨#[]⟩, none, 0, 0, o⟩ ⟨l, i, k, 0, 0, 0, [], ⟨#[]⟩, [], o⟩ where
 names := h
 nc := Nat.le_refl _
 ncm := hl
 nnil := hn
 ino := rfl
 in64 := hi
 kind := rfl
 mode := rfl
 uid := rfl
 gid := rfl
 data := bs_zero _ _
 dc := Nat.le_refl _
 dcm := (by decide : (0 : Nat) ≤ 9223372036854775807)
 dnil := fun _ => rfl
 tg := rfl
 tgm := (by decide : (0 : Nat) ≤ 9223372036854775807)
 xs := XsR.nil _ _
 xc := Nat.le_refl _
 xcm := (by decide : (0 : Nat) ≤ 9223372036854775807)
 xnil := fun _ => rfl
 op := rfl
theorem mrs_one {W : World} {b : Nat} {s : ByteArray} (h : W.heap[b]? = some (.cells #[.string s] 9 (0, 0))) : Rs W (some ⟨b, 0, none⟩) 1 [s] := by
 refine ⟨rfl, .inr ⟨b, 0, rfl, heap_lt h, fun i hi => ?_⟩⟩
 match i, hi with
 | 0, _ => simp [World.cell?, h, gs]
theorem mrs_two {W : World} {b : Nat} {s t : ByteArray} (h : W.heap[b]? = some (.cells #[.string s, .string t] 9 (0, 0))) : Rs W (some ⟨b, 0, none⟩) 2 [s, t] := by
 refine ⟨rfl, .inr ⟨b, 0, rfl, heap_lt h, fun i hi => ?_⟩⟩
 match i, hi with
 | 0, _ => simp [World.cell?, h, gs]
 | 1, _ => simp [World.cell?, h, gs]
theorem mrsX : mrs mX = [(0, mroN), (1, mbN)] := by rfl
theorem mrsY : mrs mY = [(0, mroN), (0, atN 1 [nD]), (1, atN 2 [nD, nF])] := by rfl
theorem mrsZ : mrs mZ = [(0, mroN), (0, mhN)] := by rfl
theorem at_any (k : Int) (p n : Nat) (w : World) : Calls Try.prog 18 #[.int .i64 k, .slice (some ⟨p, 0, none⟩) n n] w fun e w' => e = .returned (.agg #[.slice (some ⟨p, 0, none⟩) n n, .int .i64 (n : Int), .int .i64 k, .int .i64 0, .int .i64 0, .int .i64 0, .slice none 0 0, .string ⟨#[]⟩, .slice none 0 0, .bool false]) ∧ Below w.heap.size w w' := by
 have HB : Hid (∀ o : Obj, Below w.heap.size w (w.alloc o)) := fun o => below_one _ _
 go_enter Try.func18, Try.ntmps18
 go_wp2
 refine bodyPost_ret (results_box (p := 4) rfl _ _ w.heap.size _ rfl (load_nod (fr := (0, 0)) (heap_alloc_new w _) rfl)) rfl ⟨rfl, HB.out _⟩
theorem ck1 : checkB [mroN, atN 4 [nA]] = 0 := by
 have h1 : valid [97] = 0 := by decide
 have h2 : valid [98] = 0 := by decide
 have h3 : valid [100] = 0 := by decide
 have h4 : valid [102] = 0 := by decide
 have hw : wrong [mroN, atN 4 [nA]] = 0 := by simp [wrong, fv, nA, nB, nD, nF, mroN, mbN, mhN, mLow, atN, h1, h2, h3, h4]
 have t0 : (⟨#[]⟩ : ByteArray).toList = [] := toList_mk []
 have hm : ([mroN, atN 4 [nA]]).all mayB = true := by simp [mayB, may, kdOk, attrOk, xsOk, xs1, mroN, mbN, mhN, mLow, atN, t0]
 unfold checkB
 rw [if_neg (by decide), if_neg (by rw [hw]; simp), if_neg (by decide), if_neg (by simp [mroN, mbN, mhN, mLow, atN, nA, nB, nD, nF]), if_neg (by simp [isDir, mroN, mbN, mhN, mLow, atN]), if_neg (by simp [inDir, isDir, mroN, mbN, mhN, mLow, atN]), if_neg (by rw [hm]; simp), if_neg (by simp [mroN, mbN, mhN, mLow, atN])]
theorem ck2 : checkB [mroN, atN 2 [nA], mbN] = 0 := by
 have h1 : valid [97] = 0 := by decide
 have h2 : valid [98] = 0 := by decide
 have h3 : valid [100] = 0 := by decide
 have h4 : valid [102] = 0 := by decide
 have hw : wrong [mroN, atN 2 [nA], mbN] = 0 := by simp [wrong, fv, nA, nB, nD, nF, mroN, mbN, mhN, mLow, atN, h1, h2, h3, h4]
 have t0 : (⟨#[]⟩ : ByteArray).toList = [] := toList_mk []
 have hm : ([mroN, atN 2 [nA], mbN]).all mayB = true := by simp [mayB, may, kdOk, attrOk, xsOk, xs1, mroN, mbN, mhN, mLow, atN, t0]
 unfold checkB
 rw [if_neg (by decide), if_neg (by rw [hw]; simp), if_neg (by decide), if_neg (by simp [mroN, mbN, mhN, mLow, atN, nA, nB, nD, nF]), if_neg (by simp [isDir, mroN, mbN, mhN, mLow, atN]), if_neg (by simp [inDir, isDir, mroN, mbN, mhN, mLow, atN]), if_neg (by rw [hm]; simp), if_neg (by simp [mroN, mbN, mhN, mLow, atN])]
theorem ck3 : checkB [mroN, atN 1 [nD]] = 0 := by
 have h1 : valid [97] = 0 := by decide
 have h2 : valid [98] = 0 := by decide
 have h3 : valid [100] = 0 := by decide
 have h4 : valid [102] = 0 := by decide
 have hw : wrong [mroN, atN 1 [nD]] = 0 := by simp [wrong, fv, nA, nB, nD, nF, mroN, mbN, mhN, mLow, atN, h1, h2, h3, h4]
 have t0 : (⟨#[]⟩ : ByteArray).toList = [] := toList_mk []
 have hm : ([mroN, atN 1 [nD]]).all mayB = true := by simp [mayB, may, kdOk, attrOk, xsOk, xs1, mroN, mbN, mhN, mLow, atN, t0]
 unfold checkB
 rw [if_neg (by decide), if_neg (by rw [hw]; simp), if_neg (by decide), if_neg (by simp [mroN, mbN, mhN, mLow, atN, nA, nB, nD, nF]), if_neg (by simp [isDir, mroN, mbN, mhN, mLow, atN]), if_neg (by simp [inDir, isDir, mroN, mbN, mhN, mLow, atN]), if_neg (by rw [hm]; simp), if_neg (by simp [mroN, mbN, mhN, mLow, atN])]
theorem ck4 : checkB mLow = 0 := by
 have h1 : valid [97] = 0 := by decide
 have h2 : valid [98] = 0 := by decide
 have h3 : valid [100] = 0 := by decide
 have h4 : valid [102] = 0 := by decide
 have hw : wrong mLow = 0 := by simp [wrong, fv, nA, nB, nD, nF, mroN, mbN, mhN, mLow, atN, h1, h2, h3, h4]
 have t0 : (⟨#[]⟩ : ByteArray).toList = [] := toList_mk []
 have hm : (mLow).all mayB = true := by simp [mayB, may, kdOk, attrOk, xsOk, xs1, mroN, mbN, mhN, mLow, atN, t0]
 unfold checkB
 rw [if_neg (by decide), if_neg (by rw [hw]; simp), if_neg (by decide), if_neg (by simp [mroN, mbN, mhN, mLow, atN, nA, nB, nD, nF]), if_neg (by simp [isDir, mroN, mbN, mhN, mLow, atN]), if_neg (by simp [inDir, isDir, mroN, mbN, mhN, mLow, atN]), if_neg (by rw [hm]; simp), if_neg (by simp [mroN, mbN, mhN, mLow, atN])]
theorem ck5 : checkB [mroN, mhN] = 0 := by
 have h1 : valid [97] = 0 := by decide
 have h2 : valid [98] = 0 := by decide
 have h3 : valid [100] = 0 := by decide
 have h4 : valid [102] = 0 := by decide
 have hw : wrong [mroN, mhN] = 0 := by simp [wrong, fv, nA, nB, nD, nF, mroN, mbN, mhN, mLow, atN, h1, h2, h3, h4]
 have t0 : (⟨#[]⟩ : ByteArray).toList = [] := toList_mk []
 have hm : ([mroN, mhN]).all mayB = true := by simp [mayB, may, kdOk, attrOk, xsOk, xs1, mroN, mbN, mhN, mLow, atN, t0]
 unfold checkB
 rw [if_neg (by decide), if_neg (by rw [hw]; simp), if_neg (by decide), if_neg (by simp [mroN, mbN, mhN, mLow, atN, nA, nB, nD, nF]), if_neg (by simp [isDir, mroN, mbN, mhN, mLow, atN]), if_neg (by simp [inDir, isDir, mroN, mbN, mhN, mLow, atN]), if_neg (by rw [hm]; simp), if_neg (by simp [mroN, mbN, mhN, mLow, atN])]
theorem brX : ∀ t ∈ mX, Br t := by
 intro t ht
 simp only [mX, List.mem_cons, List.not_mem_nil, or_false] at ht
 rcases ht with rfl | rfl
 ·exact br_of ck1
 ·exact br_of ck2
theorem brY : ∀ t ∈ mY, Br t := by
 intro t ht
 simp only [mY, List.mem_cons, List.not_mem_nil, or_false] at ht
 rcases ht with rfl | rfl
 ·exact br_of ck3
 ·exact br_of ck4
theorem brZ : ∀ t ∈ mZ, Br t := by
 intro t ht
 simp only [mZ, List.mem_cons, List.not_mem_nil, or_false] at ht
 rcases ht with rfl | rfl
 ·exact br_of ck5
 ·exact br_of ck4
theorem inX : InL mX := by refine ⟨by decide, ?_⟩; decide
theorem inY : InL mY := by refine ⟨by decide, ?_⟩; decide
theorem inZ : InL mZ := by refine ⟨by decide, ?_⟩; decide
theorem shX {r : List Nod} (h : IsMerge mX r) : r.length = 2 ∧ (r.getD 1 nod0).names = [nB] := by
 have e : r = numb ((mrs mX).map (cl cod)) := merge_one (fun t ht => (brX t ht).nodup) h ⟨cod, cod_inj inX, _, List.Perm.refl _, by rw [mrsX]; simp [ltn, nm, less, cl, mroN, mbN, mhN, atN, nA, nB, nD, nF], rfl⟩
 rw [e, mrsX]
 exact ⟨by rfl, by rfl⟩
theorem shY {r : List Nod} (h : IsMerge mY r) : r.length = 3 ∧ (r.getD 2 nod0).names = [nD, nF] := by
 have e : r = numb ((mrs mY).map (cl cod)) := merge_one (fun t ht => (brY t ht).nodup) h ⟨cod, cod_inj inY, _, List.Perm.refl _, by rw [mrsY]; simp [ltn, nm, less, cl, mroN, mbN, mhN, atN, nA, nB, nD, nF], rfl⟩
 rw [e, mrsY]
 exact ⟨by rfl, by rfl⟩
theorem shZ {r : List Nod} (h : IsMerge mZ r) : r.length = 2 ∧ (r.getD 1 nod0).opq = false := by
 have e : r = numb ((mrs mZ).map (cl cod)) := merge_one (fun t ht => (brZ t ht).nodup) h ⟨cod, cod_inj inZ, _, List.Perm.refl _, by rw [mrsZ]; simp [ltn, nm, less, cl, mroN, mbN, mhN, atN, nA, nB, nD, nF], rfl⟩
 rw [e, mrsZ]
 exact ⟨by rfl, by rfl⟩
theorem rep_ro (W : World) : Rep W mroV mroN := rep_bare' none 0 [] 9 1 false (Rs.nil _ _) (fun _ => rfl) (by omega) (by decide)
theorem rep_at1 {W : World} {p : Nat} {s : ByteArray} (k i : Int) (o : Bool) (hi : (Lit.int .i64 i).wf = true) (h : W.heap[p]? = some (.cells #[.string s] 9 (0, 0))) : Rep W ⟨some ⟨p, 0, none⟩, 1, 1, i, k, 0, 0, 0, none, 0, 0, ⟨#[]⟩, none, 0, 0, o⟩ ⟨[s], i, k, 0, 0, 0, [], ⟨#[]⟩, [], o⟩ :=
 rep_bare' _ 1 _ i k o (mrs_one h) (fun e => by cases e) (by omega) hi
theorem rep_at2 {W : World} {p : Nat} {s t : ByteArray} (k i : Int) (o : Bool) (hi : (Lit.int .i64 i).wf = true) (h : W.heap[p]? = some (.cells #[.string s, .string t] 9 (0, 0))) : Rep W ⟨some ⟨p, 0, none⟩, 2, 2, i, k, 0, 0, 0, none, 0, 0, ⟨#[]⟩, none, 0, 0, o⟩ ⟨[s, t], i, k, 0, 0, 0, [], ⟨#[]⟩, [], o⟩ :=
 rep_bare' _ 2 _ i k o (mrs_two h) (fun e => by cases e) (by omega) hi
def cellsT (v u x : Nv) : Array Value := #[.slice v.na v.nn v.nc, .int .i64 v.ino, .int .i64 v.kind, .int .i64 v.mode, .int .i64 v.uid, .int .i64 v.gid, .slice v.da v.dn v.dc, .string v.tg, .slice v.xa v.xn v.xc, .bool v.op, .slice u.na u.nn u.nc, .int .i64 u.ino, .int .i64 u.kind, .int .i64 u.mode, .int .i64 u.uid, .int .i64 u.gid, .slice u.da u.dn u.dc, .string u.tg, .slice u.xa u.xn u.xc, .bool u.op, .slice x.na x.nn x.nc, .int .i64 x.ino, .int .i64 x.kind, .int .i64 x.mode, .int .i64 x.uid, .int .i64 x.gid, .slice x.da x.dn x.dc, .string x.tg, .slice x.xa x.xn x.xc, .bool x.op]
theorem ns_two {W : World} {b : Nat} {v u : Nv} {x y : Nod} (h : W.heap[b]? = some (.cells (cells2 v u) 44 (0, 0))) (r1 : Rep W v x) (r2 : Rep W u y) : Ns W (some ⟨b, 0, none⟩) 2 [(v, x), (u, y)] := by
 refine ⟨rfl, fun p hp => ?_, .inr ⟨b, 0, rfl, heap_lt h, fun i hi => ?_⟩⟩
 ·simp only [List.mem_cons, List.not_mem_nil, or_false] at hp
  rcases hp with rfl | rfl
  ·exact r1
  ·exact r2
 ·have hc : ∀ k, W.cell? ⟨b, k, none⟩ = (cells2 v u)[k]? := fun k => cell_of_row _ _ k _ _ _ h
  match i, hi with
  | 0, _ => exact NodAt.of fun c hc' => by rw [hc]; match c, hc' with | 0, _ => rfl | 1, _ => rfl | 2, _ => rfl | 3, _ => rfl | 4, _ => rfl | 5, _ => rfl | 6, _ => rfl | 7, _ => rfl | 8, _ => rfl | 9, _ => rfl
  | 1, _ => exact NodAt.of fun c hc' => by rw [hc]; match c, hc' with | 0, _ => rfl | 1, _ => rfl | 2, _ => rfl | 3, _ => rfl | 4, _ => rfl | 5, _ => rfl | 6, _ => rfl | 7, _ => rfl | 8, _ => rfl | 9, _ => rfl
theorem ns_three {W : World} {b : Nat} {v u z : Nv} {x y s : Nod} (h : W.heap[b]? = some (.cells (cellsT v u z) 44 (0, 0))) (r1 : Rep W v x) (r2 : Rep W u y) (r3 : Rep W z s) : Ns W (some ⟨b, 0, none⟩) 3 [(v, x), (u, y), (z, s)] := by
 refine ⟨rfl, fun p hp => ?_, .inr ⟨b, 0, rfl, heap_lt h, fun i hi => ?_⟩⟩
 ·simp only [List.mem_cons, List.not_mem_nil, or_false] at hp
  rcases hp with rfl | rfl | rfl
  ·exact r1
  ·exact r2
  ·exact r3
 ·have hc : ∀ k, W.cell? ⟨b, k, none⟩ = (cellsT v u z)[k]? := fun k => cell_of_row _ _ k _ _ _ h
  match i, hi with
  | 0, _ => exact NodAt.of fun c hc' => by rw [hc]; match c, hc' with | 0, _ => rfl | 1, _ => rfl | 2, _ => rfl | 3, _ => rfl | 4, _ => rfl | 5, _ => rfl | 6, _ => rfl | 7, _ => rfl | 8, _ => rfl | 9, _ => rfl
  | 1, _ => exact NodAt.of fun c hc' => by rw [hc]; match c, hc' with | 0, _ => rfl | 1, _ => rfl | 2, _ => rfl | 3, _ => rfl | 4, _ => rfl | 5, _ => rfl | 6, _ => rfl | 7, _ => rfl | 8, _ => rfl | 9, _ => rfl
  | 2, _ => exact NodAt.of fun c hc' => by rw [hc]; match c, hc' with | 0, _ => rfl | 1, _ => rfl | 2, _ => rfl | 3, _ => rfl | 4, _ => rfl | 5, _ => rfl | 6, _ => rfl | 7, _ => rfl | 8, _ => rfl | 9, _ => rfl
theorem nsr_two {W : World} {b : Nat} {y z : Ly} (h : W.heap[b]? = some (.cells #[.slice y.a y.n y.c, .slice z.a z.n z.c] 25 (0, 0))) (r1 : y.Ok W) (r2 : z.Ok W) : NsR W (some ⟨b, 0, none⟩) 2 [y, z] := by
 refine ⟨rfl, fun p hp => ?_, .inr ⟨b, 0, rfl, heap_lt h, fun i hi => ?_⟩⟩
 ·simp only [List.mem_cons, List.not_mem_nil, or_false] at hp
  rcases hp with rfl | rfl
  ·exact r1
  ·exact r2
 ·have hc : ∀ k, W.cell? ⟨b, k, none⟩ = (#[Value.slice y.a y.n y.c, .slice z.a z.n z.c] : Array Value)[k]? := fun k => cell_of_row _ _ k _ _ _ h
  match i, hi with
  | 0, _ => rw [hc]; rfl
  | 1, _ => rw [hc]; rfl
theorem merge_two {W : World} {b : Nat} {y z : Ly} {M : List (List Nod)} (h : W.heap[b]? = some (.cells #[.slice y.a y.n y.c, .slice z.a z.n z.c] 25 (0, 0))) (r1 : y.Ok W) (r2 : z.Ok W) (hM : [nds y.L, nds z.L] = M) (hs : y.n + z.n ≤ 1000) (hB : ∀ t ∈ M, Br t) :
  Calls Try.prog 7 #[.slice (some ⟨b, 0, none⟩) 2 2] W fun e w' => ∃ ao k c' P, e = .returned (.slice ao k c') ∧ Ns w' ao k P ∧ IsMerge M (nds P) ∧ Below W.heap.size W w' := by
 have hl : lys [y, z] = M := hM
 have hcnt : cntP [y, z] 2 = y.n + z.n := by simp [cntP, gy]
 refine (merge_any (some ⟨b, 0, none⟩) 2 2 [y, z] W (nsr_two h r1 r2) (by omega) (by omega) (by rw [hl]; exact hB)).mono ?_
 rintro e w' ⟨ao, k, c', P, rfl, _, h2, _, h4, h5⟩
 rw [hl] at h4
 exact ⟨ao, k, c', P, rfl, h2, h4, h5⟩
theorem nds_gl {L : List (Nv × Nod)} {i : Nat} (h : i < L.length) : (nds L).getD i nod0 = (gl L i).2 := by
 rw [gl_lt L i h]; simp [nds, h]
theorem ns_len {W : World} {ao : Option Addr} {k : Nat} {P : List (Nv × Nod)} (h : Ns W ao k P) : (nds P).length = k := by rw [nds_length]; exact h.1
theorem mX_any {W : World} {p32 p27 p31 p25 sa sb : Nat} (f32 : W.heap[p32]? = some (.cells #[.slice (some ⟨p27, 0, none⟩) 2 2, .slice (some ⟨p31, 0, none⟩) 3 3] 25 (0, 0)))
  (f27 : W.heap[p27]? = some (.cells (cells2 mroV (atV 4 p25 1)) 44 (0, 0))) (f31 : W.heap[p31]? = some (.cells (cellsT mroV (atV 2 sa 1) { (atV 2 sb 1) with ino := 5 }) 44 (0, 0)))
  (f25 : W.heap[p25]? = some (.cells #[.string nA] 9 (0, 0))) (fa : W.heap[sa]? = some (.cells #[.string nA] 9 (0, 0))) (fb : W.heap[sb]? = some (.cells #[.string nB] 9 (0, 0))) :
  Calls Try.prog 7 #[.slice (some ⟨p32, 0, none⟩) 2 2] W fun e w' => ∃ ao c' P, e = .returned (.slice ao 2 c') ∧ Ns w' ao 2 P ∧ (gl P 1).2.names = [nB] ∧ Below W.heap.size W w' := by
 refine (merge_two (y := ⟨some ⟨p27, 0, none⟩, 2, 2, [(mroV, mroN), (atV 4 p25 1, atN 4 [nA])]⟩) (z := ⟨some ⟨p31, 0, none⟩, 3, 3, [(mroV, mroN), (atV 2 sa 1, atN 2 [nA]), ({ (atV 2 sb 1) with ino := 5 }, mbN)]⟩) (M := mX) f32 ⟨ns_two f27 (rep_ro W) (rep_at1 4 1 false (by decide) f25), Nat.le_refl _, (by decide : (2 : Nat) ≤ 9223372036854775807)⟩ ⟨ns_three f31 (rep_ro W) (rep_at1 2 1 false (by decide) fa) (rep_at1 2 5 false (by decide) fb), Nat.le_refl _, (by decide : (3 : Nat) ≤ 9223372036854775807)⟩ rfl (by decide : (2 : Nat) + 3 ≤ 1000) brX).mono ?_
 rintro e w' ⟨ao, k, c', P, rfl, h2, h4, h5⟩
 obtain ⟨q1, q2⟩ := shX h4
 rw [ns_len h2] at q1
 subst q1
 rw [nds_gl (by rw [h2.1]; omega)] at q2
 exact ⟨ao, c', P, rfl, h2, q2, h5⟩
theorem low_ok {W : World} {b5 p6 p7 : Nat} (f5 : W.heap[b5]? = some (.cells (cellsT mroV (atV 1 p6 1) (atV 2 p7 2)) 44 (0, 0))) (f6 : W.heap[p6]? = some (.cells #[.string nD] 9 (0, 0))) (f7 : W.heap[p7]? = some (.cells #[.string nD, .string nF] 9 (0, 0))) :
  (⟨some ⟨b5, 0, none⟩, 3, 3, [(mroV, mroN), (atV 1 p6 1, atN 1 [nD]), (atV 2 p7 2, atN 2 [nD, nF])]⟩ : Ly).Ok W :=
 ⟨ns_three f5 (rep_ro W) (rep_at1 1 1 false (by decide) f6) (rep_at2 2 2 false (by decide) f7), Nat.le_refl _, (by decide : (3 : Nat) ≤ 9223372036854775807)⟩
theorem mY_any {W : World} {p39 p37 p35 b5 p6 p7 : Nat} (f39 : W.heap[p39]? = some (.cells #[.slice (some ⟨p37, 0, none⟩) 2 2, .slice (some ⟨b5, 0, none⟩) 3 3] 25 (0, 0)))
  (f37 : W.heap[p37]? = some (.cells (cells2 mroV (atV 1 p35 1)) 44 (0, 0))) (f35 : W.heap[p35]? = some (.cells #[.string nD] 9 (0, 0)))
  (f5 : W.heap[b5]? = some (.cells (cellsT mroV (atV 1 p6 1) (atV 2 p7 2)) 44 (0, 0))) (f6 : W.heap[p6]? = some (.cells #[.string nD] 9 (0, 0))) (f7 : W.heap[p7]? = some (.cells #[.string nD, .string nF] 9 (0, 0))) :
  Calls Try.prog 7 #[.slice (some ⟨p39, 0, none⟩) 2 2] W fun e w' => ∃ ao c' P, e = .returned (.slice ao 3 c') ∧ Ns w' ao 3 P ∧ (gl P 2).2.names = [nD, nF] ∧ Below W.heap.size W w' := by
 refine (merge_two (y := ⟨some ⟨p37, 0, none⟩, 2, 2, [(mroV, mroN), (atV 1 p35 1, atN 1 [nD])]⟩) (z := ⟨some ⟨b5, 0, none⟩, 3, 3, [(mroV, mroN), (atV 1 p6 1, atN 1 [nD]), (atV 2 p7 2, atN 2 [nD, nF])]⟩) (M := mY) f39 ⟨ns_two f37 (rep_ro W) (rep_at1 1 1 false (by decide) f35), Nat.le_refl _, (by decide : (2 : Nat) ≤ 9223372036854775807)⟩ (low_ok f5 f6 f7) rfl (by decide : (2 : Nat) + 3 ≤ 1000) brY).mono ?_
 rintro e w' ⟨ao, k, c', P, rfl, h2, h4, h5⟩
 obtain ⟨q1, q2⟩ := shY h4
 rw [ns_len h2] at q1
 subst q1
 rw [nds_gl (by rw [h2.1]; omega)] at q2
 exact ⟨ao, c', P, rfl, h2, q2, h5⟩
theorem mZ_any {W : World} {p45 p43 s4 b5 p6 p7 : Nat} (f45 : W.heap[p45]? = some (.cells #[.slice (some ⟨p43, 0, none⟩) 2 2, .slice (some ⟨b5, 0, none⟩) 3 3] 25 (0, 0)))
  (f43 : W.heap[p43]? = some (.cells (cells2 mroV { (atV 1 s4 1) with op := true }) 44 (0, 0))) (f4 : W.heap[s4]? = some (.cells #[.string nD] 9 (0, 0)))
  (f5 : W.heap[b5]? = some (.cells (cellsT mroV (atV 1 p6 1) (atV 2 p7 2)) 44 (0, 0))) (f6 : W.heap[p6]? = some (.cells #[.string nD] 9 (0, 0))) (f7 : W.heap[p7]? = some (.cells #[.string nD, .string nF] 9 (0, 0))) :
  Calls Try.prog 7 #[.slice (some ⟨p45, 0, none⟩) 2 2] W fun e w' => ∃ ao c' P, e = .returned (.slice ao 2 c') ∧ Ns w' ao 2 P ∧ (gl P 1).2.opq = false ∧ Below W.heap.size W w' := by
 refine (merge_two (y := ⟨some ⟨p43, 0, none⟩, 2, 2, [(mroV, mroN), ({ (atV 1 s4 1) with op := true }, mhN)]⟩) (z := ⟨some ⟨b5, 0, none⟩, 3, 3, [(mroV, mroN), (atV 1 p6 1, atN 1 [nD]), (atV 2 p7 2, atN 2 [nD, nF])]⟩) (M := mZ) f45 ⟨ns_two f43 (rep_ro W) (rep_at1 1 1 true (by decide) f4), Nat.le_refl _, (by decide : (2 : Nat) ≤ 9223372036854775807)⟩ (low_ok f5 f6 f7) rfl (by decide : (2 : Nat) + 3 ≤ 1000) brZ).mono ?_
 rintro e w' ⟨ao, k, c', P, rfl, h2, h4, h5⟩
 obtain ⟨q1, q2⟩ := shZ h4
 rw [ns_len h2] at q1
 subst q1
 rw [nds_gl (by rw [h2.1]; omega)] at q2
 exact ⟨ao, c', P, rfl, h2, q2, h5⟩
end Go.Proofs.Ytflohhefbbidcaa
namespace Go.Proofs.Ytflohhefbbidcaa
set_option maxRecDepth 100000
open Go.RowKit Go.Maps
open Nam Tre Mrg
structure SX (w W : World) (q1 s2 q2 s3 q3 s4 q4 : Nat) : Prop where
 r : W.heap[q1]? = some (.cells mroV.cells 44 (0, 0))
 sa : W.heap[s2]? = some (.cells #[.string nA] 9 (0, 0))
 a : W.heap[q2]? = some (.cells (atV 2 s2 1).cells 44 (0, 0))
 sb : W.heap[s3]? = some (.cells #[.string nB] 9 (0, 0))
 b : W.heap[q3]? = some (.cells ({ (atV 2 s3 1) with ino := 5 } : Nv).cells 44 (0, 0))
 sd : W.heap[s4]? = some (.cells #[.string nD] 9 (0, 0))
 d : W.heap[q4]? = some (.cells ({ (atV 1 s4 1) with op := true } : Nv).cells 44 (0, 0))
 bel : Below w.heap.size w W
theorem SX.below {w W W' : World} {q1 s2 q2 s3 q3 s4 q4 : Nat} (h : SX w W q1 s2 q2 s3 q3 s4 q4) (hb : Below W.heap.size W W') : SX w W' q1 s2 q2 s3 q3 s4 q4 :=
 ⟨(hb.block _ (heap_lt h.r)).trans h.r, (hb.block _ (heap_lt h.sa)).trans h.sa, (hb.block _ (heap_lt h.a)).trans h.a, (hb.block _ (heap_lt h.sb)).trans h.sb, (hb.block _ (heap_lt h.b)).trans h.b, (hb.block _ (heap_lt h.sd)).trans h.sd, (hb.block _ (heap_lt h.d)).trans h.d, h.bel.trans (hb.mono h.bel.size)⟩
theorem up_blk {w w' : World} (hb : Below w.heap.size w w') {k : Nat} {o : Obj} (h : w.heap[k]? = some o) : w'.heap[k]? = some o := (hb.block k (heap_lt h)).trans h
set_option maxHeartbeats 4000000 in
theorem shown_any (w : World) : Calls Try.prog 5 #[] w fun e w' => e = .returned (.bool true) ∧ Below w.heap.size w w' := by
 go_enter Try.func5, Try.ntmps5
 go_upto_region 2 with fail
 obtain ⟨w1, hw1⟩ : ∃ w1, w1 = w.alloc (Obj.cells mroV.cells 44) := ⟨_, rfl⟩
 have hr1 : w1.heap[w.heap.size]? = some (.cells mroV.cells 44 (0, 0)) := by rw [hw1]; exact heap_alloc_new w _
 have hb1 : Below w.heap.size w w1 := by rw [hw1]; exact below_one _ _
 have hw1' := hw1
 simp only [mroV, Nv.cells] at hw1'
 rw [← hw1']
 have HR1 := hide hr1
 have HB1 := hide hb1
 clear hw1 hw1' hr1 hb1
 have y1 : w.heap.size < w1.heap.size := heap_lt HR1.out
 have y1 : w.heap.size < w1.heap.size := heap_lt HR1.out
 go_upto_region 3 with (go_at_call 18; refine (at_any 2 _ 1 _).mono ?_; rintro e w2 ⟨rfl, hbw2⟩; have HBw2 := hide hbw2; clear hbw2)
 obtain ⟨w3, hw3⟩ : ∃ x, x = w2.alloc (Obj.cells #[.slice (some ⟨w1.heap.size, 0, none⟩) 1 1, .int .i64 1, .int .i64 2, .int .i64 0, .int .i64 0, .int .i64 0, .slice none 0 0, .string ⟨#[]⟩, .slice none 0 0, .bool false] 44) := ⟨_, rfl⟩
 rw [← hw3]
 have hbw3 : Below w2.heap.size w2 w3 := by rw [hw3]; exact below_one _ _
 have Bw3 : Hid (Below w1.heap.size w1 w3) := ((below_one w1 _).trans (HBw2.out.mono (below_one w1 _).size)).trans (hbw3.mono (Nat.le_trans (below_one w1 _).size HBw2.out.size))
 have f_r_w3 : Hid (w3.heap[w.heap.size]? = some (Obj.cells mroV.cells 44)) := up_blk Bw3.out HR1.out
 have f_sa_w3 : Hid (w3.heap[w1.heap.size]? = some (Obj.cells #[.string nA] 9)) := up_blk hbw3 (up_blk HBw2.out (heap_alloc_new _ _))
 have f_a_w3 : Hid (w3.heap[w2.heap.size]? = some (Obj.cells (atV 2 w1.heap.size 1).cells 44)) := by show _ = _; rw [hw3]; exact heap_alloc_new _ _
 have Gw3 : Hid (Below w.heap.size w w3) := HB1.out.trans (Bw3.out.mono HB1.out.size)
 have zw3 : w1.heap.size < w2.heap.size := by have h2 := HBw2.out.size; rw [World.size_alloc] at h2; omega
 have yw3 : w2.heap.size < w3.heap.size := heap_lt f_a_w3.out
 clear hw3 hbw3
 go_upto_region 4 with (go_at_call 18; refine (at_any 2 _ 1 _).mono ?_; rintro e w4 ⟨rfl, hbw4⟩; have HBw4 := hide hbw4; clear hbw4)
 obtain ⟨w5, hw5⟩ : ∃ x, x = w4.alloc (Obj.cells #[.slice (some ⟨w3.heap.size, 0, none⟩) 1 1, .int .i64 1, .int .i64 2, .int .i64 0, .int .i64 0, .int .i64 0, .slice none 0 0, .string ⟨#[]⟩, .slice none 0 0, .bool false] 44) := ⟨_, rfl⟩
 rw [← hw5]
 have hbw5 : Below w4.heap.size w4 w5 := by rw [hw5]; exact below_one _ _
 have Bw5 : Hid (Below w3.heap.size w3 w5) := ((below_one w3 _).trans (HBw4.out.mono (below_one w3 _).size)).trans (hbw5.mono (Nat.le_trans (below_one w3 _).size HBw4.out.size))
 have f_r_w5 : Hid (w5.heap[w.heap.size]? = some (Obj.cells mroV.cells 44)) := up_blk Bw5.out f_r_w3.out
 have f_sa_w5 : Hid (w5.heap[w1.heap.size]? = some (Obj.cells #[.string nA] 9)) := up_blk Bw5.out f_sa_w3.out
 have f_a_w5 : Hid (w5.heap[w2.heap.size]? = some (Obj.cells (atV 2 w1.heap.size 1).cells 44)) := up_blk Bw5.out f_a_w3.out
 have f_sb_w5 : Hid (w5.heap[w3.heap.size]? = some (Obj.cells #[.string nB] 9)) := up_blk hbw5 (up_blk HBw4.out (heap_alloc_new _ _))
 have f_b_w5 : Hid (w5.heap[w4.heap.size]? = some (Obj.cells (atV 2 w3.heap.size 1).cells 44)) := by show _ = _; rw [hw5]; exact heap_alloc_new _ _
 have Gw5 : Hid (Below w.heap.size w w5) := Gw3.out.trans (Bw5.out.mono Gw3.out.size)
 have zw5 : w3.heap.size < w4.heap.size := by have h2 := HBw4.out.size; rw [World.size_alloc] at h2; omega
 have yw5 : w4.heap.size < w5.heap.size := heap_lt f_b_w5.out
 clear hw5 hbw5
 have bkw6 : Bk w5 (w4.heap.size) _ := f_b_w5.out
 have cw6 : w5.cell? ⟨w4.heap.size, 1, none⟩ = some (.int .i64 1) := bkw6.box.c1
 have zw6 : w5.frozen? ⟨w4.heap.size, 1, none⟩ = false := bkw6.frozen 1
 go_upto_region 5 with fail
 obtain ⟨w6, hw6⟩ : ∃ x, x = w5.setCell ⟨w4.heap.size, 1, none⟩ (.int .i64 5) := ⟨_, rfl⟩
 rw [← hw6]
 have f_b_w6 : Hid (w6.heap[w4.heap.size]? = some (Obj.cells ({ (atV 2 w3.heap.size 1) with ino := 5 } : Nv).cells 44)) := by show _ = _; rw [hw6]; exact setCell_heap _ _ _ _ _ _ _ f_b_w5.out
 have f_r_w6 : Hid (w6.heap[w.heap.size]? = some (Obj.cells mroV.cells 44)) := by show _ = _; rw [hw6, set_other _ _ _ _ _ (by omega)]; exact f_r_w5.out
 have f_sa_w6 : Hid (w6.heap[w1.heap.size]? = some (Obj.cells #[.string nA] 9)) := by show _ = _; rw [hw6, set_other _ _ _ _ _ (by omega)]; exact f_sa_w5.out
 have f_a_w6 : Hid (w6.heap[w2.heap.size]? = some (Obj.cells (atV 2 w1.heap.size 1).cells 44)) := by show _ = _; rw [hw6, set_other _ _ _ _ _ (by omega)]; exact f_a_w5.out
 have f_sb_w6 : Hid (w6.heap[w3.heap.size]? = some (Obj.cells #[.string nB] 9)) := by show _ = _; rw [hw6, set_other _ _ _ _ _ (by omega)]; exact f_sb_w5.out
 have Gw6 : Hid (Below w.heap.size w w6) := by show Below _ _ _; rw [hw6]; exact Gw5.out.setCell (by show w.heap.size ≤ w4.heap.size; omega) _
 have Yw6 : Hid (w6.heap.size = w5.heap.size) := by show _ = _; rw [hw6]; simp
 clear hw6 cw6 zw6 bkw6
 go_upto_region 6 with (go_at_call 18; refine (at_any 1 _ 1 _).mono ?_; rintro e w7 ⟨rfl, hbw7⟩; have HBw7 := hide hbw7; clear hbw7)
 obtain ⟨w8, hw8⟩ : ∃ x, x = w7.alloc (Obj.cells #[.slice (some ⟨w6.heap.size, 0, none⟩) 1 1, .int .i64 1, .int .i64 1, .int .i64 0, .int .i64 0, .int .i64 0, .slice none 0 0, .string ⟨#[]⟩, .slice none 0 0, .bool false] 44) := ⟨_, rfl⟩
 rw [← hw8]
 have hbw8 : Below w7.heap.size w7 w8 := by rw [hw8]; exact below_one _ _
 have Bw8 : Hid (Below w6.heap.size w6 w8) := ((below_one w6 _).trans (HBw7.out.mono (below_one w6 _).size)).trans (hbw8.mono (Nat.le_trans (below_one w6 _).size HBw7.out.size))
 have f_r_w8 : Hid (w8.heap[w.heap.size]? = some (Obj.cells mroV.cells 44)) := up_blk Bw8.out f_r_w6.out
 have f_sa_w8 : Hid (w8.heap[w1.heap.size]? = some (Obj.cells #[.string nA] 9)) := up_blk Bw8.out f_sa_w6.out
 have f_a_w8 : Hid (w8.heap[w2.heap.size]? = some (Obj.cells (atV 2 w1.heap.size 1).cells 44)) := up_blk Bw8.out f_a_w6.out
 have f_sb_w8 : Hid (w8.heap[w3.heap.size]? = some (Obj.cells #[.string nB] 9)) := up_blk Bw8.out f_sb_w6.out
 have f_b_w8 : Hid (w8.heap[w4.heap.size]? = some (Obj.cells ({ (atV 2 w3.heap.size 1) with ino := 5 } : Nv).cells 44)) := up_blk Bw8.out f_b_w6.out
 have f_sd_w8 : Hid (w8.heap[w6.heap.size]? = some (Obj.cells #[.string nD] 9)) := up_blk hbw8 (up_blk HBw7.out (heap_alloc_new _ _))
 have f_d_w8 : Hid (w8.heap[w7.heap.size]? = some (Obj.cells (atV 1 w6.heap.size 1).cells 44)) := by show _ = _; rw [hw8]; exact heap_alloc_new _ _
 have Gw8 : Hid (Below w.heap.size w w8) := Gw6.out.trans (Bw8.out.mono Gw6.out.size)
 have zw8 : w6.heap.size < w7.heap.size := by have h2 := HBw7.out.size; rw [World.size_alloc] at h2; omega
 have yw8 : w7.heap.size < w8.heap.size := heap_lt f_d_w8.out
 clear hw8 hbw8
 have bkw9 : Bk w8 (w7.heap.size) _ := f_d_w8.out
 have cw9 : w8.cell? ⟨w7.heap.size, 9, none⟩ = some (.bool false) := bkw9.box.c9
 have zw9 : w8.frozen? ⟨w7.heap.size, 9, none⟩ = false := bkw9.frozen 9
 go_upto_region 7 with fail
 obtain ⟨w9, hw9⟩ : ∃ x, x = w8.setCell ⟨w7.heap.size, 9, none⟩ (.bool true) := ⟨_, rfl⟩
 rw [← hw9]
 have f_d_w9 : Hid (w9.heap[w7.heap.size]? = some (Obj.cells ({ (atV 1 w6.heap.size 1) with op := true } : Nv).cells 44)) := by show _ = _; rw [hw9]; exact setCell_heap _ _ _ _ _ _ _ f_d_w8.out
 have f_r_w9 : Hid (w9.heap[w.heap.size]? = some (Obj.cells mroV.cells 44)) := by show _ = _; rw [hw9, set_other _ _ _ _ _ (by have := Yw6.out; omega)]; exact f_r_w8.out
 have f_sa_w9 : Hid (w9.heap[w1.heap.size]? = some (Obj.cells #[.string nA] 9)) := by show _ = _; rw [hw9, set_other _ _ _ _ _ (by have := Yw6.out; omega)]; exact f_sa_w8.out
 have f_a_w9 : Hid (w9.heap[w2.heap.size]? = some (Obj.cells (atV 2 w1.heap.size 1).cells 44)) := by show _ = _; rw [hw9, set_other _ _ _ _ _ (by have := Yw6.out; omega)]; exact f_a_w8.out
 have f_sb_w9 : Hid (w9.heap[w3.heap.size]? = some (Obj.cells #[.string nB] 9)) := by show _ = _; rw [hw9, set_other _ _ _ _ _ (by have := Yw6.out; omega)]; exact f_sb_w8.out
 have f_b_w9 : Hid (w9.heap[w4.heap.size]? = some (Obj.cells ({ (atV 2 w3.heap.size 1) with ino := 5 } : Nv).cells 44)) := by show _ = _; rw [hw9, set_other _ _ _ _ _ (by have := Yw6.out; omega)]; exact f_b_w8.out
 have f_sd_w9 : Hid (w9.heap[w6.heap.size]? = some (Obj.cells #[.string nD] 9)) := by show _ = _; rw [hw9, set_other _ _ _ _ _ (by have := Yw6.out; omega)]; exact f_sd_w8.out
 have Gw9 : Hid (Below w.heap.size w w9) := by show Below _ _ _; rw [hw9]; exact Gw8.out.setCell (by show w.heap.size ≤ w7.heap.size; have := Yw6.out; omega) _
 have Yw9 : Hid (w9.heap.size = w8.heap.size) := by show _ = _; rw [hw9]; simp
 clear hw9 cw9 zw9 bkw9
 have HX : Hid (SX w w9 w.heap.size w1.heap.size w2.heap.size w3.heap.size w4.heap.size w6.heap.size w7.heap.size) := ⟨f_r_w9.out, f_sa_w9.out, f_a_w9.out, f_sb_w9.out, f_b_w9.out, f_sd_w9.out, f_d_w9.out, Gw9.out⟩
 clear HR1 HB1 HBw2 HBw4 HBw7 Bw3 Bw5 Bw8 Gw3 Gw5 Gw6 Gw8 Gw9 f_r_w3 f_sa_w3 f_a_w3 f_r_w5 f_sa_w5 f_a_w5 f_sb_w5 f_b_w5 f_r_w6 f_sa_w6 f_a_w6 f_sb_w6 f_b_w6 f_r_w8 f_sa_w8 f_a_w8 f_sb_w8 f_b_w8 f_sd_w8 f_d_w8 f_r_w9 f_sa_w9 f_a_w9 f_sb_w9 f_b_w9 f_sd_w9 f_d_w9
 have HL1 : Hid (∀ W, Below w9.heap.size w9 W → W.cell? ⟨w.heap.size, 0, none⟩ = some (.slice none 0 0) ∧ W.cell? ⟨w.heap.size, 1, none⟩ = some (.int .i64 9) ∧ W.cell? ⟨w.heap.size, 2, none⟩ = some (.int .i64 1) ∧ W.cell? ⟨w.heap.size, 3, none⟩ = some (.int .i64 0) ∧ W.cell? ⟨w.heap.size, 4, none⟩ = some (.int .i64 0) ∧ W.cell? ⟨w.heap.size, 5, none⟩ = some (.int .i64 0) ∧ W.cell? ⟨w.heap.size, 6, none⟩ = some (.slice none 0 0) ∧ W.cell? ⟨w.heap.size, 7, none⟩ = some (.string ⟨#[]⟩) ∧ W.cell? ⟨w.heap.size, 8, none⟩ = some (.slice none 0 0) ∧ W.cell? ⟨w.heap.size, 9, none⟩ = some (.bool false)) := fun W hW => by
  obtain ⟨_, b0, b1, b2, b3, b4, b5, b6, b7, b8, b9⟩ := Bk.box (up_blk hW HX.out.r)
  exact ⟨b0, b1, b2, b3, b4, b5, b6, b7, b8, b9⟩
 go_cut [5] from 9 (fun s5 wx => ∃ b5 p6 p7, s5 = .slice (some ⟨b5, 0, none⟩) 3 3 ∧ wx.heap[b5]? = some (Obj.cells #[.slice none 0 0, .int .i64 9, .int .i64 1, .int .i64 0, .int .i64 0, .int .i64 0, .slice none 0 0, .string ⟨#[]⟩, .slice none 0 0, .bool false, .slice (some ⟨p6, 0, none⟩) 1 1, .int .i64 1, .int .i64 1, .int .i64 0, .int .i64 0, .int .i64 0, .slice none 0 0, .string ⟨#[]⟩, .slice none 0 0, .bool false, .slice (some ⟨p7, 0, none⟩) 2 2, .int .i64 2, .int .i64 2, .int .i64 0, .int .i64 0, .int .i64 0, .slice none 0 0, .string ⟨#[]⟩, .slice none 0 0, .bool false] 44) ∧ wx.heap[p6]? = some (Obj.cells #[.string nD] 9) ∧ wx.heap[p7]? = some (Obj.cells #[.string nD, .string nF] 9) ∧ Below w9.heap.size w9 wx)
 case first =>
  refine wp_region_held_drew (S := fun wX => Below w9.heap.size w9 wX) (by kernel_rfl) (below_drewN (Below.refl _ _) 1) (fun hHeld => ?_)
  obtain ⟨wd, hwd⟩ : ∃ x, x = w9.drewN 1 := ⟨_, rfl⟩
  have Swd : Hid (Below w9.heap.size w9 wd) := by show Below _ _ _; rw [hwd]; exact below_drewN (Below.refl _ _) 1
  first | rw [← hwd] | (have hwd2 : wd = w9.drew := hwd; rw [← hwd2]; clear hwd2)
  clear hwd
  refine wpAnyH_take (i := 0) (oi := ⟨some 18, _, _, _, _, _⟩) (v := ?_) rfl (by kernel_rfl) (by kernel_rfl) (by kernel_rfl) (fun _ _ _ h => h) (Or.inl ⟨by rfl, ?_⟩) (by assumption) ?_
  rotate_left
  ·(intro wS hSw; obtain ⟨b0, b1, b2, b3, b4, b5, b6, b7, b8, b9⟩ := HL1.out wS hSw; go_simp; try with_reducible rfl)
  try simp only [Act.put, List.setIfInBounds_toArray, List.set_cons_zero, List.set_cons_succ]
  refine wpAnyH_ready (rs := [1, 3]) (by kernel_rfl) (by simp) ?_
  refine AllReadyH.cons (o := ⟨some 19, _, _, _, _, _⟩) rfl (fun K hK => ?_) (AllReadyH.cons (o := ⟨some 21, _, _, _, _, _⟩) rfl (fun K hK => ?_) AllReadyH.nil)
  ·go_simp
   obtain ⟨x1, hx1⟩ : ∃ x, x = wd.alloc (Obj.cells #[.string ⟨#[100]⟩] 9) := ⟨_, rfl⟩
   rw [← hx1]
   have Bx1 : Hid (Below wd.heap.size wd x1) := by show Below _ _ _; rw [hx1]; exact below_one _ _
   have e_s1_x1 : Hid (x1.heap[wd.heap.size]? = some (Obj.cells #[.string ⟨#[100]⟩] 9)) := by show _ = _; rw [hx1]; exact heap_alloc_new _ _
   have Sx1 := hide (Swd.out.trans (Bx1.out.mono Swd.out.size))
   clear hx1
   refine hK.out _ _ Sx1.out (fun hHeld => ?_)
   clear hK K
   try simp only [Act.put, List.setIfInBounds_toArray, List.set_cons_zero, List.set_cons_succ]
   refine wpAnyH_ready (rs := [2, 3]) (by kernel_rfl) (by simp) ?_
   refine AllReadyH.cons (o := ⟨some 20, _, _, _, _, _⟩) rfl (fun K hK => ?_) (AllReadyH.cons (o := ⟨some 21, _, _, _, _, _⟩) rfl (fun K hK => ?_) AllReadyH.nil)
   ·go_simp
    refine (at_any 1 _ 1 _).mono ?_
    rintro e x3 ⟨rfl, hbx3⟩
    have Bx3 := hide hbx3
    clear hbx3
    have e_s1_x3 : Hid (x3.heap[wd.heap.size]? = some (Obj.cells #[.string ⟨#[100]⟩] 9)) := up_blk Bx3.out e_s1_x1.out
    have Sx3 := hide (Sx1.out.trans (Bx3.out.mono Sx1.out.size))
    refine hK.out _ _ Sx3.out (fun hHeld => ?_)
    clear hK K
    try simp only [Act.put, List.setIfInBounds_toArray, List.set_cons_zero, List.set_cons_succ]
    refine wpAnyH_ready (rs := [3]) (by kernel_rfl) (by simp) ?_
    refine AllReadyH.cons (o := ⟨some 21, _, _, _, _, _⟩) rfl (fun K hK => ?_) AllReadyH.nil
    go_simp
    obtain ⟨x5, hx5⟩ : ∃ x, x = x3.alloc (Obj.cells #[.string ⟨#[100]⟩, .string ⟨#[102]⟩] 9) := ⟨_, rfl⟩
    rw [← hx5]
    have Bx5 : Hid (Below x3.heap.size x3 x5) := by show Below _ _ _; rw [hx5]; exact below_one _ _
    have e_s1_x5 : Hid (x5.heap[wd.heap.size]? = some (Obj.cells #[.string ⟨#[100]⟩] 9)) := up_blk Bx5.out e_s1_x3.out
    have e_s2_x5 : Hid (x5.heap[x3.heap.size]? = some (Obj.cells #[.string ⟨#[100]⟩, .string ⟨#[102]⟩] 9)) := by show _ = _; rw [hx5]; exact heap_alloc_new _ _
    have Sx5 := hide (Sx3.out.trans (Bx5.out.mono Sx3.out.size))
    clear hx5
    refine hK.out _ _ Sx5.out (fun hHeld => ?_)
    clear hK K
    try simp only [Act.put, List.setIfInBounds_toArray, List.set_cons_zero, List.set_cons_succ]
    refine wpAnyH_ready (rs := [4]) (by kernel_rfl) (by simp) ?_
    refine AllReadyH.cons (o := ⟨some 22, _, _, _, _, _⟩) rfl (fun K hK => ?_) AllReadyH.nil
    go_simp
    refine (at_any 2 _ 2 _).mono ?_
    rintro e x6 ⟨rfl, hbx6⟩
    have Bx6 := hide hbx6
    clear hbx6
    have e_s1_x6 : Hid (x6.heap[wd.heap.size]? = some (Obj.cells #[.string ⟨#[100]⟩] 9)) := up_blk Bx6.out e_s1_x5.out
    have e_s2_x6 : Hid (x6.heap[x3.heap.size]? = some (Obj.cells #[.string ⟨#[100]⟩, .string ⟨#[102]⟩] 9)) := up_blk Bx6.out e_s2_x5.out
    have Sx6 := hide (Sx5.out.trans (Bx6.out.mono Sx5.out.size))
    refine hK.out _ _ Sx6.out (fun hHeld => ?_)
    clear hK K
    try simp only [Act.put, List.setIfInBounds_toArray, List.set_cons_zero, List.set_cons_succ]
    refine wpAnyH_ready (rs := [5]) (by kernel_rfl) (by simp) ?_
    refine AllReadyH.cons (o := ⟨some 23, _, _, _, _, _⟩) rfl (fun K hK => ?_) AllReadyH.nil
    go_simp
    obtain ⟨x7, hx7⟩ : ∃ x, x = x6.alloc (Obj.cells #[.slice none 0 0, .int .i64 9, .int .i64 1, .int .i64 0, .int .i64 0, .int .i64 0, .slice none 0 0, .string ⟨#[]⟩, .slice none 0 0, .bool false, .slice (some ⟨wd.heap.size, 0, none⟩) 1 1, .int .i64 1, .int .i64 1, .int .i64 0, .int .i64 0, .int .i64 0, .slice none 0 0, .string ⟨#[]⟩, .slice none 0 0, .bool false, .slice (some ⟨x3.heap.size, 0, none⟩) 2 2, .int .i64 2, .int .i64 2, .int .i64 0, .int .i64 0, .int .i64 0, .slice none 0 0, .string ⟨#[]⟩, .slice none 0 0, .bool false] 44) := ⟨_, rfl⟩
    rw [← hx7]
    have Bx7 : Hid (Below x6.heap.size x6 x7) := by show Below _ _ _; rw [hx7]; exact below_one _ _
    have e_s1_x7 : Hid (x7.heap[wd.heap.size]? = some (Obj.cells #[.string ⟨#[100]⟩] 9)) := up_blk Bx7.out e_s1_x6.out
    have e_s2_x7 : Hid (x7.heap[x3.heap.size]? = some (Obj.cells #[.string ⟨#[100]⟩, .string ⟨#[102]⟩] 9)) := up_blk Bx7.out e_s2_x6.out
    have e_ar_x7 : Hid (x7.heap[x6.heap.size]? = some (Obj.cells #[.slice none 0 0, .int .i64 9, .int .i64 1, .int .i64 0, .int .i64 0, .int .i64 0, .slice none 0 0, .string ⟨#[]⟩, .slice none 0 0, .bool false, .slice (some ⟨wd.heap.size, 0, none⟩) 1 1, .int .i64 1, .int .i64 1, .int .i64 0, .int .i64 0, .int .i64 0, .slice none 0 0, .string ⟨#[]⟩, .slice none 0 0, .bool false, .slice (some ⟨x3.heap.size, 0, none⟩) 2 2, .int .i64 2, .int .i64 2, .int .i64 0, .int .i64 0, .int .i64 0, .slice none 0 0, .string ⟨#[]⟩, .slice none 0 0, .bool false] 44)) := by show _ = _; rw [hx7]; exact heap_alloc_new _ _
    have Sx7 := hide (Sx6.out.trans (Bx7.out.mono Sx6.out.size))
    clear hx7
    refine hK.out _ _ Sx7.out (fun hHeld => ?_)
    clear hK K
    try simp only [Act.put, List.setIfInBounds_toArray, List.set_cons_zero, List.set_cons_succ]
    refine wpAnyH_take (i := 6) (oi := ⟨some 5, _, _, _, _, _⟩) (v := ?_) rfl (by kernel_rfl) (by kernel_rfl) (by kernel_rfl) (fun _ _ _ h => h) (Or.inl ⟨by rfl, ?_⟩) (by assumption) ?_
    rotate_left
    ·(intro wS hSw; go_simp; try with_reducible rfl)
    try simp only [Act.put, List.setIfInBounds_toArray, List.set_cons_zero, List.set_cons_succ]
    refine wpAnyH_done (by kernel_rfl) ?_ _
    clear hHeld
    go_wp2_with fail
    go_meet
    exact ⟨_, _, _, rfl, e_ar_x7.out, e_s1_x7.out, e_s2_x7.out, Sx7.out⟩
   ·go_simp
    obtain ⟨x4, hx4⟩ : ∃ x, x = x1.alloc (Obj.cells #[.string ⟨#[100]⟩, .string ⟨#[102]⟩] 9) := ⟨_, rfl⟩
    rw [← hx4]
    have Bx4 : Hid (Below x1.heap.size x1 x4) := by show Below _ _ _; rw [hx4]; exact below_one _ _
    have e_s1_x4 : Hid (x4.heap[wd.heap.size]? = some (Obj.cells #[.string ⟨#[100]⟩] 9)) := up_blk Bx4.out e_s1_x1.out
    have e_s2_x4 : Hid (x4.heap[x1.heap.size]? = some (Obj.cells #[.string ⟨#[100]⟩, .string ⟨#[102]⟩] 9)) := by show _ = _; rw [hx4]; exact heap_alloc_new _ _
    have Sx4 := hide (Sx1.out.trans (Bx4.out.mono Sx1.out.size))
    clear hx4
    refine hK.out _ _ Sx4.out (fun hHeld => ?_)
    clear hK K
    try simp only [Act.put, List.setIfInBounds_toArray, List.set_cons_zero, List.set_cons_succ]
    refine wpAnyH_ready (rs := [2]) (by kernel_rfl) (by simp) ?_
    refine AllReadyH.cons (o := ⟨some 20, _, _, _, _, _⟩) rfl (fun K hK => ?_) AllReadyH.nil
    go_simp
    refine (at_any 1 _ 1 _).mono ?_
    rintro e x8 ⟨rfl, hbx8⟩
    have Bx8 := hide hbx8
    clear hbx8
    have e_s1_x8 : Hid (x8.heap[wd.heap.size]? = some (Obj.cells #[.string ⟨#[100]⟩] 9)) := up_blk Bx8.out e_s1_x4.out
    have e_s2_x8 : Hid (x8.heap[x1.heap.size]? = some (Obj.cells #[.string ⟨#[100]⟩, .string ⟨#[102]⟩] 9)) := up_blk Bx8.out e_s2_x4.out
    have Sx8 := hide (Sx4.out.trans (Bx8.out.mono Sx4.out.size))
    refine hK.out _ _ Sx8.out (fun hHeld => ?_)
    clear hK K
    try simp only [Act.put, List.setIfInBounds_toArray, List.set_cons_zero, List.set_cons_succ]
    refine wpAnyH_ready (rs := [4]) (by kernel_rfl) (by simp) ?_
    refine AllReadyH.cons (o := ⟨some 22, _, _, _, _, _⟩) rfl (fun K hK => ?_) AllReadyH.nil
    go_simp
    refine (at_any 2 _ 2 _).mono ?_
    rintro e x9 ⟨rfl, hbx9⟩
    have Bx9 := hide hbx9
    clear hbx9
    have e_s1_x9 : Hid (x9.heap[wd.heap.size]? = some (Obj.cells #[.string ⟨#[100]⟩] 9)) := up_blk Bx9.out e_s1_x8.out
    have e_s2_x9 : Hid (x9.heap[x1.heap.size]? = some (Obj.cells #[.string ⟨#[100]⟩, .string ⟨#[102]⟩] 9)) := up_blk Bx9.out e_s2_x8.out
    have Sx9 := hide (Sx8.out.trans (Bx9.out.mono Sx8.out.size))
    refine hK.out _ _ Sx9.out (fun hHeld => ?_)
    clear hK K
    try simp only [Act.put, List.setIfInBounds_toArray, List.set_cons_zero, List.set_cons_succ]
    refine wpAnyH_ready (rs := [5]) (by kernel_rfl) (by simp) ?_
    refine AllReadyH.cons (o := ⟨some 23, _, _, _, _, _⟩) rfl (fun K hK => ?_) AllReadyH.nil
    go_simp
    obtain ⟨x10, hx10⟩ : ∃ x, x = x9.alloc (Obj.cells #[.slice none 0 0, .int .i64 9, .int .i64 1, .int .i64 0, .int .i64 0, .int .i64 0, .slice none 0 0, .string ⟨#[]⟩, .slice none 0 0, .bool false, .slice (some ⟨wd.heap.size, 0, none⟩) 1 1, .int .i64 1, .int .i64 1, .int .i64 0, .int .i64 0, .int .i64 0, .slice none 0 0, .string ⟨#[]⟩, .slice none 0 0, .bool false, .slice (some ⟨x1.heap.size, 0, none⟩) 2 2, .int .i64 2, .int .i64 2, .int .i64 0, .int .i64 0, .int .i64 0, .slice none 0 0, .string ⟨#[]⟩, .slice none 0 0, .bool false] 44) := ⟨_, rfl⟩
    rw [← hx10]
    have Bx10 : Hid (Below x9.heap.size x9 x10) := by show Below _ _ _; rw [hx10]; exact below_one _ _
    have e_s1_x10 : Hid (x10.heap[wd.heap.size]? = some (Obj.cells #[.string ⟨#[100]⟩] 9)) := up_blk Bx10.out e_s1_x9.out
    have e_s2_x10 : Hid (x10.heap[x1.heap.size]? = some (Obj.cells #[.string ⟨#[100]⟩, .string ⟨#[102]⟩] 9)) := up_blk Bx10.out e_s2_x9.out
    have e_ar_x10 : Hid (x10.heap[x9.heap.size]? = some (Obj.cells #[.slice none 0 0, .int .i64 9, .int .i64 1, .int .i64 0, .int .i64 0, .int .i64 0, .slice none 0 0, .string ⟨#[]⟩, .slice none 0 0, .bool false, .slice (some ⟨wd.heap.size, 0, none⟩) 1 1, .int .i64 1, .int .i64 1, .int .i64 0, .int .i64 0, .int .i64 0, .slice none 0 0, .string ⟨#[]⟩, .slice none 0 0, .bool false, .slice (some ⟨x1.heap.size, 0, none⟩) 2 2, .int .i64 2, .int .i64 2, .int .i64 0, .int .i64 0, .int .i64 0, .slice none 0 0, .string ⟨#[]⟩, .slice none 0 0, .bool false] 44)) := by show _ = _; rw [hx10]; exact heap_alloc_new _ _
    have Sx10 := hide (Sx9.out.trans (Bx10.out.mono Sx9.out.size))
    clear hx10
    refine hK.out _ _ Sx10.out (fun hHeld => ?_)
    clear hK K
    try simp only [Act.put, List.setIfInBounds_toArray, List.set_cons_zero, List.set_cons_succ]
    refine wpAnyH_take (i := 6) (oi := ⟨some 5, _, _, _, _, _⟩) (v := ?_) rfl (by kernel_rfl) (by kernel_rfl) (by kernel_rfl) (fun _ _ _ h => h) (Or.inl ⟨by rfl, ?_⟩) (by assumption) ?_
    rotate_left
    ·(intro wS hSw; go_simp; try with_reducible rfl)
    try simp only [Act.put, List.setIfInBounds_toArray, List.set_cons_zero, List.set_cons_succ]
    refine wpAnyH_done (by kernel_rfl) ?_ _
    clear hHeld
    go_wp2_with fail
    go_meet
    exact ⟨_, _, _, rfl, e_ar_x10.out, e_s1_x10.out, e_s2_x10.out, Sx10.out⟩
  ·go_simp
   obtain ⟨x2, hx2⟩ : ∃ x, x = wd.alloc (Obj.cells #[.string ⟨#[100]⟩, .string ⟨#[102]⟩] 9) := ⟨_, rfl⟩
   rw [← hx2]
   have Bx2 : Hid (Below wd.heap.size wd x2) := by show Below _ _ _; rw [hx2]; exact below_one _ _
   have e_s2_x2 : Hid (x2.heap[wd.heap.size]? = some (Obj.cells #[.string ⟨#[100]⟩, .string ⟨#[102]⟩] 9)) := by show _ = _; rw [hx2]; exact heap_alloc_new _ _
   have Sx2 := hide (Swd.out.trans (Bx2.out.mono Swd.out.size))
   clear hx2
   refine hK.out _ _ Sx2.out (fun hHeld => ?_)
   clear hK K
   try simp only [Act.put, List.setIfInBounds_toArray, List.set_cons_zero, List.set_cons_succ]
   refine wpAnyH_ready (rs := [1]) (by kernel_rfl) (by simp) ?_
   refine AllReadyH.cons (o := ⟨some 19, _, _, _, _, _⟩) rfl (fun K hK => ?_) AllReadyH.nil
   go_simp
   obtain ⟨x11, hx11⟩ : ∃ x, x = x2.alloc (Obj.cells #[.string ⟨#[100]⟩] 9) := ⟨_, rfl⟩
   rw [← hx11]
   have Bx11 : Hid (Below x2.heap.size x2 x11) := by show Below _ _ _; rw [hx11]; exact below_one _ _
   have e_s2_x11 : Hid (x11.heap[wd.heap.size]? = some (Obj.cells #[.string ⟨#[100]⟩, .string ⟨#[102]⟩] 9)) := up_blk Bx11.out e_s2_x2.out
   have e_s1_x11 : Hid (x11.heap[x2.heap.size]? = some (Obj.cells #[.string ⟨#[100]⟩] 9)) := by show _ = _; rw [hx11]; exact heap_alloc_new _ _
   have Sx11 := hide (Sx2.out.trans (Bx11.out.mono Sx2.out.size))
   clear hx11
   refine hK.out _ _ Sx11.out (fun hHeld => ?_)
   clear hK K
   try simp only [Act.put, List.setIfInBounds_toArray, List.set_cons_zero, List.set_cons_succ]
   refine wpAnyH_ready (rs := [2]) (by kernel_rfl) (by simp) ?_
   refine AllReadyH.cons (o := ⟨some 20, _, _, _, _, _⟩) rfl (fun K hK => ?_) AllReadyH.nil
   go_simp
   refine (at_any 1 _ 1 _).mono ?_
   rintro e x12 ⟨rfl, hbx12⟩
   have Bx12 := hide hbx12
   clear hbx12
   have e_s2_x12 : Hid (x12.heap[wd.heap.size]? = some (Obj.cells #[.string ⟨#[100]⟩, .string ⟨#[102]⟩] 9)) := up_blk Bx12.out e_s2_x11.out
   have e_s1_x12 : Hid (x12.heap[x2.heap.size]? = some (Obj.cells #[.string ⟨#[100]⟩] 9)) := up_blk Bx12.out e_s1_x11.out
   have Sx12 := hide (Sx11.out.trans (Bx12.out.mono Sx11.out.size))
   refine hK.out _ _ Sx12.out (fun hHeld => ?_)
   clear hK K
   try simp only [Act.put, List.setIfInBounds_toArray, List.set_cons_zero, List.set_cons_succ]
   refine wpAnyH_ready (rs := [4]) (by kernel_rfl) (by simp) ?_
   refine AllReadyH.cons (o := ⟨some 22, _, _, _, _, _⟩) rfl (fun K hK => ?_) AllReadyH.nil
   go_simp
   refine (at_any 2 _ 2 _).mono ?_
   rintro e x13 ⟨rfl, hbx13⟩
   have Bx13 := hide hbx13
   clear hbx13
   have e_s2_x13 : Hid (x13.heap[wd.heap.size]? = some (Obj.cells #[.string ⟨#[100]⟩, .string ⟨#[102]⟩] 9)) := up_blk Bx13.out e_s2_x12.out
   have e_s1_x13 : Hid (x13.heap[x2.heap.size]? = some (Obj.cells #[.string ⟨#[100]⟩] 9)) := up_blk Bx13.out e_s1_x12.out
   have Sx13 := hide (Sx12.out.trans (Bx13.out.mono Sx12.out.size))
   refine hK.out _ _ Sx13.out (fun hHeld => ?_)
   clear hK K
   try simp only [Act.put, List.setIfInBounds_toArray, List.set_cons_zero, List.set_cons_succ]
   refine wpAnyH_ready (rs := [5]) (by kernel_rfl) (by simp) ?_
   refine AllReadyH.cons (o := ⟨some 23, _, _, _, _, _⟩) rfl (fun K hK => ?_) AllReadyH.nil
   go_simp
   obtain ⟨x14, hx14⟩ : ∃ x, x = x13.alloc (Obj.cells #[.slice none 0 0, .int .i64 9, .int .i64 1, .int .i64 0, .int .i64 0, .int .i64 0, .slice none 0 0, .string ⟨#[]⟩, .slice none 0 0, .bool false, .slice (some ⟨x2.heap.size, 0, none⟩) 1 1, .int .i64 1, .int .i64 1, .int .i64 0, .int .i64 0, .int .i64 0, .slice none 0 0, .string ⟨#[]⟩, .slice none 0 0, .bool false, .slice (some ⟨wd.heap.size, 0, none⟩) 2 2, .int .i64 2, .int .i64 2, .int .i64 0, .int .i64 0, .int .i64 0, .slice none 0 0, .string ⟨#[]⟩, .slice none 0 0, .bool false] 44) := ⟨_, rfl⟩
   rw [← hx14]
   have Bx14 : Hid (Below x13.heap.size x13 x14) := by show Below _ _ _; rw [hx14]; exact below_one _ _
   have e_s2_x14 : Hid (x14.heap[wd.heap.size]? = some (Obj.cells #[.string ⟨#[100]⟩, .string ⟨#[102]⟩] 9)) := up_blk Bx14.out e_s2_x13.out
   have e_s1_x14 : Hid (x14.heap[x2.heap.size]? = some (Obj.cells #[.string ⟨#[100]⟩] 9)) := up_blk Bx14.out e_s1_x13.out
   have e_ar_x14 : Hid (x14.heap[x13.heap.size]? = some (Obj.cells #[.slice none 0 0, .int .i64 9, .int .i64 1, .int .i64 0, .int .i64 0, .int .i64 0, .slice none 0 0, .string ⟨#[]⟩, .slice none 0 0, .bool false, .slice (some ⟨x2.heap.size, 0, none⟩) 1 1, .int .i64 1, .int .i64 1, .int .i64 0, .int .i64 0, .int .i64 0, .slice none 0 0, .string ⟨#[]⟩, .slice none 0 0, .bool false, .slice (some ⟨wd.heap.size, 0, none⟩) 2 2, .int .i64 2, .int .i64 2, .int .i64 0, .int .i64 0, .int .i64 0, .slice none 0 0, .string ⟨#[]⟩, .slice none 0 0, .bool false] 44)) := by show _ = _; rw [hx14]; exact heap_alloc_new _ _
   have Sx14 := hide (Sx13.out.trans (Bx14.out.mono Sx13.out.size))
   clear hx14
   refine hK.out _ _ Sx14.out (fun hHeld => ?_)
   clear hK K
   try simp only [Act.put, List.setIfInBounds_toArray, List.set_cons_zero, List.set_cons_succ]
   refine wpAnyH_take (i := 6) (oi := ⟨some 5, _, _, _, _, _⟩) (v := ?_) rfl (by kernel_rfl) (by kernel_rfl) (by kernel_rfl) (fun _ _ _ h => h) (Or.inl ⟨by rfl, ?_⟩) (by assumption) ?_
   rotate_left
   ·(intro wS hSw; go_simp; try with_reducible rfl)
   try simp only [Act.put, List.setIfInBounds_toArray, List.set_cons_zero, List.set_cons_succ]
   refine wpAnyH_done (by kernel_rfl) ?_ _
   clear hHeld
   go_wp2_with fail
   go_meet
   exact ⟨_, _, _, rfl, e_ar_x14.out, e_s1_x14.out, e_s2_x14.out, Sx14.out⟩
 case rest =>
  obtain ⟨b5, p6, p7, rfl, hb5, hp6, hp7, hbc⟩ := hcut
  obtain ⟨v7, rfl⟩ : ∃ x, x = wc := ⟨wc, rfl⟩
  have HX7 := hide (HX.out.below hbc)
  have HF5 := hide hb5
  have HF6 := hide hp6
  have HF7 := hide hp7
  clear hb5 hp6 hp7 hbc HL1 HX
  have HL1 : Hid (∀ W, Below v7.heap.size v7 W → W.cell? ⟨w.heap.size, 0, none⟩ = some (.slice none 0 0) ∧ W.cell? ⟨w.heap.size, 1, none⟩ = some (.int .i64 9) ∧ W.cell? ⟨w.heap.size, 2, none⟩ = some (.int .i64 1) ∧ W.cell? ⟨w.heap.size, 3, none⟩ = some (.int .i64 0) ∧ W.cell? ⟨w.heap.size, 4, none⟩ = some (.int .i64 0) ∧ W.cell? ⟨w.heap.size, 5, none⟩ = some (.int .i64 0) ∧ W.cell? ⟨w.heap.size, 6, none⟩ = some (.slice none 0 0) ∧ W.cell? ⟨w.heap.size, 7, none⟩ = some (.string ⟨#[]⟩) ∧ W.cell? ⟨w.heap.size, 8, none⟩ = some (.slice none 0 0) ∧ W.cell? ⟨w.heap.size, 9, none⟩ = some (.bool false)) := fun W hW => by
   obtain ⟨_, b0, b1, b2, b3, b4, b5, b6, b7, b8, b9⟩ := Bk.box (up_blk hW HX7.out.r)
   exact ⟨b0, b1, b2, b3, b4, b5, b6, b7, b8, b9⟩
  have HL2 : Hid (∀ W, Below v7.heap.size v7 W → W.cell? ⟨w2.heap.size, 0, none⟩ = some (.slice (some ⟨w1.heap.size, 0, none⟩) 1 1) ∧ W.cell? ⟨w2.heap.size, 1, none⟩ = some (.int .i64 1) ∧ W.cell? ⟨w2.heap.size, 2, none⟩ = some (.int .i64 2) ∧ W.cell? ⟨w2.heap.size, 3, none⟩ = some (.int .i64 0) ∧ W.cell? ⟨w2.heap.size, 4, none⟩ = some (.int .i64 0) ∧ W.cell? ⟨w2.heap.size, 5, none⟩ = some (.int .i64 0) ∧ W.cell? ⟨w2.heap.size, 6, none⟩ = some (.slice none 0 0) ∧ W.cell? ⟨w2.heap.size, 7, none⟩ = some (.string ⟨#[]⟩) ∧ W.cell? ⟨w2.heap.size, 8, none⟩ = some (.slice none 0 0) ∧ W.cell? ⟨w2.heap.size, 9, none⟩ = some (.bool false)) := fun W hW => by
   obtain ⟨_, b0, b1, b2, b3, b4, b5, b6, b7, b8, b9⟩ := Bk.box (up_blk hW HX7.out.a)
   exact ⟨b0, b1, b2, b3, b4, b5, b6, b7, b8, b9⟩
  have HL3 : Hid (∀ W, Below v7.heap.size v7 W → W.cell? ⟨w4.heap.size, 0, none⟩ = some (.slice (some ⟨w3.heap.size, 0, none⟩) 1 1) ∧ W.cell? ⟨w4.heap.size, 1, none⟩ = some (.int .i64 5) ∧ W.cell? ⟨w4.heap.size, 2, none⟩ = some (.int .i64 2) ∧ W.cell? ⟨w4.heap.size, 3, none⟩ = some (.int .i64 0) ∧ W.cell? ⟨w4.heap.size, 4, none⟩ = some (.int .i64 0) ∧ W.cell? ⟨w4.heap.size, 5, none⟩ = some (.int .i64 0) ∧ W.cell? ⟨w4.heap.size, 6, none⟩ = some (.slice none 0 0) ∧ W.cell? ⟨w4.heap.size, 7, none⟩ = some (.string ⟨#[]⟩) ∧ W.cell? ⟨w4.heap.size, 8, none⟩ = some (.slice none 0 0) ∧ W.cell? ⟨w4.heap.size, 9, none⟩ = some (.bool false)) := fun W hW => by
   obtain ⟨_, b0, b1, b2, b3, b4, b5, b6, b7, b8, b9⟩ := Bk.box (up_blk hW HX7.out.b)
   exact ⟨b0, b1, b2, b3, b4, b5, b6, b7, b8, b9⟩
  go_upto_region 8 with fail
  go_cut [6] from 9 (fun s6 wx => ∃ a6 c6 P6, s6 = .slice a6 2 c6 ∧ Ns wx a6 2 P6 ∧ (gl P6 1).2.names = [nB] ∧ Below v7.heap.size v7 wx)
  case first =>
   refine wp_region_held_drew (S := fun wX => Below v7.heap.size v7 wX) (by kernel_rfl) (below_drewN (Below.refl _ _) 1) (fun hHeld => ?_)
   obtain ⟨wd, hwd⟩ : ∃ x, x = v7.drewN 1 := ⟨_, rfl⟩
   have Swd : Hid (Below v7.heap.size v7 wd) := by show Below _ _ _; rw [hwd]; exact below_drewN (Below.refl _ _) 1
   first | rw [← hwd] | (have hwd2 : wd = v7.drew := hwd; rw [← hwd2]; clear hwd2)
   clear hwd
   refine wpAnyH_take (i := 0) (oi := ⟨some 24, _, _, _, _, _⟩) (v := ?_) rfl (by kernel_rfl) (by kernel_rfl) (by kernel_rfl) (fun _ _ _ h => h) (Or.inl ⟨by rfl, ?_⟩) (by assumption) ?_
   rotate_left
   ·(intro wS hSw; obtain ⟨b0, b1, b2, b3, b4, b5, b6, b7, b8, b9⟩ := HL1.out wS hSw; go_simp; try with_reducible rfl)
   try simp only [Act.put, List.setIfInBounds_toArray, List.set_cons_zero, List.set_cons_succ]
   refine wpAnyH_take (i := 4) (oi := ⟨some 28, _, _, _, _, _⟩) (v := ?_) rfl (by kernel_rfl) (by kernel_rfl) (by kernel_rfl) (fun _ _ _ h => h) (Or.inl ⟨by rfl, ?_⟩) (by assumption) ?_
   rotate_left
   ·(intro wS hSw; obtain ⟨b0, b1, b2, b3, b4, b5, b6, b7, b8, b9⟩ := HL1.out wS hSw; go_simp; try with_reducible rfl)
   try simp only [Act.put, List.setIfInBounds_toArray, List.set_cons_zero, List.set_cons_succ]
   refine wpAnyH_take (i := 5) (oi := ⟨some 29, _, _, _, _, _⟩) (v := ?_) rfl (by kernel_rfl) (by kernel_rfl) (by kernel_rfl) (fun _ _ _ h => h) (Or.inl ⟨by rfl, ?_⟩) (by assumption) ?_
   rotate_left
   ·(intro wS hSw; obtain ⟨b0, b1, b2, b3, b4, b5, b6, b7, b8, b9⟩ := HL2.out wS hSw; go_simp; try with_reducible rfl)
   try simp only [Act.put, List.setIfInBounds_toArray, List.set_cons_zero, List.set_cons_succ]
   refine wpAnyH_take (i := 6) (oi := ⟨some 30, _, _, _, _, _⟩) (v := ?_) rfl (by kernel_rfl) (by kernel_rfl) (by kernel_rfl) (fun _ _ _ h => h) (Or.inl ⟨by rfl, ?_⟩) (by assumption) ?_
   rotate_left
   ·(intro wS hSw; obtain ⟨b0, b1, b2, b3, b4, b5, b6, b7, b8, b9⟩ := HL3.out wS hSw; go_simp; try with_reducible rfl)
   try simp only [Act.put, List.setIfInBounds_toArray, List.set_cons_zero, List.set_cons_succ]
   refine wpAnyH_ready (rs := [1, 7]) (by kernel_rfl) (by simp) ?_
   refine AllReadyH.cons (o := ⟨some 25, _, _, _, _, _⟩) rfl (fun K hK => ?_) (AllReadyH.cons (o := ⟨some 31, _, _, _, _, _⟩) rfl (fun K hK => ?_) AllReadyH.nil)
   ·go_simp
    obtain ⟨x15, hx15⟩ : ∃ x, x = wd.alloc (Obj.cells #[.string ⟨#[97]⟩] 9) := ⟨_, rfl⟩
    rw [← hx15]
    have Bx15 : Hid (Below wd.heap.size wd x15) := by show Below _ _ _; rw [hx15]; exact below_one _ _
    have e_s_x15 : Hid (x15.heap[wd.heap.size]? = some (Obj.cells #[.string ⟨#[97]⟩] 9)) := by show _ = _; rw [hx15]; exact heap_alloc_new _ _
    have Sx15 := hide (Swd.out.trans (Bx15.out.mono Swd.out.size))
    clear hx15
    refine hK.out _ _ Sx15.out (fun hHeld => ?_)
    clear hK K
    try simp only [Act.put, List.setIfInBounds_toArray, List.set_cons_zero, List.set_cons_succ]
    refine wpAnyH_ready (rs := [2, 7]) (by kernel_rfl) (by simp) ?_
    refine AllReadyH.cons (o := ⟨some 26, _, _, _, _, _⟩) rfl (fun K hK => ?_) (AllReadyH.cons (o := ⟨some 31, _, _, _, _, _⟩) rfl (fun K hK => ?_) AllReadyH.nil)
    ·go_simp
     refine (at_any 4 _ 1 _).mono ?_
     rintro e x17 ⟨rfl, hbx17⟩
     have Bx17 := hide hbx17
     clear hbx17
     have e_s_x17 : Hid (x17.heap[wd.heap.size]? = some (Obj.cells #[.string ⟨#[97]⟩] 9)) := up_blk Bx17.out e_s_x15.out
     have Sx17 := hide (Sx15.out.trans (Bx17.out.mono Sx15.out.size))
     refine hK.out _ _ Sx17.out (fun hHeld => ?_)
     clear hK K
     try simp only [Act.put, List.setIfInBounds_toArray, List.set_cons_zero, List.set_cons_succ]
     refine wpAnyH_ready (rs := [3, 7]) (by kernel_rfl) (by simp) ?_
     refine AllReadyH.cons (o := ⟨some 27, _, _, _, _, _⟩) rfl (fun K hK => ?_) (AllReadyH.cons (o := ⟨some 31, _, _, _, _, _⟩) rfl (fun K hK => ?_) AllReadyH.nil)
     ·go_simp
      obtain ⟨x19, hx19⟩ : ∃ x, x = x17.alloc (Obj.cells #[.slice none 0 0, .int .i64 9, .int .i64 1, .int .i64 0, .int .i64 0, .int .i64 0, .slice none 0 0, .string ⟨#[]⟩, .slice none 0 0, .bool false, .slice (some ⟨wd.heap.size, 0, none⟩) 1 1, .int .i64 1, .int .i64 4, .int .i64 0, .int .i64 0, .int .i64 0, .slice none 0 0, .string ⟨#[]⟩, .slice none 0 0, .bool false] 44) := ⟨_, rfl⟩
      rw [← hx19]
      have Bx19 : Hid (Below x17.heap.size x17 x19) := by show Below _ _ _; rw [hx19]; exact below_one _ _
      have e_s_x19 : Hid (x19.heap[wd.heap.size]? = some (Obj.cells #[.string ⟨#[97]⟩] 9)) := up_blk Bx19.out e_s_x17.out
      have e_p27_x19 : Hid (x19.heap[x17.heap.size]? = some (Obj.cells #[.slice none 0 0, .int .i64 9, .int .i64 1, .int .i64 0, .int .i64 0, .int .i64 0, .slice none 0 0, .string ⟨#[]⟩, .slice none 0 0, .bool false, .slice (some ⟨wd.heap.size, 0, none⟩) 1 1, .int .i64 1, .int .i64 4, .int .i64 0, .int .i64 0, .int .i64 0, .slice none 0 0, .string ⟨#[]⟩, .slice none 0 0, .bool false] 44)) := by show _ = _; rw [hx19]; exact heap_alloc_new _ _
      have Sx19 := hide (Sx17.out.trans (Bx19.out.mono Sx17.out.size))
      clear hx19
      refine hK.out _ _ Sx19.out (fun hHeld => ?_)
      clear hK K
      try simp only [Act.put, List.setIfInBounds_toArray, List.set_cons_zero, List.set_cons_succ]
      refine wpAnyH_ready (rs := [7]) (by kernel_rfl) (by simp) ?_
      refine AllReadyH.cons (o := ⟨some 31, _, _, _, _, _⟩) rfl (fun K hK => ?_) AllReadyH.nil
      go_simp
      obtain ⟨x21, hx21⟩ : ∃ x, x = x19.alloc (Obj.cells #[.slice none 0 0, .int .i64 9, .int .i64 1, .int .i64 0, .int .i64 0, .int .i64 0, .slice none 0 0, .string ⟨#[]⟩, .slice none 0 0, .bool false, .slice (some ⟨w1.heap.size, 0, none⟩) 1 1, .int .i64 1, .int .i64 2, .int .i64 0, .int .i64 0, .int .i64 0, .slice none 0 0, .string ⟨#[]⟩, .slice none 0 0, .bool false, .slice (some ⟨w3.heap.size, 0, none⟩) 1 1, .int .i64 5, .int .i64 2, .int .i64 0, .int .i64 0, .int .i64 0, .slice none 0 0, .string ⟨#[]⟩, .slice none 0 0, .bool false] 44) := ⟨_, rfl⟩
      rw [← hx21]
      have Bx21 : Hid (Below x19.heap.size x19 x21) := by show Below _ _ _; rw [hx21]; exact below_one _ _
      have e_s_x21 : Hid (x21.heap[wd.heap.size]? = some (Obj.cells #[.string ⟨#[97]⟩] 9)) := up_blk Bx21.out e_s_x19.out
      have e_p27_x21 : Hid (x21.heap[x17.heap.size]? = some (Obj.cells #[.slice none 0 0, .int .i64 9, .int .i64 1, .int .i64 0, .int .i64 0, .int .i64 0, .slice none 0 0, .string ⟨#[]⟩, .slice none 0 0, .bool false, .slice (some ⟨wd.heap.size, 0, none⟩) 1 1, .int .i64 1, .int .i64 4, .int .i64 0, .int .i64 0, .int .i64 0, .slice none 0 0, .string ⟨#[]⟩, .slice none 0 0, .bool false] 44)) := up_blk Bx21.out e_p27_x19.out
      have e_p31_x21 : Hid (x21.heap[x19.heap.size]? = some (Obj.cells #[.slice none 0 0, .int .i64 9, .int .i64 1, .int .i64 0, .int .i64 0, .int .i64 0, .slice none 0 0, .string ⟨#[]⟩, .slice none 0 0, .bool false, .slice (some ⟨w1.heap.size, 0, none⟩) 1 1, .int .i64 1, .int .i64 2, .int .i64 0, .int .i64 0, .int .i64 0, .slice none 0 0, .string ⟨#[]⟩, .slice none 0 0, .bool false, .slice (some ⟨w3.heap.size, 0, none⟩) 1 1, .int .i64 5, .int .i64 2, .int .i64 0, .int .i64 0, .int .i64 0, .slice none 0 0, .string ⟨#[]⟩, .slice none 0 0, .bool false] 44)) := by show _ = _; rw [hx21]; exact heap_alloc_new _ _
      have Sx21 := hide (Sx19.out.trans (Bx21.out.mono Sx19.out.size))
      clear hx21
      refine hK.out _ _ Sx21.out (fun hHeld => ?_)
      clear hK K
      try simp only [Act.put, List.setIfInBounds_toArray, List.set_cons_zero, List.set_cons_succ]
      refine wpAnyH_ready (rs := [8]) (by kernel_rfl) (by simp) ?_
      refine AllReadyH.cons (o := ⟨some 32, _, _, _, _, _⟩) rfl (fun K hK => ?_) AllReadyH.nil
      go_simp
      obtain ⟨x22, hx22⟩ : ∃ x, x = x21.alloc (Obj.cells #[.slice (some ⟨x17.heap.size, 0, none⟩) 2 2, .slice (some ⟨x19.heap.size, 0, none⟩) 3 3] 25) := ⟨_, rfl⟩
      rw [← hx22]
      have Bx22 : Hid (Below x21.heap.size x21 x22) := by show Below _ _ _; rw [hx22]; exact below_one _ _
      have e_s_x22 : Hid (x22.heap[wd.heap.size]? = some (Obj.cells #[.string ⟨#[97]⟩] 9)) := up_blk Bx22.out e_s_x21.out
      have e_p27_x22 : Hid (x22.heap[x17.heap.size]? = some (Obj.cells #[.slice none 0 0, .int .i64 9, .int .i64 1, .int .i64 0, .int .i64 0, .int .i64 0, .slice none 0 0, .string ⟨#[]⟩, .slice none 0 0, .bool false, .slice (some ⟨wd.heap.size, 0, none⟩) 1 1, .int .i64 1, .int .i64 4, .int .i64 0, .int .i64 0, .int .i64 0, .slice none 0 0, .string ⟨#[]⟩, .slice none 0 0, .bool false] 44)) := up_blk Bx22.out e_p27_x21.out
      have e_p31_x22 : Hid (x22.heap[x19.heap.size]? = some (Obj.cells #[.slice none 0 0, .int .i64 9, .int .i64 1, .int .i64 0, .int .i64 0, .int .i64 0, .slice none 0 0, .string ⟨#[]⟩, .slice none 0 0, .bool false, .slice (some ⟨w1.heap.size, 0, none⟩) 1 1, .int .i64 1, .int .i64 2, .int .i64 0, .int .i64 0, .int .i64 0, .slice none 0 0, .string ⟨#[]⟩, .slice none 0 0, .bool false, .slice (some ⟨w3.heap.size, 0, none⟩) 1 1, .int .i64 5, .int .i64 2, .int .i64 0, .int .i64 0, .int .i64 0, .slice none 0 0, .string ⟨#[]⟩, .slice none 0 0, .bool false] 44)) := up_blk Bx22.out e_p31_x21.out
      have e_p32_x22 : Hid (x22.heap[x21.heap.size]? = some (Obj.cells #[.slice (some ⟨x17.heap.size, 0, none⟩) 2 2, .slice (some ⟨x19.heap.size, 0, none⟩) 3 3] 25)) := by show _ = _; rw [hx22]; exact heap_alloc_new _ _
      have Sx22 := hide (Sx21.out.trans (Bx22.out.mono Sx21.out.size))
      clear hx22
      refine hK.out _ _ Sx22.out (fun hHeld => ?_)
      clear hK K
      try simp only [Act.put, List.setIfInBounds_toArray, List.set_cons_zero, List.set_cons_succ]
      refine wpAnyH_ready (rs := [9]) (by kernel_rfl) (by simp) ?_
      refine AllReadyH.cons (o := ⟨some 33, _, _, _, _, _⟩) rfl (fun K hK => ?_) AllReadyH.nil
      go_simp
      refine (mX_any e_p32_x22.out e_p27_x22.out e_p31_x22.out e_s_x22.out (up_blk Sx22.out HX7.out.sa) (up_blk Sx22.out HX7.out.sb)).mono ?_
      rintro e x23 ⟨a6, c6, P6, rfl, hns, hnm, hbx23⟩
      have HNS := hide hns
      have HNM := hide hnm
      have Bx23 := hide hbx23
      clear hns hnm hbx23
      have Sx23 := hide (Sx22.out.trans (Bx23.out.mono Sx22.out.size))
      refine hK.out _ _ Sx23.out (fun hHeld => ?_)
      clear hK K
      try simp only [Act.put, List.setIfInBounds_toArray, List.set_cons_zero, List.set_cons_succ]
      refine wpAnyH_take (i := 10) (oi := ⟨some 6, _, _, _, _, _⟩) (v := ?_) rfl (by kernel_rfl) (by kernel_rfl) (by kernel_rfl) (fun _ _ _ h => h) (Or.inl ⟨by rfl, ?_⟩) (by assumption) ?_
      rotate_left
      ·(intro wS hSw; go_simp; try with_reducible rfl)
      try simp only [Act.put, List.setIfInBounds_toArray, List.set_cons_zero, List.set_cons_succ]
      refine wpAnyH_done (by kernel_rfl) ?_ _
      clear hHeld
      go_wp2_with fail
      go_meet
      exact ⟨_, _, P6, rfl, HNS.out, HNM.out, Sx23.out⟩
     ·go_simp
      obtain ⟨x20, hx20⟩ : ∃ x, x = x17.alloc (Obj.cells #[.slice none 0 0, .int .i64 9, .int .i64 1, .int .i64 0, .int .i64 0, .int .i64 0, .slice none 0 0, .string ⟨#[]⟩, .slice none 0 0, .bool false, .slice (some ⟨w1.heap.size, 0, none⟩) 1 1, .int .i64 1, .int .i64 2, .int .i64 0, .int .i64 0, .int .i64 0, .slice none 0 0, .string ⟨#[]⟩, .slice none 0 0, .bool false, .slice (some ⟨w3.heap.size, 0, none⟩) 1 1, .int .i64 5, .int .i64 2, .int .i64 0, .int .i64 0, .int .i64 0, .slice none 0 0, .string ⟨#[]⟩, .slice none 0 0, .bool false] 44) := ⟨_, rfl⟩
      rw [← hx20]
      have Bx20 : Hid (Below x17.heap.size x17 x20) := by show Below _ _ _; rw [hx20]; exact below_one _ _
      have e_s_x20 : Hid (x20.heap[wd.heap.size]? = some (Obj.cells #[.string ⟨#[97]⟩] 9)) := up_blk Bx20.out e_s_x17.out
      have e_p31_x20 : Hid (x20.heap[x17.heap.size]? = some (Obj.cells #[.slice none 0 0, .int .i64 9, .int .i64 1, .int .i64 0, .int .i64 0, .int .i64 0, .slice none 0 0, .string ⟨#[]⟩, .slice none 0 0, .bool false, .slice (some ⟨w1.heap.size, 0, none⟩) 1 1, .int .i64 1, .int .i64 2, .int .i64 0, .int .i64 0, .int .i64 0, .slice none 0 0, .string ⟨#[]⟩, .slice none 0 0, .bool false, .slice (some ⟨w3.heap.size, 0, none⟩) 1 1, .int .i64 5, .int .i64 2, .int .i64 0, .int .i64 0, .int .i64 0, .slice none 0 0, .string ⟨#[]⟩, .slice none 0 0, .bool false] 44)) := by show _ = _; rw [hx20]; exact heap_alloc_new _ _
      have Sx20 := hide (Sx17.out.trans (Bx20.out.mono Sx17.out.size))
      clear hx20
      refine hK.out _ _ Sx20.out (fun hHeld => ?_)
      clear hK K
      try simp only [Act.put, List.setIfInBounds_toArray, List.set_cons_zero, List.set_cons_succ]
      refine wpAnyH_ready (rs := [3]) (by kernel_rfl) (by simp) ?_
      refine AllReadyH.cons (o := ⟨some 27, _, _, _, _, _⟩) rfl (fun K hK => ?_) AllReadyH.nil
      go_simp
      obtain ⟨x24, hx24⟩ : ∃ x, x = x20.alloc (Obj.cells #[.slice none 0 0, .int .i64 9, .int .i64 1, .int .i64 0, .int .i64 0, .int .i64 0, .slice none 0 0, .string ⟨#[]⟩, .slice none 0 0, .bool false, .slice (some ⟨wd.heap.size, 0, none⟩) 1 1, .int .i64 1, .int .i64 4, .int .i64 0, .int .i64 0, .int .i64 0, .slice none 0 0, .string ⟨#[]⟩, .slice none 0 0, .bool false] 44) := ⟨_, rfl⟩
      rw [← hx24]
      have Bx24 : Hid (Below x20.heap.size x20 x24) := by show Below _ _ _; rw [hx24]; exact below_one _ _
      have e_s_x24 : Hid (x24.heap[wd.heap.size]? = some (Obj.cells #[.string ⟨#[97]⟩] 9)) := up_blk Bx24.out e_s_x20.out
      have e_p31_x24 : Hid (x24.heap[x17.heap.size]? = some (Obj.cells #[.slice none 0 0, .int .i64 9, .int .i64 1, .int .i64 0, .int .i64 0, .int .i64 0, .slice none 0 0, .string ⟨#[]⟩, .slice none 0 0, .bool false, .slice (some ⟨w1.heap.size, 0, none⟩) 1 1, .int .i64 1, .int .i64 2, .int .i64 0, .int .i64 0, .int .i64 0, .slice none 0 0, .string ⟨#[]⟩, .slice none 0 0, .bool false, .slice (some ⟨w3.heap.size, 0, none⟩) 1 1, .int .i64 5, .int .i64 2, .int .i64 0, .int .i64 0, .int .i64 0, .slice none 0 0, .string ⟨#[]⟩, .slice none 0 0, .bool false] 44)) := up_blk Bx24.out e_p31_x20.out
      have e_p27_x24 : Hid (x24.heap[x20.heap.size]? = some (Obj.cells #[.slice none 0 0, .int .i64 9, .int .i64 1, .int .i64 0, .int .i64 0, .int .i64 0, .slice none 0 0, .string ⟨#[]⟩, .slice none 0 0, .bool false, .slice (some ⟨wd.heap.size, 0, none⟩) 1 1, .int .i64 1, .int .i64 4, .int .i64 0, .int .i64 0, .int .i64 0, .slice none 0 0, .string ⟨#[]⟩, .slice none 0 0, .bool false] 44)) := by show _ = _; rw [hx24]; exact heap_alloc_new _ _
      have Sx24 := hide (Sx20.out.trans (Bx24.out.mono Sx20.out.size))
      clear hx24
      refine hK.out _ _ Sx24.out (fun hHeld => ?_)
      clear hK K
      try simp only [Act.put, List.setIfInBounds_toArray, List.set_cons_zero, List.set_cons_succ]
      refine wpAnyH_ready (rs := [8]) (by kernel_rfl) (by simp) ?_
      refine AllReadyH.cons (o := ⟨some 32, _, _, _, _, _⟩) rfl (fun K hK => ?_) AllReadyH.nil
      go_simp
      obtain ⟨x25, hx25⟩ : ∃ x, x = x24.alloc (Obj.cells #[.slice (some ⟨x20.heap.size, 0, none⟩) 2 2, .slice (some ⟨x17.heap.size, 0, none⟩) 3 3] 25) := ⟨_, rfl⟩
      rw [← hx25]
      have Bx25 : Hid (Below x24.heap.size x24 x25) := by show Below _ _ _; rw [hx25]; exact below_one _ _
      have e_s_x25 : Hid (x25.heap[wd.heap.size]? = some (Obj.cells #[.string ⟨#[97]⟩] 9)) := up_blk Bx25.out e_s_x24.out
      have e_p31_x25 : Hid (x25.heap[x17.heap.size]? = some (Obj.cells #[.slice none 0 0, .int .i64 9, .int .i64 1, .int .i64 0, .int .i64 0, .int .i64 0, .slice none 0 0, .string ⟨#[]⟩, .slice none 0 0, .bool false, .slice (some ⟨w1.heap.size, 0, none⟩) 1 1, .int .i64 1, .int .i64 2, .int .i64 0, .int .i64 0, .int .i64 0, .slice none 0 0, .string ⟨#[]⟩, .slice none 0 0, .bool false, .slice (some ⟨w3.heap.size, 0, none⟩) 1 1, .int .i64 5, .int .i64 2, .int .i64 0, .int .i64 0, .int .i64 0, .slice none 0 0, .string ⟨#[]⟩, .slice none 0 0, .bool false] 44)) := up_blk Bx25.out e_p31_x24.out
      have e_p27_x25 : Hid (x25.heap[x20.heap.size]? = some (Obj.cells #[.slice none 0 0, .int .i64 9, .int .i64 1, .int .i64 0, .int .i64 0, .int .i64 0, .slice none 0 0, .string ⟨#[]⟩, .slice none 0 0, .bool false, .slice (some ⟨wd.heap.size, 0, none⟩) 1 1, .int .i64 1, .int .i64 4, .int .i64 0, .int .i64 0, .int .i64 0, .slice none 0 0, .string ⟨#[]⟩, .slice none 0 0, .bool false] 44)) := up_blk Bx25.out e_p27_x24.out
      have e_p32_x25 : Hid (x25.heap[x24.heap.size]? = some (Obj.cells #[.slice (some ⟨x20.heap.size, 0, none⟩) 2 2, .slice (some ⟨x17.heap.size, 0, none⟩) 3 3] 25)) := by show _ = _; rw [hx25]; exact heap_alloc_new _ _
      have Sx25 := hide (Sx24.out.trans (Bx25.out.mono Sx24.out.size))
      clear hx25
      refine hK.out _ _ Sx25.out (fun hHeld => ?_)
      clear hK K
      try simp only [Act.put, List.setIfInBounds_toArray, List.set_cons_zero, List.set_cons_succ]
      refine wpAnyH_ready (rs := [9]) (by kernel_rfl) (by simp) ?_
      refine AllReadyH.cons (o := ⟨some 33, _, _, _, _, _⟩) rfl (fun K hK => ?_) AllReadyH.nil
      go_simp
      refine (mX_any e_p32_x25.out e_p27_x25.out e_p31_x25.out e_s_x25.out (up_blk Sx25.out HX7.out.sa) (up_blk Sx25.out HX7.out.sb)).mono ?_
      rintro e x26 ⟨a6, c6, P6, rfl, hns, hnm, hbx26⟩
      have HNS := hide hns
      have HNM := hide hnm
      have Bx26 := hide hbx26
      clear hns hnm hbx26
      have Sx26 := hide (Sx25.out.trans (Bx26.out.mono Sx25.out.size))
      refine hK.out _ _ Sx26.out (fun hHeld => ?_)
      clear hK K
      try simp only [Act.put, List.setIfInBounds_toArray, List.set_cons_zero, List.set_cons_succ]
      refine wpAnyH_take (i := 10) (oi := ⟨some 6, _, _, _, _, _⟩) (v := ?_) rfl (by kernel_rfl) (by kernel_rfl) (by kernel_rfl) (fun _ _ _ h => h) (Or.inl ⟨by rfl, ?_⟩) (by assumption) ?_
      rotate_left
      ·(intro wS hSw; go_simp; try with_reducible rfl)
      try simp only [Act.put, List.setIfInBounds_toArray, List.set_cons_zero, List.set_cons_succ]
      refine wpAnyH_done (by kernel_rfl) ?_ _
      clear hHeld
      go_wp2_with fail
      go_meet
      exact ⟨_, _, P6, rfl, HNS.out, HNM.out, Sx26.out⟩
    ·go_simp
     obtain ⟨x18, hx18⟩ : ∃ x, x = x15.alloc (Obj.cells #[.slice none 0 0, .int .i64 9, .int .i64 1, .int .i64 0, .int .i64 0, .int .i64 0, .slice none 0 0, .string ⟨#[]⟩, .slice none 0 0, .bool false, .slice (some ⟨w1.heap.size, 0, none⟩) 1 1, .int .i64 1, .int .i64 2, .int .i64 0, .int .i64 0, .int .i64 0, .slice none 0 0, .string ⟨#[]⟩, .slice none 0 0, .bool false, .slice (some ⟨w3.heap.size, 0, none⟩) 1 1, .int .i64 5, .int .i64 2, .int .i64 0, .int .i64 0, .int .i64 0, .slice none 0 0, .string ⟨#[]⟩, .slice none 0 0, .bool false] 44) := ⟨_, rfl⟩
     rw [← hx18]
     have Bx18 : Hid (Below x15.heap.size x15 x18) := by show Below _ _ _; rw [hx18]; exact below_one _ _
     have e_s_x18 : Hid (x18.heap[wd.heap.size]? = some (Obj.cells #[.string ⟨#[97]⟩] 9)) := up_blk Bx18.out e_s_x15.out
     have e_p31_x18 : Hid (x18.heap[x15.heap.size]? = some (Obj.cells #[.slice none 0 0, .int .i64 9, .int .i64 1, .int .i64 0, .int .i64 0, .int .i64 0, .slice none 0 0, .string ⟨#[]⟩, .slice none 0 0, .bool false, .slice (some ⟨w1.heap.size, 0, none⟩) 1 1, .int .i64 1, .int .i64 2, .int .i64 0, .int .i64 0, .int .i64 0, .slice none 0 0, .string ⟨#[]⟩, .slice none 0 0, .bool false, .slice (some ⟨w3.heap.size, 0, none⟩) 1 1, .int .i64 5, .int .i64 2, .int .i64 0, .int .i64 0, .int .i64 0, .slice none 0 0, .string ⟨#[]⟩, .slice none 0 0, .bool false] 44)) := by show _ = _; rw [hx18]; exact heap_alloc_new _ _
     have Sx18 := hide (Sx15.out.trans (Bx18.out.mono Sx15.out.size))
     clear hx18
     refine hK.out _ _ Sx18.out (fun hHeld => ?_)
     clear hK K
     try simp only [Act.put, List.setIfInBounds_toArray, List.set_cons_zero, List.set_cons_succ]
     refine wpAnyH_ready (rs := [2]) (by kernel_rfl) (by simp) ?_
     refine AllReadyH.cons (o := ⟨some 26, _, _, _, _, _⟩) rfl (fun K hK => ?_) AllReadyH.nil
     go_simp
     refine (at_any 4 _ 1 _).mono ?_
     rintro e x27 ⟨rfl, hbx27⟩
     have Bx27 := hide hbx27
     clear hbx27
     have e_s_x27 : Hid (x27.heap[wd.heap.size]? = some (Obj.cells #[.string ⟨#[97]⟩] 9)) := up_blk Bx27.out e_s_x18.out
     have e_p31_x27 : Hid (x27.heap[x15.heap.size]? = some (Obj.cells #[.slice none 0 0, .int .i64 9, .int .i64 1, .int .i64 0, .int .i64 0, .int .i64 0, .slice none 0 0, .string ⟨#[]⟩, .slice none 0 0, .bool false, .slice (some ⟨w1.heap.size, 0, none⟩) 1 1, .int .i64 1, .int .i64 2, .int .i64 0, .int .i64 0, .int .i64 0, .slice none 0 0, .string ⟨#[]⟩, .slice none 0 0, .bool false, .slice (some ⟨w3.heap.size, 0, none⟩) 1 1, .int .i64 5, .int .i64 2, .int .i64 0, .int .i64 0, .int .i64 0, .slice none 0 0, .string ⟨#[]⟩, .slice none 0 0, .bool false] 44)) := up_blk Bx27.out e_p31_x18.out
     have Sx27 := hide (Sx18.out.trans (Bx27.out.mono Sx18.out.size))
     refine hK.out _ _ Sx27.out (fun hHeld => ?_)
     clear hK K
     try simp only [Act.put, List.setIfInBounds_toArray, List.set_cons_zero, List.set_cons_succ]
     refine wpAnyH_ready (rs := [3]) (by kernel_rfl) (by simp) ?_
     refine AllReadyH.cons (o := ⟨some 27, _, _, _, _, _⟩) rfl (fun K hK => ?_) AllReadyH.nil
     go_simp
     obtain ⟨x28, hx28⟩ : ∃ x, x = x27.alloc (Obj.cells #[.slice none 0 0, .int .i64 9, .int .i64 1, .int .i64 0, .int .i64 0, .int .i64 0, .slice none 0 0, .string ⟨#[]⟩, .slice none 0 0, .bool false, .slice (some ⟨wd.heap.size, 0, none⟩) 1 1, .int .i64 1, .int .i64 4, .int .i64 0, .int .i64 0, .int .i64 0, .slice none 0 0, .string ⟨#[]⟩, .slice none 0 0, .bool false] 44) := ⟨_, rfl⟩
     rw [← hx28]
     have Bx28 : Hid (Below x27.heap.size x27 x28) := by show Below _ _ _; rw [hx28]; exact below_one _ _
     have e_s_x28 : Hid (x28.heap[wd.heap.size]? = some (Obj.cells #[.string ⟨#[97]⟩] 9)) := up_blk Bx28.out e_s_x27.out
     have e_p31_x28 : Hid (x28.heap[x15.heap.size]? = some (Obj.cells #[.slice none 0 0, .int .i64 9, .int .i64 1, .int .i64 0, .int .i64 0, .int .i64 0, .slice none 0 0, .string ⟨#[]⟩, .slice none 0 0, .bool false, .slice (some ⟨w1.heap.size, 0, none⟩) 1 1, .int .i64 1, .int .i64 2, .int .i64 0, .int .i64 0, .int .i64 0, .slice none 0 0, .string ⟨#[]⟩, .slice none 0 0, .bool false, .slice (some ⟨w3.heap.size, 0, none⟩) 1 1, .int .i64 5, .int .i64 2, .int .i64 0, .int .i64 0, .int .i64 0, .slice none 0 0, .string ⟨#[]⟩, .slice none 0 0, .bool false] 44)) := up_blk Bx28.out e_p31_x27.out
     have e_p27_x28 : Hid (x28.heap[x27.heap.size]? = some (Obj.cells #[.slice none 0 0, .int .i64 9, .int .i64 1, .int .i64 0, .int .i64 0, .int .i64 0, .slice none 0 0, .string ⟨#[]⟩, .slice none 0 0, .bool false, .slice (some ⟨wd.heap.size, 0, none⟩) 1 1, .int .i64 1, .int .i64 4, .int .i64 0, .int .i64 0, .int .i64 0, .slice none 0 0, .string ⟨#[]⟩, .slice none 0 0, .bool false] 44)) := by show _ = _; rw [hx28]; exact heap_alloc_new _ _
     have Sx28 := hide (Sx27.out.trans (Bx28.out.mono Sx27.out.size))
     clear hx28
     refine hK.out _ _ Sx28.out (fun hHeld => ?_)
     clear hK K
     try simp only [Act.put, List.setIfInBounds_toArray, List.set_cons_zero, List.set_cons_succ]
     refine wpAnyH_ready (rs := [8]) (by kernel_rfl) (by simp) ?_
     refine AllReadyH.cons (o := ⟨some 32, _, _, _, _, _⟩) rfl (fun K hK => ?_) AllReadyH.nil
     go_simp
     obtain ⟨x29, hx29⟩ : ∃ x, x = x28.alloc (Obj.cells #[.slice (some ⟨x27.heap.size, 0, none⟩) 2 2, .slice (some ⟨x15.heap.size, 0, none⟩) 3 3] 25) := ⟨_, rfl⟩
     rw [← hx29]
     have Bx29 : Hid (Below x28.heap.size x28 x29) := by show Below _ _ _; rw [hx29]; exact below_one _ _
     have e_s_x29 : Hid (x29.heap[wd.heap.size]? = some (Obj.cells #[.string ⟨#[97]⟩] 9)) := up_blk Bx29.out e_s_x28.out
     have e_p31_x29 : Hid (x29.heap[x15.heap.size]? = some (Obj.cells #[.slice none 0 0, .int .i64 9, .int .i64 1, .int .i64 0, .int .i64 0, .int .i64 0, .slice none 0 0, .string ⟨#[]⟩, .slice none 0 0, .bool false, .slice (some ⟨w1.heap.size, 0, none⟩) 1 1, .int .i64 1, .int .i64 2, .int .i64 0, .int .i64 0, .int .i64 0, .slice none 0 0, .string ⟨#[]⟩, .slice none 0 0, .bool false, .slice (some ⟨w3.heap.size, 0, none⟩) 1 1, .int .i64 5, .int .i64 2, .int .i64 0, .int .i64 0, .int .i64 0, .slice none 0 0, .string ⟨#[]⟩, .slice none 0 0, .bool false] 44)) := up_blk Bx29.out e_p31_x28.out
     have e_p27_x29 : Hid (x29.heap[x27.heap.size]? = some (Obj.cells #[.slice none 0 0, .int .i64 9, .int .i64 1, .int .i64 0, .int .i64 0, .int .i64 0, .slice none 0 0, .string ⟨#[]⟩, .slice none 0 0, .bool false, .slice (some ⟨wd.heap.size, 0, none⟩) 1 1, .int .i64 1, .int .i64 4, .int .i64 0, .int .i64 0, .int .i64 0, .slice none 0 0, .string ⟨#[]⟩, .slice none 0 0, .bool false] 44)) := up_blk Bx29.out e_p27_x28.out
     have e_p32_x29 : Hid (x29.heap[x28.heap.size]? = some (Obj.cells #[.slice (some ⟨x27.heap.size, 0, none⟩) 2 2, .slice (some ⟨x15.heap.size, 0, none⟩) 3 3] 25)) := by show _ = _; rw [hx29]; exact heap_alloc_new _ _
     have Sx29 := hide (Sx28.out.trans (Bx29.out.mono Sx28.out.size))
     clear hx29
     refine hK.out _ _ Sx29.out (fun hHeld => ?_)
     clear hK K
     try simp only [Act.put, List.setIfInBounds_toArray, List.set_cons_zero, List.set_cons_succ]
     refine wpAnyH_ready (rs := [9]) (by kernel_rfl) (by simp) ?_
     refine AllReadyH.cons (o := ⟨some 33, _, _, _, _, _⟩) rfl (fun K hK => ?_) AllReadyH.nil
     go_simp
     refine (mX_any e_p32_x29.out e_p27_x29.out e_p31_x29.out e_s_x29.out (up_blk Sx29.out HX7.out.sa) (up_blk Sx29.out HX7.out.sb)).mono ?_
     rintro e x30 ⟨a6, c6, P6, rfl, hns, hnm, hbx30⟩
     have HNS := hide hns
     have HNM := hide hnm
     have Bx30 := hide hbx30
     clear hns hnm hbx30
     have Sx30 := hide (Sx29.out.trans (Bx30.out.mono Sx29.out.size))
     refine hK.out _ _ Sx30.out (fun hHeld => ?_)
     clear hK K
     try simp only [Act.put, List.setIfInBounds_toArray, List.set_cons_zero, List.set_cons_succ]
     refine wpAnyH_take (i := 10) (oi := ⟨some 6, _, _, _, _, _⟩) (v := ?_) rfl (by kernel_rfl) (by kernel_rfl) (by kernel_rfl) (fun _ _ _ h => h) (Or.inl ⟨by rfl, ?_⟩) (by assumption) ?_
     rotate_left
     ·(intro wS hSw; go_simp; try with_reducible rfl)
     try simp only [Act.put, List.setIfInBounds_toArray, List.set_cons_zero, List.set_cons_succ]
     refine wpAnyH_done (by kernel_rfl) ?_ _
     clear hHeld
     go_wp2_with fail
     go_meet
     exact ⟨_, _, P6, rfl, HNS.out, HNM.out, Sx30.out⟩
   ·go_simp
    obtain ⟨x16, hx16⟩ : ∃ x, x = wd.alloc (Obj.cells #[.slice none 0 0, .int .i64 9, .int .i64 1, .int .i64 0, .int .i64 0, .int .i64 0, .slice none 0 0, .string ⟨#[]⟩, .slice none 0 0, .bool false, .slice (some ⟨w1.heap.size, 0, none⟩) 1 1, .int .i64 1, .int .i64 2, .int .i64 0, .int .i64 0, .int .i64 0, .slice none 0 0, .string ⟨#[]⟩, .slice none 0 0, .bool false, .slice (some ⟨w3.heap.size, 0, none⟩) 1 1, .int .i64 5, .int .i64 2, .int .i64 0, .int .i64 0, .int .i64 0, .slice none 0 0, .string ⟨#[]⟩, .slice none 0 0, .bool false] 44) := ⟨_, rfl⟩
    rw [← hx16]
    have Bx16 : Hid (Below wd.heap.size wd x16) := by show Below _ _ _; rw [hx16]; exact below_one _ _
    have e_p31_x16 : Hid (x16.heap[wd.heap.size]? = some (Obj.cells #[.slice none 0 0, .int .i64 9, .int .i64 1, .int .i64 0, .int .i64 0, .int .i64 0, .slice none 0 0, .string ⟨#[]⟩, .slice none 0 0, .bool false, .slice (some ⟨w1.heap.size, 0, none⟩) 1 1, .int .i64 1, .int .i64 2, .int .i64 0, .int .i64 0, .int .i64 0, .slice none 0 0, .string ⟨#[]⟩, .slice none 0 0, .bool false, .slice (some ⟨w3.heap.size, 0, none⟩) 1 1, .int .i64 5, .int .i64 2, .int .i64 0, .int .i64 0, .int .i64 0, .slice none 0 0, .string ⟨#[]⟩, .slice none 0 0, .bool false] 44)) := by show _ = _; rw [hx16]; exact heap_alloc_new _ _
    have Sx16 := hide (Swd.out.trans (Bx16.out.mono Swd.out.size))
    clear hx16
    refine hK.out _ _ Sx16.out (fun hHeld => ?_)
    clear hK K
    try simp only [Act.put, List.setIfInBounds_toArray, List.set_cons_zero, List.set_cons_succ]
    refine wpAnyH_ready (rs := [1]) (by kernel_rfl) (by simp) ?_
    refine AllReadyH.cons (o := ⟨some 25, _, _, _, _, _⟩) rfl (fun K hK => ?_) AllReadyH.nil
    go_simp
    obtain ⟨x31, hx31⟩ : ∃ x, x = x16.alloc (Obj.cells #[.string ⟨#[97]⟩] 9) := ⟨_, rfl⟩
    rw [← hx31]
    have Bx31 : Hid (Below x16.heap.size x16 x31) := by show Below _ _ _; rw [hx31]; exact below_one _ _
    have e_p31_x31 : Hid (x31.heap[wd.heap.size]? = some (Obj.cells #[.slice none 0 0, .int .i64 9, .int .i64 1, .int .i64 0, .int .i64 0, .int .i64 0, .slice none 0 0, .string ⟨#[]⟩, .slice none 0 0, .bool false, .slice (some ⟨w1.heap.size, 0, none⟩) 1 1, .int .i64 1, .int .i64 2, .int .i64 0, .int .i64 0, .int .i64 0, .slice none 0 0, .string ⟨#[]⟩, .slice none 0 0, .bool false, .slice (some ⟨w3.heap.size, 0, none⟩) 1 1, .int .i64 5, .int .i64 2, .int .i64 0, .int .i64 0, .int .i64 0, .slice none 0 0, .string ⟨#[]⟩, .slice none 0 0, .bool false] 44)) := up_blk Bx31.out e_p31_x16.out
    have e_s_x31 : Hid (x31.heap[x16.heap.size]? = some (Obj.cells #[.string ⟨#[97]⟩] 9)) := by show _ = _; rw [hx31]; exact heap_alloc_new _ _
    have Sx31 := hide (Sx16.out.trans (Bx31.out.mono Sx16.out.size))
    clear hx31
    refine hK.out _ _ Sx31.out (fun hHeld => ?_)
    clear hK K
    try simp only [Act.put, List.setIfInBounds_toArray, List.set_cons_zero, List.set_cons_succ]
    refine wpAnyH_ready (rs := [2]) (by kernel_rfl) (by simp) ?_
    refine AllReadyH.cons (o := ⟨some 26, _, _, _, _, _⟩) rfl (fun K hK => ?_) AllReadyH.nil
    go_simp
    refine (at_any 4 _ 1 _).mono ?_
    rintro e x32 ⟨rfl, hbx32⟩
    have Bx32 := hide hbx32
    clear hbx32
    have e_p31_x32 : Hid (x32.heap[wd.heap.size]? = some (Obj.cells #[.slice none 0 0, .int .i64 9, .int .i64 1, .int .i64 0, .int .i64 0, .int .i64 0, .slice none 0 0, .string ⟨#[]⟩, .slice none 0 0, .bool false, .slice (some ⟨w1.heap.size, 0, none⟩) 1 1, .int .i64 1, .int .i64 2, .int .i64 0, .int .i64 0, .int .i64 0, .slice none 0 0, .string ⟨#[]⟩, .slice none 0 0, .bool false, .slice (some ⟨w3.heap.size, 0, none⟩) 1 1, .int .i64 5, .int .i64 2, .int .i64 0, .int .i64 0, .int .i64 0, .slice none 0 0, .string ⟨#[]⟩, .slice none 0 0, .bool false] 44)) := up_blk Bx32.out e_p31_x31.out
    have e_s_x32 : Hid (x32.heap[x16.heap.size]? = some (Obj.cells #[.string ⟨#[97]⟩] 9)) := up_blk Bx32.out e_s_x31.out
    have Sx32 := hide (Sx31.out.trans (Bx32.out.mono Sx31.out.size))
    refine hK.out _ _ Sx32.out (fun hHeld => ?_)
    clear hK K
    try simp only [Act.put, List.setIfInBounds_toArray, List.set_cons_zero, List.set_cons_succ]
    refine wpAnyH_ready (rs := [3]) (by kernel_rfl) (by simp) ?_
    refine AllReadyH.cons (o := ⟨some 27, _, _, _, _, _⟩) rfl (fun K hK => ?_) AllReadyH.nil
    go_simp
    obtain ⟨x33, hx33⟩ : ∃ x, x = x32.alloc (Obj.cells #[.slice none 0 0, .int .i64 9, .int .i64 1, .int .i64 0, .int .i64 0, .int .i64 0, .slice none 0 0, .string ⟨#[]⟩, .slice none 0 0, .bool false, .slice (some ⟨x16.heap.size, 0, none⟩) 1 1, .int .i64 1, .int .i64 4, .int .i64 0, .int .i64 0, .int .i64 0, .slice none 0 0, .string ⟨#[]⟩, .slice none 0 0, .bool false] 44) := ⟨_, rfl⟩
    rw [← hx33]
    have Bx33 : Hid (Below x32.heap.size x32 x33) := by show Below _ _ _; rw [hx33]; exact below_one _ _
    have e_p31_x33 : Hid (x33.heap[wd.heap.size]? = some (Obj.cells #[.slice none 0 0, .int .i64 9, .int .i64 1, .int .i64 0, .int .i64 0, .int .i64 0, .slice none 0 0, .string ⟨#[]⟩, .slice none 0 0, .bool false, .slice (some ⟨w1.heap.size, 0, none⟩) 1 1, .int .i64 1, .int .i64 2, .int .i64 0, .int .i64 0, .int .i64 0, .slice none 0 0, .string ⟨#[]⟩, .slice none 0 0, .bool false, .slice (some ⟨w3.heap.size, 0, none⟩) 1 1, .int .i64 5, .int .i64 2, .int .i64 0, .int .i64 0, .int .i64 0, .slice none 0 0, .string ⟨#[]⟩, .slice none 0 0, .bool false] 44)) := up_blk Bx33.out e_p31_x32.out
    have e_s_x33 : Hid (x33.heap[x16.heap.size]? = some (Obj.cells #[.string ⟨#[97]⟩] 9)) := up_blk Bx33.out e_s_x32.out
    have e_p27_x33 : Hid (x33.heap[x32.heap.size]? = some (Obj.cells #[.slice none 0 0, .int .i64 9, .int .i64 1, .int .i64 0, .int .i64 0, .int .i64 0, .slice none 0 0, .string ⟨#[]⟩, .slice none 0 0, .bool false, .slice (some ⟨x16.heap.size, 0, none⟩) 1 1, .int .i64 1, .int .i64 4, .int .i64 0, .int .i64 0, .int .i64 0, .slice none 0 0, .string ⟨#[]⟩, .slice none 0 0, .bool false] 44)) := by show _ = _; rw [hx33]; exact heap_alloc_new _ _
    have Sx33 := hide (Sx32.out.trans (Bx33.out.mono Sx32.out.size))
    clear hx33
    refine hK.out _ _ Sx33.out (fun hHeld => ?_)
    clear hK K
    try simp only [Act.put, List.setIfInBounds_toArray, List.set_cons_zero, List.set_cons_succ]
    refine wpAnyH_ready (rs := [8]) (by kernel_rfl) (by simp) ?_
    refine AllReadyH.cons (o := ⟨some 32, _, _, _, _, _⟩) rfl (fun K hK => ?_) AllReadyH.nil
    go_simp
    obtain ⟨x34, hx34⟩ : ∃ x, x = x33.alloc (Obj.cells #[.slice (some ⟨x32.heap.size, 0, none⟩) 2 2, .slice (some ⟨wd.heap.size, 0, none⟩) 3 3] 25) := ⟨_, rfl⟩
    rw [← hx34]
    have Bx34 : Hid (Below x33.heap.size x33 x34) := by show Below _ _ _; rw [hx34]; exact below_one _ _
    have e_p31_x34 : Hid (x34.heap[wd.heap.size]? = some (Obj.cells #[.slice none 0 0, .int .i64 9, .int .i64 1, .int .i64 0, .int .i64 0, .int .i64 0, .slice none 0 0, .string ⟨#[]⟩, .slice none 0 0, .bool false, .slice (some ⟨w1.heap.size, 0, none⟩) 1 1, .int .i64 1, .int .i64 2, .int .i64 0, .int .i64 0, .int .i64 0, .slice none 0 0, .string ⟨#[]⟩, .slice none 0 0, .bool false, .slice (some ⟨w3.heap.size, 0, none⟩) 1 1, .int .i64 5, .int .i64 2, .int .i64 0, .int .i64 0, .int .i64 0, .slice none 0 0, .string ⟨#[]⟩, .slice none 0 0, .bool false] 44)) := up_blk Bx34.out e_p31_x33.out
    have e_s_x34 : Hid (x34.heap[x16.heap.size]? = some (Obj.cells #[.string ⟨#[97]⟩] 9)) := up_blk Bx34.out e_s_x33.out
    have e_p27_x34 : Hid (x34.heap[x32.heap.size]? = some (Obj.cells #[.slice none 0 0, .int .i64 9, .int .i64 1, .int .i64 0, .int .i64 0, .int .i64 0, .slice none 0 0, .string ⟨#[]⟩, .slice none 0 0, .bool false, .slice (some ⟨x16.heap.size, 0, none⟩) 1 1, .int .i64 1, .int .i64 4, .int .i64 0, .int .i64 0, .int .i64 0, .slice none 0 0, .string ⟨#[]⟩, .slice none 0 0, .bool false] 44)) := up_blk Bx34.out e_p27_x33.out
    have e_p32_x34 : Hid (x34.heap[x33.heap.size]? = some (Obj.cells #[.slice (some ⟨x32.heap.size, 0, none⟩) 2 2, .slice (some ⟨wd.heap.size, 0, none⟩) 3 3] 25)) := by show _ = _; rw [hx34]; exact heap_alloc_new _ _
    have Sx34 := hide (Sx33.out.trans (Bx34.out.mono Sx33.out.size))
    clear hx34
    refine hK.out _ _ Sx34.out (fun hHeld => ?_)
    clear hK K
    try simp only [Act.put, List.setIfInBounds_toArray, List.set_cons_zero, List.set_cons_succ]
    refine wpAnyH_ready (rs := [9]) (by kernel_rfl) (by simp) ?_
    refine AllReadyH.cons (o := ⟨some 33, _, _, _, _, _⟩) rfl (fun K hK => ?_) AllReadyH.nil
    go_simp
    refine (mX_any e_p32_x34.out e_p27_x34.out e_p31_x34.out e_s_x34.out (up_blk Sx34.out HX7.out.sa) (up_blk Sx34.out HX7.out.sb)).mono ?_
    rintro e x35 ⟨a6, c6, P6, rfl, hns, hnm, hbx35⟩
    have HNS := hide hns
    have HNM := hide hnm
    have Bx35 := hide hbx35
    clear hns hnm hbx35
    have Sx35 := hide (Sx34.out.trans (Bx35.out.mono Sx34.out.size))
    refine hK.out _ _ Sx35.out (fun hHeld => ?_)
    clear hK K
    try simp only [Act.put, List.setIfInBounds_toArray, List.set_cons_zero, List.set_cons_succ]
    refine wpAnyH_take (i := 10) (oi := ⟨some 6, _, _, _, _, _⟩) (v := ?_) rfl (by kernel_rfl) (by kernel_rfl) (by kernel_rfl) (fun _ _ _ h => h) (Or.inl ⟨by rfl, ?_⟩) (by assumption) ?_
    rotate_left
    ·(intro wS hSw; go_simp; try with_reducible rfl)
    try simp only [Act.put, List.setIfInBounds_toArray, List.set_cons_zero, List.set_cons_succ]
    refine wpAnyH_done (by kernel_rfl) ?_ _
    clear hHeld
    go_wp2_with fail
    go_meet
    exact ⟨_, _, P6, rfl, HNS.out, HNM.out, Sx35.out⟩
  case rest =>
   obtain ⟨a6, c6, P6, rfl, hns6, hnm6, hbc⟩ := hcut
   obtain ⟨v8, rfl⟩ : ∃ x, x = wc := ⟨wc, rfl⟩
   have HX8 := hide (HX7.out.below hbc)
   have HN6 := hide hns6
   have HM6 := hide hnm6
   have HG5 := hide (up_blk hbc HF5.out)
   have HG6 := hide (up_blk hbc HF6.out)
   have HG7 := hide (up_blk hbc HF7.out)
   clear hns6 hnm6 hbc HX7 HF5 HF6 HF7 HL1 HL2 HL3
   have HL1 : Hid (∀ W, Below v8.heap.size v8 W → W.cell? ⟨w.heap.size, 0, none⟩ = some (.slice none 0 0) ∧ W.cell? ⟨w.heap.size, 1, none⟩ = some (.int .i64 9) ∧ W.cell? ⟨w.heap.size, 2, none⟩ = some (.int .i64 1) ∧ W.cell? ⟨w.heap.size, 3, none⟩ = some (.int .i64 0) ∧ W.cell? ⟨w.heap.size, 4, none⟩ = some (.int .i64 0) ∧ W.cell? ⟨w.heap.size, 5, none⟩ = some (.int .i64 0) ∧ W.cell? ⟨w.heap.size, 6, none⟩ = some (.slice none 0 0) ∧ W.cell? ⟨w.heap.size, 7, none⟩ = some (.string ⟨#[]⟩) ∧ W.cell? ⟨w.heap.size, 8, none⟩ = some (.slice none 0 0) ∧ W.cell? ⟨w.heap.size, 9, none⟩ = some (.bool false)) := fun W hW => by
    obtain ⟨_, b0, b1, b2, b3, b4, b5, b6, b7, b8, b9⟩ := Bk.box (up_blk hW HX8.out.r)
    exact ⟨b0, b1, b2, b3, b4, b5, b6, b7, b8, b9⟩
   go_upto_region 9 with fail
   go_cut [7] from 9 (fun s7 wx => ∃ a7 c7 P7, s7 = .slice a7 3 c7 ∧ Ns wx a7 3 P7 ∧ (gl P7 2).2.names = [nD, nF] ∧ Below v8.heap.size v8 wx)
   case first =>
    refine wp_region_held_drew (S := fun wX => Below v8.heap.size v8 wX) (by kernel_rfl) (below_drewN (Below.refl _ _) 1) (fun hHeld => ?_)
    obtain ⟨wd, hwd⟩ : ∃ x, x = v8.drewN 1 := ⟨_, rfl⟩
    have Swd : Hid (Below v8.heap.size v8 wd) := by show Below _ _ _; rw [hwd]; exact below_drewN (Below.refl _ _) 1
    first | rw [← hwd] | (have hwd2 : wd = v8.drew := hwd; rw [← hwd2]; clear hwd2)
    clear hwd
    refine wpAnyH_take (i := 0) (oi := ⟨some 34, _, _, _, _, _⟩) (v := ?_) rfl (by kernel_rfl) (by kernel_rfl) (by kernel_rfl) (fun _ _ _ h => h) (Or.inl ⟨by rfl, ?_⟩) (by assumption) ?_
    rotate_left
    ·(intro wS hSw; obtain ⟨b0, b1, b2, b3, b4, b5, b6, b7, b8, b9⟩ := HL1.out wS hSw; go_simp; try with_reducible rfl)
    try simp only [Act.put, List.setIfInBounds_toArray, List.set_cons_zero, List.set_cons_succ]
    refine wpAnyH_take (i := 4) (oi := ⟨some 38, _, _, _, _, _⟩) (v := ?_) rfl (by kernel_rfl) (by kernel_rfl) (by kernel_rfl) (fun _ _ _ h => h) (Or.inl ⟨by rfl, ?_⟩) (by assumption) ?_
    rotate_left
    ·(intro wS hSw; go_simp; try with_reducible rfl)
    try simp only [Act.put, List.setIfInBounds_toArray, List.set_cons_zero, List.set_cons_succ]
    refine wpAnyH_ready (rs := [1]) (by kernel_rfl) (by simp) ?_
    refine AllReadyH.cons (o := ⟨some 35, _, _, _, _, _⟩) rfl (fun K hK => ?_) AllReadyH.nil
    go_simp
    obtain ⟨x36, hx36⟩ : ∃ x, x = wd.alloc (Obj.cells #[.string ⟨#[100]⟩] 9) := ⟨_, rfl⟩
    rw [← hx36]
    have Bx36 : Hid (Below wd.heap.size wd x36) := by show Below _ _ _; rw [hx36]; exact below_one _ _
    have e_s_x36 : Hid (x36.heap[wd.heap.size]? = some (Obj.cells #[.string ⟨#[100]⟩] 9)) := by show _ = _; rw [hx36]; exact heap_alloc_new _ _
    have Sx36 := hide (Swd.out.trans (Bx36.out.mono Swd.out.size))
    clear hx36
    refine hK.out _ _ Sx36.out (fun hHeld => ?_)
    clear hK K
    try simp only [Act.put, List.setIfInBounds_toArray, List.set_cons_zero, List.set_cons_succ]
    refine wpAnyH_ready (rs := [2]) (by kernel_rfl) (by simp) ?_
    refine AllReadyH.cons (o := ⟨some 36, _, _, _, _, _⟩) rfl (fun K hK => ?_) AllReadyH.nil
    go_simp
    refine (at_any 1 _ 1 _).mono ?_
    rintro e x37 ⟨rfl, hbx37⟩
    have Bx37 := hide hbx37
    clear hbx37
    have e_s_x37 : Hid (x37.heap[wd.heap.size]? = some (Obj.cells #[.string ⟨#[100]⟩] 9)) := up_blk Bx37.out e_s_x36.out
    have Sx37 := hide (Sx36.out.trans (Bx37.out.mono Sx36.out.size))
    refine hK.out _ _ Sx37.out (fun hHeld => ?_)
    clear hK K
    try simp only [Act.put, List.setIfInBounds_toArray, List.set_cons_zero, List.set_cons_succ]
    refine wpAnyH_ready (rs := [3]) (by kernel_rfl) (by simp) ?_
    refine AllReadyH.cons (o := ⟨some 37, _, _, _, _, _⟩) rfl (fun K hK => ?_) AllReadyH.nil
    go_simp
    obtain ⟨x38, hx38⟩ : ∃ x, x = x37.alloc (Obj.cells #[.slice none 0 0, .int .i64 9, .int .i64 1, .int .i64 0, .int .i64 0, .int .i64 0, .slice none 0 0, .string ⟨#[]⟩, .slice none 0 0, .bool false, .slice (some ⟨wd.heap.size, 0, none⟩) 1 1, .int .i64 1, .int .i64 1, .int .i64 0, .int .i64 0, .int .i64 0, .slice none 0 0, .string ⟨#[]⟩, .slice none 0 0, .bool false] 44) := ⟨_, rfl⟩
    rw [← hx38]
    have Bx38 : Hid (Below x37.heap.size x37 x38) := by show Below _ _ _; rw [hx38]; exact below_one _ _
    have e_s_x38 : Hid (x38.heap[wd.heap.size]? = some (Obj.cells #[.string ⟨#[100]⟩] 9)) := up_blk Bx38.out e_s_x37.out
    have e_p37_x38 : Hid (x38.heap[x37.heap.size]? = some (Obj.cells #[.slice none 0 0, .int .i64 9, .int .i64 1, .int .i64 0, .int .i64 0, .int .i64 0, .slice none 0 0, .string ⟨#[]⟩, .slice none 0 0, .bool false, .slice (some ⟨wd.heap.size, 0, none⟩) 1 1, .int .i64 1, .int .i64 1, .int .i64 0, .int .i64 0, .int .i64 0, .slice none 0 0, .string ⟨#[]⟩, .slice none 0 0, .bool false] 44)) := by show _ = _; rw [hx38]; exact heap_alloc_new _ _
    have Sx38 := hide (Sx37.out.trans (Bx38.out.mono Sx37.out.size))
    clear hx38
    refine hK.out _ _ Sx38.out (fun hHeld => ?_)
    clear hK K
    try simp only [Act.put, List.setIfInBounds_toArray, List.set_cons_zero, List.set_cons_succ]
    refine wpAnyH_ready (rs := [5]) (by kernel_rfl) (by simp) ?_
    refine AllReadyH.cons (o := ⟨some 39, _, _, _, _, _⟩) rfl (fun K hK => ?_) AllReadyH.nil
    go_simp
    obtain ⟨x39, hx39⟩ : ∃ x, x = x38.alloc (Obj.cells #[.slice (some ⟨x37.heap.size, 0, none⟩) 2 2, .slice (some ⟨b5, 0, none⟩) 3 3] 25) := ⟨_, rfl⟩
    rw [← hx39]
    have Bx39 : Hid (Below x38.heap.size x38 x39) := by show Below _ _ _; rw [hx39]; exact below_one _ _
    have e_s_x39 : Hid (x39.heap[wd.heap.size]? = some (Obj.cells #[.string ⟨#[100]⟩] 9)) := up_blk Bx39.out e_s_x38.out
    have e_p37_x39 : Hid (x39.heap[x37.heap.size]? = some (Obj.cells #[.slice none 0 0, .int .i64 9, .int .i64 1, .int .i64 0, .int .i64 0, .int .i64 0, .slice none 0 0, .string ⟨#[]⟩, .slice none 0 0, .bool false, .slice (some ⟨wd.heap.size, 0, none⟩) 1 1, .int .i64 1, .int .i64 1, .int .i64 0, .int .i64 0, .int .i64 0, .slice none 0 0, .string ⟨#[]⟩, .slice none 0 0, .bool false] 44)) := up_blk Bx39.out e_p37_x38.out
    have e_p39_x39 : Hid (x39.heap[x38.heap.size]? = some (Obj.cells #[.slice (some ⟨x37.heap.size, 0, none⟩) 2 2, .slice (some ⟨b5, 0, none⟩) 3 3] 25)) := by show _ = _; rw [hx39]; exact heap_alloc_new _ _
    have Sx39 := hide (Sx38.out.trans (Bx39.out.mono Sx38.out.size))
    clear hx39
    refine hK.out _ _ Sx39.out (fun hHeld => ?_)
    clear hK K
    try simp only [Act.put, List.setIfInBounds_toArray, List.set_cons_zero, List.set_cons_succ]
    refine wpAnyH_ready (rs := [6]) (by kernel_rfl) (by simp) ?_
    refine AllReadyH.cons (o := ⟨some 40, _, _, _, _, _⟩) rfl (fun K hK => ?_) AllReadyH.nil
    go_simp
    refine (mY_any e_p39_x39.out e_p37_x39.out e_s_x39.out (up_blk Sx39.out HG5.out) (up_blk Sx39.out HG6.out) (up_blk Sx39.out HG7.out)).mono ?_
    rintro e x40 ⟨a6, c6, P6, rfl, hns, hnm, hbx40⟩
    have HNS := hide hns
    have HNM := hide hnm
    have Bx40 := hide hbx40
    clear hns hnm hbx40
    have Sx40 := hide (Sx39.out.trans (Bx40.out.mono Sx39.out.size))
    refine hK.out _ _ Sx40.out (fun hHeld => ?_)
    clear hK K
    try simp only [Act.put, List.setIfInBounds_toArray, List.set_cons_zero, List.set_cons_succ]
    refine wpAnyH_take (i := 7) (oi := ⟨some 7, _, _, _, _, _⟩) (v := ?_) rfl (by kernel_rfl) (by kernel_rfl) (by kernel_rfl) (fun _ _ _ h => h) (Or.inl ⟨by rfl, ?_⟩) (by assumption) ?_
    rotate_left
    ·(intro wS hSw; go_simp; try with_reducible rfl)
    try simp only [Act.put, List.setIfInBounds_toArray, List.set_cons_zero, List.set_cons_succ]
    refine wpAnyH_done (by kernel_rfl) ?_ _
    clear hHeld
    go_wp2_with fail
    go_meet
    exact ⟨_, _, P6, rfl, HNS.out, HNM.out, Sx40.out⟩
   case rest =>
    obtain ⟨a7, c7, P7, rfl, hns7, hnm7, hbc⟩ := hcut
    obtain ⟨v9, rfl⟩ : ∃ x, x = wc := ⟨wc, rfl⟩
    have HX9 := hide (HX8.out.below hbc)
    have HN7 := hide hns7
    have HM7 := hide hnm7
    have HO6 := hide (HN6.out.below hbc)
    have HH5 := hide (up_blk hbc HG5.out)
    have HH6 := hide (up_blk hbc HG6.out)
    have HH7 := hide (up_blk hbc HG7.out)
    clear hns7 hnm7 hbc HX8 HG5 HG6 HG7 HL1 HN6
    have hr9 := Bk.box HX9.out.r
    obtain ⟨_, r0, r1, r2, r3, r4, r5, r6, r7, r8, r9⟩ := hr9
    have hd9 := Bk.box HX9.out.d
    obtain ⟨_, d0, d1, d2, d3, d4, d5, d6, d7, d8, d9⟩ := hd9
    simp only [mroV, atV] at r0 r1 r2 r3 r4 r5 r6 r7 r8 r9 d0 d1 d2 d3 d4 d5 d6 d7 d8 d9
    obtain ⟨u1, hu1⟩ : ∃ x, x = v9.alloc (Obj.cells #[.slice none 0 0, .int .i64 9, .int .i64 1, .int .i64 0, .int .i64 0, .int .i64 0, .slice none 0 0, .string ⟨#[]⟩, .slice none 0 0, .bool false, .slice (some ⟨w6.heap.size, 0, none⟩) 1 1, .int .i64 1, .int .i64 1, .int .i64 0, .int .i64 0, .int .i64 0, .slice none 0 0, .string ⟨#[]⟩, .slice none 0 0, .bool true] 44) := ⟨_, rfl⟩
    obtain ⟨u2, hu2⟩ : ∃ x, x = u1.alloc (Obj.cells #[.slice (some ⟨v9.heap.size, 0, none⟩) 2 2, .slice (some ⟨b5, 0, none⟩) 3 3] 25) := ⟨_, rfl⟩
    have B1 : Below v9.heap.size v9 u1 := by rw [hu1]; exact below_one _ _
    have B2 : Below u1.heap.size u1 u2 := by rw [hu2]; exact below_one _ _
    have B3 : Below v9.heap.size v9 u2 := B1.trans (B2.mono B1.size)
    have g1 : u1.heap[v9.heap.size]? = some (Obj.cells #[.slice none 0 0, .int .i64 9, .int .i64 1, .int .i64 0, .int .i64 0, .int .i64 0, .slice none 0 0, .string ⟨#[]⟩, .slice none 0 0, .bool false, .slice (some ⟨w6.heap.size, 0, none⟩) 1 1, .int .i64 1, .int .i64 1, .int .i64 0, .int .i64 0, .int .i64 0, .slice none 0 0, .string ⟨#[]⟩, .slice none 0 0, .bool true] 44) := by rw [hu1]; exact heap_alloc_new _ _
    have g2 : u2.heap[u1.heap.size]? = some (Obj.cells #[.slice (some ⟨v9.heap.size, 0, none⟩) 2 2, .slice (some ⟨b5, 0, none⟩) 3 3] 25) := by rw [hu2]; exact heap_alloc_new _ _
    have hs1 : u1.heap.size = v9.heap.size + 1 := by rw [hu1]; simp
    have HZ := hide (mZ_any g2 (up_blk B2 g1) (up_blk B3 HX9.out.sd) (up_blk B3 HH5.out) (up_blk B3 HH6.out) (up_blk B3 HH7.out))
    rw [hs1] at HZ
    have hu3 : u2 = (v9.alloc (Obj.cells #[.slice none 0 0, .int .i64 9, .int .i64 1, .int .i64 0, .int .i64 0, .int .i64 0, .slice none 0 0, .string ⟨#[]⟩, .slice none 0 0, .bool false, .slice (some ⟨w6.heap.size, 0, none⟩) 1 1, .int .i64 1, .int .i64 1, .int .i64 0, .int .i64 0, .int .i64 0, .slice none 0 0, .string ⟨#[]⟩, .slice none 0 0, .bool true] 44)).alloc (Obj.cells #[.slice (some ⟨v9.heap.size, 0, none⟩) 2 2, .slice (some ⟨b5, 0, none⟩) 3 3] 25) := by rw [hu2, hu1]
    have HU3 := hide hu3
    have HB3 := hide B3
    clear hu1 hu2 B1 B2 B3 g1 g2 hs1 hu3 HH5 HH6 HH7
    go_upto_region 11 with (go_at_call 7; rw [← HU3.out]; refine HZ.out.mono ?_; rintro e v10 ⟨a8, c8, P8, rfl, hns8, hop8, hb8⟩; have HN8 := hide hns8; have HM8 := hide hop8; have HB8 := hide (HB3.out.trans (hb8.mono HB3.out.size)); clear hns8 hop8 hb8)
    have N6 := HO6.out.below HB8.out
    have N7 := HN7.out.below HB8.out
    have N8 := HN8.out
    obtain ⟨b6, o6, rfl, _, hc6⟩ := N6.at (by omega)
    obtain ⟨b7, o7, rfl, _, hc7⟩ := N7.at (by omega)
    obtain ⟨b8, o8, rfl, _, hc8⟩ := N8.at (by omega)
    have k6 := (hc6 1 (by omega)).c0
    have k7 := (hc7 2 (by omega)).c0
    have k8 := (hc8 1 (by omega)).c9
    have e8 := (N8.rep 1 (by omega)).op
    rw [HM8.out] at e8
    rw [← e8] at k8
    have m6 := (N6.rep 1 (by omega)).names
    have m7 := (N7.rep 2 (by omega)).names
    rw [HM6.out] at m6
    rw [HM7.out] at m7
    generalize (gl P6 1).1.na = na6 at *
    generalize (gl P6 1).1.nn = nn6 at *
    generalize (gl P6 1).1.nc = nc6 at *
    generalize (gl P7 2).1.na = na7 at *
    generalize (gl P7 2).1.nn = nn7 at *
    generalize (gl P7 2).1.nc = nc7 at *
    have l6 : 1 = nn6 := m6.1
    have l7 : 2 = nn7 := m7.1
    subst l6
    subst l7
    obtain ⟨bn, on, rfl, hn6⟩ : ∃ bn on, na6 = some ⟨bn, on, none⟩ ∧ v10.cell? ⟨bn, on, none⟩ = some (.string nB) := by
     rcases m6.2 with h | ⟨bn, on, h1, _, h2⟩
     ·omega
     ·exact ⟨bn, on, h1, h2 0 (by simp)⟩
    have HBF := hide (HB8.out)
    have HGW := hide HX9.out.bel
    clear N6 N7 N8 hc6 hc7 hc8 e8 m6 m7 HB8 HX9 HO6 HN7 HN8 HM6 HM7 HM8 HZ HU3 HB3 r0 r1 r2 r3 r4 r5 r6 r7 r8 r9 d0 d1 d2 d3 d4 d5 d6 d7 d8 d9
    unfold nB at hn6
    go_wp2
    go_ret
    exact ⟨rfl, HGW.out.trans (HBF.out.mono HGW.out.size)⟩
end Go.Proofs.Ytflohhefbbidcaa
namespace Go.Proofs.Ytflohhefbbidcaa
open Go.RowKit Go.Maps
open Nam Tre Mrg Brn
def lvs (Q : List Ly) : List Value := Q.map fun y => .slice y.a y.n y.c
theorem lvs_append (Q P : List Ly) : lvs (Q ++ P) = lvs Q ++ lvs P := by simp [lvs]
theorem lvs_length (Q : List Ly) : (lvs Q).length = Q.length := by simp [lvs]
theorem infoNds : (Try.prog.info? 25).map (fun i => (i.zero, i.size, i.bytes)) = some (some (.slice none 0 0), 1, 24) := by kernel_rfl
theorem wpList_append_ly (w : World) {ops : Array Oper} {rest : List Oper} {o : Oper} {a : Act} {Q : Exit → Act → World → Prop} (hgd : o.guard = none) (s x : Operand)
  (ho : o.op = .call { callee := .builtin .append, args := #[s, x], argTypes := #[22, 22] })
  (base : Nat) (vo : Option Addr) (n vc : Nat) (L : List Ly) (hs : a.eval s = .slice vo n vc) (hown : w.ownsRow base 25 1 (.slice vo n vc) n (lvs L))
  (p : Nat) (t : Ly) (hx : a.eval x = .slice (some ⟨p, 0, none⟩) 1 1) (hp : w.cell? ⟨p, 0, none⟩ = some (.slice t.a t.n t.c))
  (hbd : n + 1 ≤ 1000000) (hbase : base ≤ w.heap.size)
  (h : ∀ b' c' w', w'.ownsRow base 25 1 (.slice (some ⟨b', 0, none⟩) (n + 1) c') (n + 1) (lvs (L ++ [t])) → w.grownBy w' (Value.slice vo n vc).ownBlock → ((Value.slice vo n vc).ownBlock = some b' ∨ b' = w.heap.size) → wpList Try.prog ops Q rest (a.put o.dst (.slice (some ⟨b', 0, none⟩) (n + 1) c')) w') :
  wpList Try.prog ops Q (o :: rest) a w := by
 obtain ⟨i0, hi, hz0, hz1, hz2⟩ := info_parts infoNds
 refine wpList_append_own_at w hgd s x _ ho base 25 i0 (.slice none 0 0) 1 24 Try.underlying22 hi hz0 hz1 hz2 rfl (by decide) _ n _ hs hown ⟨p, 0, none⟩ 1 1 [.slice t.a t.n t.c] hx (by simp) ?_ (by simp; rfl) (by unfold maxLen; omega) (by omega) hbase ?_
 ·intro j u hj
  match j, hj with
  | 0, hj => simp at hj; subst hj; simpa [Addr.add] using hp
 ·intro v' w' h2 h3 _ h5
  obtain ⟨g', c', rfl, _⟩ := h2.form (by omega)
  refine h g' c' w' (by rw [lvs_append]; exact h2) h3 ?_
  rcases h5 with h5 | h5
  ·exact .inl h5.symm
  ·exact .inr (by simpa [Value.ownBlock] using h5)
def cutn (n : Nod) : Nod := { n with names := n.names.take 18 }
def cutnv (v : Nv) : Nv := { v with nn := min v.nn 18 }
theorem rep_cutn {w : World} {v : Nv} {n : Nod} (h : Rep w v n) : Rep w (cutnv v) (cutn n) :=
 { h with
  names := by
   have := h.names.take (min v.nn 18) (by omega)
   have e : n.names.take (min v.nn 18) = n.names.take 18 := by rw [← h.names.1, Nat.min_comm, ← List.take_take, List.take_length]
   rw [e] at this; exact this
  nc := by have := h.nc; show min v.nn 18 ≤ v.nc; omega }
def fewT (L : List (Nv × Nod)) : List (Nv × Nod) := (L.take 25).map (fun p => (cutnv p.1, cutn p.2))
theorem fewT_length (L : List (Nv × Nod)) : (fewT L).length = min 25 L.length := by simp [fewT]
theorem fewT_rep {w : World} {L : List (Nv × Nod)} (h : ∀ p ∈ L, Rep w p.1 p.2) : ∀ p ∈ fewT L, Rep w p.1 p.2 := by
 intro p hp
 simp only [fewT, List.mem_map] at hp
 obtain ⟨q, hq, rfl⟩ := hp
 exact rep_cutn (h q (List.mem_of_mem_take hq))
theorem fewT_take (L : List (Nv × Nod)) (i : Nat) (h : i < L.length) (h2 : i < 25) : ((fewT L).take (i + 1)).map (·.1) = ((fewT L).take i).map (·.1) ++ [cutnv (gl L i).1] := by
 rw [List.take_succ_eq_append_getElem (by rw [fewT_length]; omega), List.map_append, gl_lt L i h]
 simp [fewT]
theorem fewT_names (L : List (Nv × Nod)) : ∀ p ∈ fewT L, p.2.names.length ≤ 18 := by
 intro p hp
 simp only [fewT, List.mem_map] at hp
 obtain ⟨q, _, rfl⟩ := hp
 simp [cutn]; omega
structure LyW (w W : World) (y : Ly) : Prop where
 row : W.ownsRow w.heap.size 44 10 (.slice y.a y.n y.c) y.n (nvs (y.L.map (·.1)))
 rep : ∀ p ∈ y.L, Rep w p.1 p.2
 len : y.L.length ≤ 25
 nms : ∀ p ∈ y.L, p.2.names.length ≤ 18
 may : checkB (nds y.L) = 0
theorem LyW.ok {w W : World} {y : Ly} (h : LyW w W y) (hb : Below w.heap.size w W) : y.Ok W := by
 obtain ⟨h1, h2, _⟩ := cap_owns h.row
 exact ⟨(sh_of_owns h.row).ns (fun p hp => (h.rep p hp).below hb), h1, h2⟩
theorem LyW.below {w W W' : World} {y : Ly} (h : LyW w W y) (hb : Below W.heap.size W W') : LyW w W' y :=
 ⟨h.row.kept (row := none) ⟨hb.os, hb.tape, hb.output, hb.size, fun k hk _ => hb.block k hk⟩ (by cases hv : (Value.slice y.a y.n y.c).ownBlock with | none => exact .inl rfl | some g => exact .inr (by simp)), h.rep, h.len, h.nms, h.may⟩
theorem LyW.grown {w W W' : World} {y : Ly} (h : LyW w W y) {B n c : Nat} {ao : Option Addr} {xs : List Value} (ho : W.ownsRow B 25 1 (.slice ao n c) n xs) (hg : W.grownBy W' (Value.slice ao n c).ownBlock) : LyW w W' y := by
 refine ⟨h.row.kept hg ?_, h.rep, h.len, h.nms, h.may⟩
 cases hv : (Value.slice y.a y.n y.c).ownBlock with
 | none => exact .inl rfl
 | some g =>
  refine .inr fun e => ?_
  obtain ⟨c1, q1⟩ := owns_obj h.row hv
  obtain ⟨c2, q2⟩ := owns_obj ho e.symm
  rw [q1] at q2
  injection q2 with q2
  injection q2 with _ q2 _
  exact absurd q2 (by decide)
theorem fewT_names1 (L : List (Nv × Nod)) : ∀ p ∈ fewT L, p.2.names.length ≤ 1000000 := fun p hp => by have := fewT_names L p hp; omega
def fewI (Q : List Ly) (i : Nat) : List (List Nod) := ((Q.take i).map (fun y => nds (fewT y.L))).filter (fun l => decide (checkB l = 0))
theorem fewI_succ (Q : List Ly) (i : Nat) (h : i < Q.length) : fewI Q (i + 1) = fewI Q i ++ (if checkB (nds (fewT (gy Q i).L)) = 0 then [nds (fewT (gy Q i).L)] else []) := by
 unfold fewI
 rw [List.take_succ_eq_append_getElem h, List.map_append, List.filter_append, gy_lt Q i h]
 simp only [List.map_cons, List.map_nil]
 rw [List.filter_cons, List.filter_nil]
 simp
theorem infoNds0 (w : World) : (w.alloc (.cells #[] 25)).ownsRow w.heap.size 25 1 (.slice (some ⟨w.heap.size, 0, none⟩) 0 0) 0 (lvs []) :=
 ⟨rfl, .inr ⟨w.heap.size, 0, #[], rfl, Nat.le_refl _, heap_alloc_new w _, Nat.le_refl _, by unfold maxLen; omega, rfl, rfl⟩⟩
theorem lys_append (Q P : List Ly) : lys (Q ++ P) = lys Q ++ lys P := by simp [lys]
set_option maxRecDepth 100000 in
set_option maxHeartbeats 4000000 in
theorem few19_any (a : Option Addr) (n c : Nat) (Q : List Ly) (w : World) (hq : NsR w a n Q) (hc : n ≤ c) (hcm : c ≤ 9223372036854775807) :
  Calls Try.prog 6 #[.slice a n c] w fun e w' => ∃ ao k c' QQ, e = .returned (.slice ao k c') ∧ k ≤ 5 ∧ w'.ownsRow w.heap.size 25 1 (.slice ao k c') k (lvs QQ) ∧ (∀ y ∈ QQ, LyW w w' y) ∧ lys QQ = fewI Q 5 ∧ Below w.heap.size w w' := by
 have HQ := hide hq
 have HQN := hide hq.1
 clear hq
 go_enter Try.func6, Try.ntmps6
 go_wp2_with fail
 go_loopw [3, 4, 5, 6, 7] (fun r3 r4 _ _ _ wr => ∃ (i k : Nat) (ao : Option Addr) (co : Nat) (QQ : List Ly), r4 = .int .i64 i ∧ r3 = .slice ao k co ∧ i ≤ n ∧ i ≤ 5 ∧ k ≤ i ∧ wr.ownsRow w.heap.size 25 1 (.slice ao k co) k (lvs QQ) ∧ (∀ y ∈ QQ, LyW w wr y) ∧ lys QQ = fewI Q i ∧ Below w.heap.size w wr) (fun _ r4 _ _ _ _ => n - (intOf r4).toNat)
 case atStart => exact ⟨0, 0, _, _, [], rfl, rfl, Nat.zero_le _, by omega, Nat.le_refl _, infoNds0 w, fun y hy => by simp at hy, rfl, below_one _ _⟩
 case round =>
  obtain ⟨i, k, ao, co, QQ, rfl, rfl, hi0, hi5, hki, hO, hY, hL, hb⟩ := hrel
  have HO := hide hO
  have HY := hide hY
  have HL := hide hL
  have HB := hide hb
  clear hO hY hL hb
  have HFIN : Hid (n ≤ i ∨ 5 ≤ i → fewI Q i = fewI Q 5) := fun h => by
   unfold fewI
   congr 1
   congr 1
   rcases h with h | h
   ·rw [List.take_of_length_le (by rw [HQN.out]; omega), List.take_of_length_le (by rw [HQN.out]; omega)]
   ·rw [show i = 5 by omega]
  by_cases hi : i < n
  ·have hd : decide ((i : Int) < n) = true := by simpa using hi
   by_cases h5 : i < 5
   ·have hd2 : decide ((i : Int) < 5) = true := by simp; omega
    have hi1 : (i : Int) < n := by omega
    obtain ⟨b, off, rfl, hbl, hcs⟩ := (HQ.out.below HB.out).at (by omega)
    have cr := hcs i hi
    have hyo := HQ.out.ok i hi
    have HFS := hide (fewI_succ Q i (by rw [HQN.out]; exact hi))
    generalize gy Q i = y at *
    obtain ⟨ya, yn, yc, yL⟩ := y
    simp only at cr
    have HYO := hide hyo
    have HYN : Hid (yL.length = yn) := hyo.ns.1
    have hyc : yn ≤ yc := hyo.le
    have hym : yc ≤ 9223372036854775807 := hyo.max
    have HCR : Hid (∀ W, Below wr.heap.size wr W → W.cell? ⟨b, off + i, none⟩ = some (.slice ya yn yc)) := fun W hW => (hW.cell (by exact hbl)).trans cr
    clear hcs hyo hbl
    obtain ⟨wo, rfl⟩ : ∃ wo, wo = wr := ⟨wr, rfl⟩
    have HE0 : Hid (∀ W : World, W = wo.alloc (.cells #[] 44) → W.ownsRow wo.heap.size 44 10 (.slice (some ⟨wo.heap.size, 0, none⟩) 0 0) 0 (nvs (((fewT yL).take 0).map (·.1))) ∧ Below wo.heap.size wo W) := fun W hW => by
     rw [hW]; exact ⟨by simpa using emptyN (Nat.le_refl _), below_one _ _⟩
    go_wp2_with fail
    go_loopw [5, 6, 7] (fun r5 r6 _ wx => ∃ (j : Nat) (at' : Option Addr) (ct : Nat), r6 = .int .i64 j ∧ r5 = .slice at' j ct ∧ j ≤ yn ∧ j ≤ 25 ∧ wo.heap.size < wx.heap.size ∧ wx.ownsRow wo.heap.size 44 10 (.slice at' j ct) j (nvs (((fewT yL).take j).map (·.1))) ∧ Below wo.heap.size wo wx) (fun _ r6 _ _ => yn - (intOf r6).toNat)
    case atStart => exact ⟨0, _, _, rfl, rfl, Nat.zero_le _, by omega, by simp, (HE0.out _ rfl).1, (HE0.out _ rfl).2⟩
    case round =>
     obtain ⟨j, at', ct, rfl, rfl, hjn, hj25, hsz, hown, hbel⟩ := hrel
     have HBx := hide hbel
     have HOx := hide hown
     have crx := HCR.out wr hbel
     have hln : (fewT yL).length = min 25 yn := by rw [fewT_length, HYN.out]
     by_cases hj : j < yn
     ·have hdj : decide ((j : Int) < yn) = true := by simpa using hj
      have hj1 : (j : Int) < yn := by omega
      by_cases h25 : j < 25
      ·have hd25 : decide ((j : Int) < 25) = true := by simp; omega
       have hyns : Ns w ya yn yL := HYO.out.ns
       obtain ⟨ba, oa, rfl, hba, hca⟩ := ((hyns.below HB.out).below hbel).at (by omega)
       obtain ⟨c0, c1, c2, c3, c4, c5, c6, c7, c8, c9⟩ := hca j hj
       have hr := hyns.rep j hj
       have HT := hide (fewT_take yL j (by rw [HYN.out]; exact hj) h25)
       have x1 := hr.nc
       have x2 := hr.ncm
       generalize (gl yL j).1 = v at *
       obtain ⟨Vt, hVt⟩ : ∃ Vt, Vt = ((fewT yL).take j).map (·.1) := ⟨_, rfl⟩
       rw [← hVt] at hown HT
       have HO2 := hide hown
       clear hca hr hown hbel HOx hVt hln cr hyns
       by_cases h1 : 18 < v.nn
       ·have HCV : Hid (cutnv v = ⟨v.na, 18, v.nc, v.ino, v.kind, v.mode, v.uid, v.gid, v.da, v.dn, v.dc, v.tg, v.xa, v.xn, v.xc, v.op⟩) := by show _ = _; unfold cutnv; rw [show min v.nn 18 = 18 by omega]
        have g1 : (18 : Int) < v.nn := by omega
        rw [HCV.out] at HT
        go_wp2_with (at_builtin; refine wpList_append_nod _ rfl _ _ rfl wo.heap.size _ _ _ Vt rfl ((HO2.out.alloc _).alloc _) _ _ _ _ rfl (sh_one' (v := ⟨v.na, 18, v.nc, v.ino, v.kind, v.mode, v.uid, v.gid, v.da, v.dn, v.dc, v.tg, v.xa, v.xn, v.xc, v.op⟩) (by simp)) (fun h => by cases h) (by omega) (by simp; omega) ?_)
        intro ao2 k2 w2 hown2 hg2
        rw [← HT.out] at hown2
        have e2 := hide (((HBx.out.alloc (by omega) _).alloc (by simp; omega) _).grown hg2 (by simp; omega) (fun k e => (HO2.out.lt k e).1))
        have s2 := hg2.size
        simp only [World.size_alloc] at s2
        have HO3 := hide hown2
        clear hown2 hg2 HCV HT
        go_wp2
        exact ⟨⟨j + 1, ao2, k2, by go_num, rfl, by omega, by omega, by omega, HO3.out, e2.out⟩, by simp [intOf]; omega⟩
       ·have HCV : Hid (cutnv v = ⟨v.na, v.nn, v.nc, v.ino, v.kind, v.mode, v.uid, v.gid, v.da, v.dn, v.dc, v.tg, v.xa, v.xn, v.xc, v.op⟩) := by show _ = _; unfold cutnv; rw [show min v.nn 18 = v.nn by omega]
        have g1 : ¬ (18 : Int) < v.nn := by omega
        rw [HCV.out] at HT
        go_wp2_with (at_builtin; refine wpList_append_nod _ rfl _ _ rfl wo.heap.size _ _ _ Vt rfl ((HO2.out.alloc _).alloc _) _ _ _ _ rfl (sh_one' (v := ⟨v.na, v.nn, v.nc, v.ino, v.kind, v.mode, v.uid, v.gid, v.da, v.dn, v.dc, v.tg, v.xa, v.xn, v.xc, v.op⟩) (by simp)) (fun h => by cases h) (by omega) (by simp; omega) ?_)
        intro ao2 k2 w2 hown2 hg2
        rw [← HT.out] at hown2
        have e2 := hide (((HBx.out.alloc (by omega) _).alloc (by simp; omega) _).grown hg2 (by simp; omega) (fun k e => (HO2.out.lt k e).1))
        have s2 := hg2.size
        simp only [World.size_alloc] at s2
        have HO3 := hide hown2
        clear hown2 hg2 HCV HT
        go_wp2
        exact ⟨⟨j + 1, ao2, k2, by go_num, rfl, by omega, by omega, by omega, HO3.out, e2.out⟩, by simp [intOf]; omega⟩
      ·have hd25 : decide ((j : Int) < 25) = false := by simp; omega
       have HT0 : Hid (wr.ownsRow wo.heap.size 44 10 (.slice at' j ct) j (nvs ((fewT yL).map (·.1)))) := by
        have e : (fewT yL).take j = fewT yL := List.take_of_length_le (by rw [hln]; omega)
        rw [e] at hown
        exact hown
       have HRP : Hid (∀ p ∈ fewT yL, Rep w p.1 p.2) := fewT_rep (fun p hp => HYO.out.ns.2.1 p hp)
       have HBW := hide (HB.out.trans (hbel.mono HB.out.size))
       have hns : Ns wr at' j (fewT yL) := (sh_of_owns HT0.out).ns (fun p hp => (HRP.out p hp).below HBW.out)
       have hcap := cap_owns HT0.out
       have HCK := hide (refCheck18_any at' j ct (fewT yL) wr hns hcap.1 hcap.2.1 (fewT_names1 yL))
       have HLY : Hid (∀ W, Below wr.heap.size wr W → checkB (nds (fewT yL)) = 0 → LyW w W ⟨at', j, ct, fewT yL⟩) := fun W hW hz => ⟨own_up (owns_below HT0.out hW) HB.out.size, HRP.out, by rw [hln]; omega, fewT_names yL, hz⟩
       have HO1 := hide (owns_below HO.out hbel)
       have HY1 : Hid (∀ y ∈ QQ, LyW w wr y) := fun y hy => (HY.out y hy).below hbel
       obtain ⟨z, hz⟩ : ∃ z, z = checkB (nds (fewT yL)) := ⟨_, rfl⟩
       have HZ := hide hz
       rw [← hz] at HCK
       clear hown hbel hns hcap hz HOx
       by_cases hz0 : z = 0
       ·have hzb : (z == 0) = true := by simp [hz0]
        have HZ0 := hide hz0
        clear hz0
        go_wp2_with (first
         | (go_at_call 19; refine HCK.out.mono ?_; rintro e w3 ⟨rfl, hb3⟩; have HB3 := hide hb3; clear hb3)
         | (at_builtin; refine wpList_append_ly _ rfl _ _ rfl w.heap.size _ _ _ QQ rfl ((owns_below HO1.out HB3.out).alloc _) _ ⟨at', j, ct, fewT yL⟩ rfl (cell_new1 _ _ _) (by omega) (by have := HBW.out.size; have := HB3.out.size; simp; omega) ?_))
        rintro b4 c4 w4 ho4 hg4 _
        have HY4 : Hid (∀ y ∈ QQ ++ [(⟨at', j, ct, fewT yL⟩ : Ly)], LyW w w4 y) := fun y hy => by
         have hL3 : ∀ y ∈ QQ ++ [(⟨at', j, ct, fewT yL⟩ : Ly)], LyW w w3 y := fun y hy => by
          rcases List.mem_append.1 hy with hy | hy
          ·exact (HY1.out y hy).below HB3.out
          ·rw [List.mem_singleton.1 hy]
           exact HLY.out w3 HB3.out (by rw [← HZ.out, HZ0.out])
         exact ((hL3 y hy).below (below_one _ _)).grown ((owns_below HO1.out HB3.out).alloc _) hg4
        have HB4 : Hid (Below w.heap.size w w4) := by
         have h3 := HBW.out.trans (HB3.out.mono HBW.out.size)
         exact (h3.alloc h3.size _).grown hg4 (by have := h3.size; simp; omega) (fun k e => (HO1.out.lt k e).1)
        have HO4 := hide ho4
        have HL4 : Hid (lys (QQ ++ [(⟨at', j, ct, fewT yL⟩ : Ly)]) = fewI Q (i + 1)) := by
         show _ = _
         rw [lys_append, HL.out, HFS.out, if_pos (by rw [← HZ.out, HZ0.out])]
         rfl
        clear ho4 hg4
        go_wp2
        exact ⟨⟨i + 1, k + 1, _, c4, QQ ++ [(⟨at', j, ct, fewT yL⟩ : Ly)], by go_num, rfl, by omega, by omega, by omega, HO4.out, HY4.out, HL4.out, HB4.out⟩, by simp [intOf]; omega⟩
       ·have hzb : (z == 0) = false := by simp [hz0]
        have HZ0 := hide hz0
        clear hz0
        go_wp2_with (go_at_call 19; refine HCK.out.mono ?_; rintro e w3 ⟨rfl, hb3⟩; have HB3 := hide hb3; clear hb3)
        refine ⟨⟨i + 1, k, ao, co, QQ, by go_num, rfl, by omega, by omega, by omega, owns_below HO1.out HB3.out, fun y hy => (HY1.out y hy).below HB3.out, ?_, HBW.out.trans (HB3.out.mono HBW.out.size)⟩, by simp [intOf]; omega⟩
        rw [HL.out, HFS.out, if_neg (fun e => HZ0.out (HZ.out.trans e)), List.append_nil]
     ·have hdj : decide ((j : Int) < yn) = false := by simpa using hj
      have HT0 : Hid (wr.ownsRow wo.heap.size 44 10 (.slice at' j ct) j (nvs ((fewT yL).map (·.1)))) := by
       have e : (fewT yL).take j = fewT yL := List.take_of_length_le (by rw [hln]; omega)
       rw [e] at hown
       exact hown
      have HRP : Hid (∀ p ∈ fewT yL, Rep w p.1 p.2) := fewT_rep (fun p hp => HYO.out.ns.2.1 p hp)
      have HBW := hide (HB.out.trans (hbel.mono HB.out.size))
      have hns : Ns wr at' j (fewT yL) := (sh_of_owns HT0.out).ns (fun p hp => (HRP.out p hp).below HBW.out)
      have hcap := cap_owns HT0.out
      have HCK := hide (refCheck18_any at' j ct (fewT yL) wr hns hcap.1 hcap.2.1 (fewT_names1 yL))
      have HLY : Hid (∀ W, Below wr.heap.size wr W → checkB (nds (fewT yL)) = 0 → LyW w W ⟨at', j, ct, fewT yL⟩) := fun W hW hz => ⟨own_up (owns_below HT0.out hW) HB.out.size, HRP.out, by rw [hln]; omega, fewT_names yL, hz⟩
      have HO1 := hide (owns_below HO.out hbel)
      have HY1 : Hid (∀ y ∈ QQ, LyW w wr y) := fun y hy => (HY.out y hy).below hbel
      obtain ⟨z, hz⟩ : ∃ z, z = checkB (nds (fewT yL)) := ⟨_, rfl⟩
      have HZ := hide hz
      rw [← hz] at HCK
      clear hown hbel hns hcap hz HOx
      by_cases hz0 : z = 0
      ·have hzb : (z == 0) = true := by simp [hz0]
       have HZ0 := hide hz0
       clear hz0
       go_wp2_with (first
        | (go_at_call 19; refine HCK.out.mono ?_; rintro e w3 ⟨rfl, hb3⟩; have HB3 := hide hb3; clear hb3)
        | (at_builtin; refine wpList_append_ly _ rfl _ _ rfl w.heap.size _ _ _ QQ rfl ((owns_below HO1.out HB3.out).alloc _) _ ⟨at', j, ct, fewT yL⟩ rfl (cell_new1 _ _ _) (by omega) (by have := HBW.out.size; have := HB3.out.size; simp; omega) ?_))
       rintro b4 c4 w4 ho4 hg4 _
       have HY4 : Hid (∀ y ∈ QQ ++ [(⟨at', j, ct, fewT yL⟩ : Ly)], LyW w w4 y) := fun y hy => by
        have hL3 : ∀ y ∈ QQ ++ [(⟨at', j, ct, fewT yL⟩ : Ly)], LyW w w3 y := fun y hy => by
         rcases List.mem_append.1 hy with hy | hy
         ·exact (HY1.out y hy).below HB3.out
         ·rw [List.mem_singleton.1 hy]
          exact HLY.out w3 HB3.out (by rw [← HZ.out, HZ0.out])
        exact ((hL3 y hy).below (below_one _ _)).grown ((owns_below HO1.out HB3.out).alloc _) hg4
       have HB4 : Hid (Below w.heap.size w w4) := by
        have h3 := HBW.out.trans (HB3.out.mono HBW.out.size)
        exact (h3.alloc h3.size _).grown hg4 (by have := h3.size; simp; omega) (fun k e => (HO1.out.lt k e).1)
       have HO4 := hide ho4
       have HL4 : Hid (lys (QQ ++ [(⟨at', j, ct, fewT yL⟩ : Ly)]) = fewI Q (i + 1)) := by
        show _ = _
        rw [lys_append, HL.out, HFS.out, if_pos (by rw [← HZ.out, HZ0.out])]
        rfl
       clear ho4 hg4
       go_wp2
       exact ⟨⟨i + 1, k + 1, _, c4, QQ ++ [(⟨at', j, ct, fewT yL⟩ : Ly)], by go_num, rfl, by omega, by omega, by omega, HO4.out, HY4.out, HL4.out, HB4.out⟩, by simp [intOf]; omega⟩
      ·have hzb : (z == 0) = false := by simp [hz0]
       have HZ0 := hide hz0
       clear hz0
       go_wp2_with (go_at_call 19; refine HCK.out.mono ?_; rintro e w3 ⟨rfl, hb3⟩; have HB3 := hide hb3; clear hb3)
       refine ⟨⟨i + 1, k, ao, co, QQ, by go_num, rfl, by omega, by omega, by omega, owns_below HO1.out HB3.out, fun y hy => (HY1.out y hy).below HB3.out, ?_, HBW.out.trans (HB3.out.mono HBW.out.size)⟩, by simp [intOf]; omega⟩
       rw [HL.out, HFS.out, if_neg (fun e => HZ0.out (HZ.out.trans e)), List.append_nil]
   ·have hd2 : decide ((i : Int) < 5) = false := by simp; omega
    have HF := hide (HFIN.out (.inr (by omega)))
    go_wp2
    go_ret
    exact ⟨ao, k, co, QQ, rfl, by omega, HO.out, HY.out, by rw [HL.out, HF.out], HB.out⟩
  ·have hd : decide ((i : Int) < n) = false := by simpa using hi
   have HF := hide (HFIN.out (.inl (by omega)))
   go_wp2
   go_ret
   exact ⟨ao, k, co, QQ, rfl, by omega, HO.out, HY.out, by rw [HL.out, HF.out], HB.out⟩
end Go.Proofs.Ytflohhefbbidcaa
namespace Go.Proofs.Ytflohhefbbidcaa
open Go.RowKit Go.Maps
open Nam Tre Mrg Brn
structure FQ (w W : World) (ao : Option Addr) (k c' : Nat) (QQ : List Ly) : Prop where
 row : NsR W ao k QQ
 br : ∀ t ∈ lys QQ, Br t
 cnt : cntP QQ k ≤ 125
 k5 : k ≤ 5
 kc : k ≤ c'
 cm : c' ≤ 9223372036854775807
 bel : Below w.heap.size w W
theorem cntP_bound (Q : List Ly) (hb : ∀ y ∈ Q, y.n ≤ 25) : ∀ i, cntP Q i ≤ 25 * i
 | 0 => Nat.le_refl _
 | i + 1 => by
  have ih := cntP_bound Q hb i
  have h2 : (gy Q i).n ≤ 25 := by
   by_cases h : i < Q.length
   ·rw [gy_lt Q i h]; exact hb _ (List.getElem_mem h)
   ·have : gy Q i = ly0 := by unfold gy; rw [List.getD_eq_getElem?_getD, List.getElem?_eq_none (by omega)]; rfl
    rw [this]; exact Nat.zero_le _
  rw [cntP]; omega
theorem nsr_of {w W : World} {ao : Option Addr} {k c' : Nat} {QQ : List Ly} (ho : W.ownsRow w.heap.size 25 1 (.slice ao k c') k (lvs QQ)) (hy : ∀ y ∈ QQ, LyW w W y) (hb : Below w.heap.size w W) : NsR W ao k QQ := by
 have hl : QQ.length = k := by have := ho.1; rw [lvs_length] at this; omega
 refine ⟨hl, fun y h => (hy y h).ok hb, ?_⟩
 by_cases e : k = 0
 ·exact .inl e
 ·obtain ⟨g, c2, hv, hg, hlt⟩ := ho.form (by omega)
  obtain ⟨rfl, _, rfl⟩ : ao = some ⟨g, 0, none⟩ ∧ k = k ∧ c' = c2 := by simpa using hv
  refine .inr ⟨g, 0, rfl, hlt, fun i hi => ?_⟩
  rw [Nat.zero_add, ho.cellAt i (by omega), gy_lt QQ i (by omega)]
  simp [lvs, show i < QQ.length by omega]
theorem fq_of {w W : World} {ao : Option Addr} {k c' : Nat} {QQ : List Ly} (hk : k ≤ 5) (ho : W.ownsRow w.heap.size 25 1 (.slice ao k c') k (lvs QQ)) (hy : ∀ y ∈ QQ, LyW w W y) (hb : Below w.heap.size w W) : FQ w W ao k c' QQ := by
 have hc := cap_owns ho
 refine ⟨nsr_of ho hy hb, fun t ht => ?_, ?_, hk, hc.1, hc.2.1, hb⟩
 ·simp only [lys, List.mem_map] at ht
  obtain ⟨y, h, rfl⟩ := ht
  exact br_of (hy y h).may
 ·have := cntP_bound QQ (fun y h => by
   have h1 := ((hy y h).ok hb).ns.1
   have h2 := (hy y h).len
   omega) k
  omega
theorem fewQ_any (a : Option Addr) (n c : Nat) (Q : List Ly) (w : World) (hq : NsR w a n Q) (hc : n ≤ c) (hcm : c ≤ 9223372036854775807) :
  Calls Try.prog 6 #[.slice a n c] w fun e w' => ∃ ao k c' QQ, e = .returned (.slice ao k c') ∧ FQ w w' ao k c' QQ ∧ lys QQ = fewI Q 5 ∧ (∀ y ∈ QQ, LyW w w' y) := by
 refine (few19_any a n c Q w hq hc hcm).mono ?_
 rintro e w' ⟨ao, k, c', QQ, rfl, h1, h2, h3, h4, h5⟩
 exact ⟨ao, k, c', QQ, rfl, fq_of h1 h2 h3 h5, h4, h3⟩
end Go.Proofs.Ytflohhefbbidcaa
namespace Go.Proofs.Ytflohhefbbidcaa
set_option maxRecDepth 100000
open Go.RowKit Go.Maps
open Nam Tre Mrg
namespace Mrg
theorem srcs_take {L : List (List Nod)} {m : List ByteArray} {j : Nat} (h : m.length = j + 1) : srcs L (m.take j) = srcK L m j := by
 unfold srcs
 rw [List.length_take, h, Nat.min_eq_left (by omega)]
 exact srcK_take j j (Nat.le_refl _)
theorem srcs_up_nil {L : List (List Nod)} {m : List ByteArray} {j : Nat} (h : m.length = j + 1) (e : srcs L (m.take j) = []) : srcs L m = [] := by
 rw [srcs_take h] at e
 unfold srcs
 rw [h]; exact srcK_nil e
theorem srcs_up_cons {L : List (List Nod)} {m : List ByteArray} {j i : Nat} {r : List Nat} (h : m.length = j + 1) (e : srcs L (m.take j) = i :: r) : srcs L m = if ((fnd (ly L i) (m.take j)).map Nod.kind) = some 1 then gos L m [] (i :: r) else [] := by
 rw [srcs_take h] at e
 unfold srcs
 rw [h, srcK_cons e, List.take_of_length_le (by omega : m.length ≤ j + 1)]
theorem gos_has {L : List (List Nod)} {m : List ByteArray} {r : List Nat} {x : Nat} (h : x ∈ gos L m [] r) : ∃ n, fnd (ly L x) m = some n := by
 rcases (mem_gos r []).1 h with h | ⟨_, _, _, _, n, h, _⟩
 ·simp at h
 ·exact ⟨n, h⟩
theorem srcs_has {L : List (List Nod)} {m : List ByteArray} {x : Nat} (h : x ∈ srcs L m) : ∃ n, fnd (ly L x) m = some n := by
 cases hm : m.length with
 | zero =>
  have e : m = [] := List.eq_nil_of_length_eq_zero hm
  subst e
  exact gos_has h
 | succ j =>
  cases e : srcs L (m.take j) with
  | nil => rw [srcs_up_nil hm e] at h; simp at h
  | cons i r =>
   rw [srcs_up_cons hm e] at h
   split at h
   ·exact gos_has h
   ·simp at h
theorem srcs_lt9 {L : List (List Nod)} {m : List ByteArray} {x : Nat} (h : x ∈ srcs L m) : x < L.length := by
 obtain ⟨n, hn⟩ := srcs_has h
 rcases Nat.lt_or_ge x L.length with q | q
 ·exact q
 ·have e : ly L x = [] := by simp [ly, q]
  rw [e] at hn
  simp [fnd] at hn
theorem fi_fnd (l : List Nod) (m : List ByteArray) : (fi (nmd m) 0 l = -1 ∧ fnd l m = none) ∨ ∃ j, fi (nmd m) 0 l = ((j : Nat) : Int) ∧ ∃ h : j < l.length, fnd l m = some l[j] := by
 rcases fi_spec (nmd m) l 0 with ⟨h1, h2⟩ | ⟨j, h1, hj, h3⟩
 ·exact .inl ⟨h1, h2⟩
 ·exact .inr ⟨j, by rw [h1, Nat.zero_add], hj, h3⟩
def fn9 (K : List Nat) (i : Nat) : Nat := K.getD i 0
theorem fn9_lt (K : List Nat) (i : Nat) (h : i < K.length) : fn9 K i = K[i] := by simp [fn9, h]
theorem ly_lys9 (Q : List Ly) {x : Nat} (h : x < Q.length) : ly (lys Q) x = nds (gy Q x).L := by
 rw [gy_lt Q x h]
 simp [ly, lys, h]
end Mrg
def Is9 (w : World) (ao : Option Addr) (m : Nat) (K : List Nat) : Prop := K.length = m ∧ (m = 0 ∨ ∃ b, ao = some ⟨b, 0, none⟩ ∧ b < w.heap.size ∧ ∀ i, i < m → w.cell? ⟨b, i, none⟩ = some (.int .i64 (fn9 K i : Int)))
theorem Is9.below {w w' : World} {ao : Option Addr} {m : Nat} {K : List Nat} (h : Is9 w ao m K) (hb : Below w.heap.size w w') : Is9 w' ao m K := by
 refine ⟨h.1, ?_⟩
 rcases h.2 with c | ⟨b, h1, h2, h3⟩
 ·exact .inl c
 ·exact .inr ⟨b, h1, Nat.lt_of_lt_of_le h2 hb.size, fun i hi => (hb.cell h2).trans (h3 i hi)⟩
theorem Is9.at {w : World} {ao : Option Addr} {m : Nat} {K : List Nat} (h : Is9 w ao m K) (hm : 0 < m) : ∃ b, ao = some ⟨b, 0, none⟩ ∧ b < w.heap.size ∧ ∀ i, i < m → w.cell? ⟨b, i, none⟩ = some (.int .i64 (fn9 K i : Int)) := by
 rcases h.2 with c | c
 ·omega
 ·exact c
theorem Is9.of {w : World} {B m c : Nat} {ao : Option Addr} {K : List Nat} (h : w.ownsRow B 3 1 (.slice ao m c) m (K.map (fun z : Nat => Value.int .i64 (z : Int)))) : Is9 w ao m K := by
 have hl : K.length = m := by have := h.1; simpa using this
 refine ⟨hl, ?_⟩
 by_cases hm0 : m = 0
 ·exact .inl hm0
 ·obtain ⟨g, c', hv, hg, _⟩ := h.form (by omega)
  obtain ⟨rfl, rfl⟩ : ao = some ⟨g, 0, none⟩ ∧ c = c' := by simpa using hv
  refine .inr ⟨g, rfl, (h.lt g rfl).2, fun i hi => ?_⟩
  rw [h.cellAt i (by omega)]
  simp [fn9, hl, hi]
theorem info9 : (Try.prog.info? 3).map (fun i => (i.zero, i.size, i.bytes)) = some (some (.int .i64 0), 1, 8) := by kernel_rfl
theorem wpList_append_int9 (w : World) {ops : Array Oper} {rest : List Oper} {o : Oper} {a : Act} {Q : Exit → Act → World → Prop} (hgd : o.guard = none) (s x : Operand)
  (ho : o.op = .call { callee := .builtin .append, args := #[s, x], argTypes := #[32, 32] })
  (base : Nat) (vo : Option Addr) (n vc : Nat) (l : List Nat) (hs : a.eval s = .slice vo n vc) (hown : w.ownsRow base 3 1 (.slice vo n vc) n (l.map (fun z : Nat => Value.int .i64 (z : Int))))
  (p : Nat) (t : Nat) (hx : a.eval x = .slice (some ⟨p, 0, none⟩) 1 1) (hp : w.cell? ⟨p, 0, none⟩ = some (.int .i64 (t : Int)))
  (hbd : n + 1 ≤ 100000000) (hbase : base ≤ w.heap.size)
  (h : ∀ ao' c' w', w'.ownsRow base 3 1 (.slice ao' (n + 1) c') (n + 1) ((l ++ [t]).map (fun z : Nat => Value.int .i64 (z : Int))) → w.grownBy w' (Value.slice vo n vc).ownBlock → wpList Try.prog ops Q rest (a.put o.dst (.slice ao' (n + 1) c')) w') :
  wpList Try.prog ops Q (o :: rest) a w := by
 obtain ⟨i0, hi, hz0, hz1, hz2⟩ := info_parts info9
 refine wpList_append_own w hgd s x _ ho base 3 i0 (.int .i64 0) 1 8 Try.underlying32 hi hz0 hz1 hz2 rfl (by decide) _ n _ hs hown ⟨p, 0, none⟩ 1 1 [.int .i64 (t : Int)] hx (by simp) ?_ (by simp; rfl) (by unfold maxLen; omega) (by omega) hbase ?_
 ·intro j u hj
  match j, hj with
  | 0, hj => simp at hj; subst hj; simpa [Addr.add] using hp
 ·intro v' w' h2 h3 _
  obtain ⟨ao', c', rfl⟩ := owns_shape h2
  exact h ao' c' w' (by rw [List.map_append]; exact h2) h3
theorem empty9 {w : World} {B : Nat} (hB : B ≤ w.heap.size) : (w.alloc (.cells #[] 3)).ownsRow B 3 1 (.slice (some ⟨w.heap.size, 0, none⟩) 0 0) 0 (([] : List Nat).map (fun z : Nat => Value.int .i64 (z : Int))) :=
 ⟨rfl, .inr ⟨w.heap.size, 0, #[], rfl, hB, heap_alloc_new w _, Nat.le_refl _, by unfold maxLen; omega, rfl, rfl⟩⟩
theorem owns9 {w : World} {B e size n : Nat} {v : Value} {xs : List Value} (h : w.ownsRow B e size v n xs) (q : Nat) : (w.drewN q).ownsRow B e size v n xs := by
 cases q with
 | zero => exact h
 | succ q => exact h
theorem below9 {B : Nat} {a w : World} (h : Below B a w) (q : Nat) : Below B a (w.drewN q) := ⟨h.os, h.tape, h.output, h.size, h.block⟩
set_option maxHeartbeats 2000000 in
theorem refSources0_any (a : Option Addr) (n c : Nat) (Q : List Ly) (hn : n ≤ 1000) (h20 : ∀ y ∈ Q, ∀ p ∈ y.L, p.2.names.length ≤ 1000000) (b : Option Addr) (mc : Nat) (m : List ByteArray) (hm0 : m = []) (w : World) (hq : NsR w a n Q) (hm : Rs w b 0 m) :
  Calls Try.prog 12 #[.slice a n c, .slice b 0 mc] w fun e w' => ∃ ao k kc, e = .returned (.slice ao k kc) ∧ Is9 w' ao k (srcs (lys Q) m) ∧ Below w.heap.size w w' := by
 have HQ := hide hq
 have HM := hide hm
 have H20 := hide h20
 clear hq hm h20
 go_enter Try.func12, Try.ntmps12
 go_wp2_with fail
 go_loopw [5, 7] (fun r5 r7 wx => ∃ (i co : Nat) (ao : Option Addr), r7 = .int .i64 i ∧ r5 = .slice ao i co ∧ i ≤ n ∧ w.heap.size < wx.heap.size ∧ wx.ownsRow w.heap.size 3 1 (.slice ao i co) i ((List.range i).map (fun z : Nat => Value.int .i64 (z : Int))) ∧ Below w.heap.size w wx) (fun _ r7 _ => n - (intOf r7).toNat)
 case atStart => exact ⟨0, _, _, rfl, rfl, Nat.zero_le _, by simp, empty9 (Nat.le_refl _), below_one _ _⟩
 case round =>
  obtain ⟨i, co, ao, rfl, rfl, hi0, hsz, hown, hbel⟩ := hrel
  have HO := hide hown
  have HBx := hide hbel
  by_cases hi : i < n
  ·have hd : decide ((i : Int) < n) = true := by simpa using hi
   clear hown hbel
   go_wp2_with (at_builtin; refine wpList_append_int9 _ rfl _ _ rfl w.heap.size _ _ _ (List.range i) rfl (HO.out.alloc _) _ i rfl (by simp) (by omega) (by simp; omega) ?_)
   intro ao2 c2 w5 hown2 hg2
   rw [show (List.range i).map (fun z : Nat => Value.int .i64 (z : Int)) ++ [Value.int .i64 (i : Int)] = (List.range (i + 1)).map (fun z : Nat => Value.int .i64 (z : Int)) from by rw [List.range_succ, List.map_append]; rfl] at hown2
   have e2 := hide ((HBx.out.alloc (by omega) _).grown hg2 (by simp; omega) (fun k e => (HO.out.lt k e).1))
   have s2 := hg2.size
   simp only [World.size_alloc] at s2
   have HO3 := hide hown2
   clear hown2 hg2
   go_wp2
   exact ⟨⟨i + 1, c2, ao2, by go_num, rfl, by omega, by omega, HO3.out, e2.out⟩, by simp [intOf]; omega⟩
  ·have hd : decide ((i : Int) < n) = false := by simpa using hi
   have hin : i = n := by omega
   obtain ⟨v, rfl⟩ : ∃ x, x = wr := ⟨wr, rfl⟩
   obtain ⟨ki, rfl⟩ : ∃ x, x = i := ⟨i, rfl⟩
   obtain ⟨K, hK⟩ : ∃ K, K = List.range ki := ⟨_, rfl⟩
   have HKI : Hid (Is9 v ao ki K) := by rw [hK]; exact Is9.of hown
   have HB := hide hbel
   have HG : Hid (srcs (lys Q) m = gos (lys Q) m [] K) := by
    show _ = _
    rw [hm0, hK]
    have e : (lys Q).length = ki := by rw [lys, List.length_map, hin]; exact HQ.out.1
    unfold srcs
    rw [show ([] : List ByteArray).length = 0 from rfl, srcK, e]
   have HKL : Hid (∀ x ∈ K, x < n) := fun x hx => by rw [hK] at hx; rw [← hin]; simpa using hx
   have hki : ki ≤ 1000 := by omega
   clear hown hbel hK HO HBx hin
   go_wp2_with fail
   go_loopw [8, 9, 10, 11] (fun r8 r9 _ _ wx => ∃ (i ko co : Nat) (ao : Option Addr) (O : List Nat), r9 = .int .i64 i ∧ r8 = .slice ao ko co ∧ i ≤ ki ∧ ko ≤ i ∧ v.heap.size < wx.heap.size ∧ wx.ownsRow v.heap.size 3 1 (.slice ao ko co) ko (O.map (fun z : Nat => Value.int .i64 (z : Int))) ∧ gos (lys Q) m [] K = gos (lys Q) m O (K.drop i) ∧ Below v.heap.size v wx) (fun _ r9 _ _ _ => ki - (intOf r9).toNat)
   case atStart => exact ⟨0, 0, _, _, [], rfl, rfl, Nat.zero_le _, Nat.le_refl _, by simp, empty9 (Nat.le_refl _), rfl, below_one _ _⟩
   case round =>
    obtain ⟨i, ko, co, ao, O, rfl, rfl, hi0, hko, hsz, hown, hgo, hbel⟩ := hrel
    have HO := hide hown
    have HBx := hide hbel
    have HGO := hide hgo
    by_cases hi : i < ki
    ·have hd : decide ((i : Int) < ki) = true := by simpa using hi
     have hi1 : (i : Int) < ki := by omega
     obtain ⟨bi, rfl, hbi, hci⟩ := (HKI.out.below hbel).at (by omega)
     have cx := hci i hi
     have hiK : i < K.length := by rw [HKI.out.1]; exact hi
     have HDK : Hid (K.drop i = fn9 K i :: K.drop (i + 1)) := by
      show _ = _
      rw [List.drop_eq_getElem_cons hiK, fn9_lt K i hiK]
     have hxn : fn9 K i < n := HKL.out _ (by rw [fn9_lt K i hiK]; exact List.getElem_mem hiK)
     generalize fn9 K i = x at *
     have hxn1 : (x : Int) < n := by omega
     obtain ⟨bq, oq, rfl, hbq, hcq⟩ := ((HQ.out.below HB.out).below hbel).at (by omega)
     have cq := hcq x hxn
     have HYO := hide (((HQ.out.below HB.out).below hbel).ok x hxn)
     have HLY := hide (ly_lys9 Q (x := x) (by rw [HQ.out.1]; exact hxn))
     have H20Y : Hid (∀ p ∈ (gy Q x).L, p.2.names.length ≤ 1000000) := H20.out (gy Q x) (by rw [gy_lt Q x (by rw [HQ.out.1]; exact hxn)]; exact List.getElem_mem _)
     generalize gy Q x = y at *
     obtain ⟨ya, yn, yc, yL⟩ := y
     have HYN : Hid (Ns wr ya yn yL) := HYO.out.ns
     have HF := hide (refFind_any ya yn yc yL b _ mc m wr HYN.out HYO.out.le HYO.out.max ((HM.out.below HB.out).below hbel) H20Y.out)
     clear hci hcq hown hbel hgo hi0
     rcases fi_fnd (nds yL) m with ⟨f1, f2⟩ | ⟨jj, f1, hj, f2⟩
     ·rw [f1] at HF
      have HG2 : Hid (gos (lys Q) m [] K = gos (lys Q) m O (K.drop (i + 1))) := by
       show _ = _
       rw [HGO.out, HDK.out, gos_none (by rw [HLY.out]; exact f2)]
      clear f1 f2
      go_wp2_with (go_at_call 35; refine HF.out.mono ?_; rintro e w1 ⟨rfl, q, rfl⟩)
      exact ⟨⟨i + 1, ko, co, ao, O, by go_num, rfl, by omega, by omega, by simpa using hsz, owns9 HO.out q, HG2.out, below9 HBx.out q⟩, by simp [intOf]; omega⟩
     ·rw [f1] at HF
      have hjL : jj < yL.length := by rw [nds_length] at hj; exact hj
      have hjn : jj < yn := by rw [← HYN.out.1]; exact hjL
      have hjn1 : (jj : Int) < yn := by omega
      have hj0 : (0 : Int) ≤ jj := by omega
      have hjb : decide ((jj : Int) < 0) = false := by simp
      have hyp : 0 < yn := by omega
      obtain ⟨yb, yo, rfl, hyb, hcy⟩ := HYN.out.at hyp
      have hcyj := hcy jj hjn
      have hrep := HYN.out.rep jj hjn
      have HFD : Hid (fnd (ly (lys Q) x) m = some (gl yL jj).2) := by
       show _ = _
       rw [HLY.out, f2, gl_lt yL jj hjL]
       simp [nds]
      have HKD : Hid ((gl yL jj).2.kind = (gl yL jj).1.kind) := hrep.kind
      have HOP : Hid ((gl yL jj).2.opq = (gl yL jj).1.op) := hrep.op
      generalize (gl yL jj).1 = u at *
      generalize (gl yL jj).2 = nd at *
      clear f1 f2 hcy hrep
      go_upto_region 16 with (go_at_call 35; refine HF.out.mono ?_; rintro e w1 ⟨rfl, q, rfl⟩)
      obtain ⟨w1, hw1⟩ : ∃ x, x = wr.drewN q := ⟨_, rfl⟩
      rw [← hw1]
      have hbw : Below wr.heap.size wr w1 := by rw [hw1]; exact drewN_below wr q
      have HB1 := hide (HBx.out.trans (hbw.mono HBx.out.size))
      have HO1 : Hid (w1.ownsRow v.heap.size 3 1 (.slice ao ko co) ko (O.map (fun z : Nat => Value.int .i64 (z : Int)))) := by rw [hw1]; exact owns9 HO.out q
      have hs1 : v.heap.size < w1.heap.size := Nat.lt_of_lt_of_le hsz hbw.size
      have cx1 := (hbw.cell hbi).trans cx
      have cq1 := (hbw.cell hbq).trans cq
      obtain ⟨n0, n1, n2, n3, n4, n5, n6, n7, n8, n9⟩ := hcyj.below hbw hyb
      have hbi1 : bi < w1.heap.size := Nat.lt_of_lt_of_le hbi hbw.size
      clear hw1 cx cq hcyj HF hsz HBx HO HLY HYO HYN H20Y
      go_upto_region 18 with fail
      obtain ⟨w2, hw2⟩ : ∃ x, x = w1.alloc (Obj.cells u.cells 44) := ⟨_, rfl⟩
      have hw2' := hw2
      simp only [Nv.cells] at hw2'
      rw [← hw2']
      have hb2 : Below w1.heap.size w1 w2 := by rw [hw2]; exact below_one _ _
      have hbk : Bk w2 w1.heap.size u := by rw [hw2]; exact bk_new w1 u
      have hbx := hbk.box
      have k2 := hbx.c2
      have k9 := hbx.c9
      have hs2 : w1.heap.size < w2.heap.size := by rw [hw2]; simp
      have HB2 := hide (HB1.out.trans (hb2.mono HB1.out.size))
      have HO2 : Hid (w2.ownsRow v.heap.size 3 1 (.slice ao ko co) ko (O.map (fun z : Nat => Value.int .i64 (z : Int)))) := by rw [hw2]; exact HO1.out.alloc _
      have cx2 := (hb2.cell hbi1).trans cx1
      have HLT : Hid (∀ p, (Value.slice ao ko co).ownBlock = some p → p < w1.heap.size) := fun p e => (HO1.out.lt p e).2
      have HI2 := hide (Is9.of HO2.out)
      have hOl : O.length = ko := HI2.out.1
      have HOL := hide hOl
      generalize hbp : w1.heap.size = bp at *
      clear hw2 hw2' hb2 hbk hbx n0 n1 n2 n3 n4 n5 n6 n7 n8 n9 cx1 cq1 HO1 HB1 hbw hbp hOl
      by_cases h4 : u.kind = 4
      ·have h4b : (u.kind == 4) = true := by simp [h4]
       have HE : Hid (O = srcs (lys Q) m) := by
        show _ = _
        rw [HG.out, HGO.out, HDK.out, gos_white HFD.out (HKD.out.trans h4)]
       rw [HE.out] at HI2
       clear h4
       go_wp2
       go_ret
       exact ⟨_, _, _, rfl, HI2.out, HB.out.trans (HB2.out.mono HB.out.size)⟩
      ·have h4b : (u.kind == 4) = false := by simpa using h4
       by_cases h1 : u.kind = 1
       ·have h1b : (u.kind != 1) = false := by simp [h1]
        have HK1 := hide (HKD.out.trans h1)
        clear h1 h4
        go_wp2_with (at_builtin; refine wpList_append_int9 _ rfl _ _ rfl v.heap.size _ _ _ O rfl (HO2.out.alloc _) _ x rfl (by simp) (by omega) (by simp; omega) ?_)
        intro ao2 c2 w5 hown2 hg2
        have e9 : O.map (fun z : Nat => Value.int .i64 (z : Int)) ++ [Value.int .i64 (x : Int)] = (O ++ [x]).map (fun z : Nat => Value.int .i64 (z : Int)) := by rw [List.map_append]; rfl
        rw [e9] at hown2
        have HB5 := hide ((HB2.out.alloc (by omega) _).grown hg2 (by simp; omega) (fun k e => (HO2.out.lt k e).1))
        have s5 := hg2.size
        simp only [World.size_alloc] at s5
        have k5 : w5.cell? ⟨bp, 9, none⟩ = some (.bool u.op) := hg2.cell (by rw [World.cell?_alloc_past _ _ _ hs2]; exact k9) (fun e => by have := HLT.out _ e.symm; simp at this)
        have HO5 := hide hown2
        have HI5 := hide (Is9.of hown2)
        clear hown2 hg2 e9
        cases ho : u.op with
        | true =>
         have HE : Hid (O ++ [x] = srcs (lys Q) m) := by
          show _ = _
          rw [HG.out, HGO.out, HDK.out, gos_opq HFD.out HK1.out (HOP.out.trans ho)]
         rw [HE.out] at HI5
         rw [ho] at k5
         go_wp2
         go_ret
         exact ⟨_, _, _, rfl, HI5.out, HB.out.trans (HB5.out.mono HB.out.size)⟩
        | false =>
         have HE : Hid (gos (lys Q) m [] K = gos (lys Q) m (O ++ [x]) (K.drop (i + 1))) := by
          show _ = _
          rw [HGO.out, HDK.out, gos_dir HFD.out HK1.out (HOP.out.trans ho)]
         rw [ho] at k5
         go_wp2
         exact ⟨⟨i + 1, ko + 1, c2, ao2, O ++ [x], by go_num, rfl, by omega, by omega, by omega, HO5.out, HE.out, HB5.out⟩, by simp [intOf]; omega⟩
       ·have h1b : (u.kind != 1) = true := by simpa using h1
        have HGF : Hid (srcs (lys Q) m = if O = [] then [x] else O) := by
         show _ = _
         rw [HG.out, HGO.out, HDK.out, gos_file HFD.out (by rw [HKD.out]; exact h4) (by rw [HKD.out]; exact h1)]
        clear h1 h4
        by_cases hk0 : ko = 0
        ·subst hk0
         have hO0 : O = [] := List.eq_nil_of_length_eq_zero HOL.out
         subst hO0
         go_wp2_with (at_builtin; refine wpList_append_int9 _ rfl _ _ rfl v.heap.size _ _ _ [] rfl (HO2.out.alloc _) _ x rfl (by simp) (by omega) (by simp; omega) ?_)
         intro ao2 c2 w5 hown2 hg2
         have HB5 := hide ((HB2.out.alloc (by omega) _).grown hg2 (by simp; omega) (fun k e => (HO2.out.lt k e).1))
         have HI5 : Hid (Is9 w5 ao2 (0 + 1) (srcs (lys Q) m)) := by
          show Is9 _ _ _ _
          rw [show srcs (lys Q) m = [x] from by rw [HGF.out]; simp]
          exact Is9.of (K := [x]) hown2
         clear hown2 hg2
         go_wp2
         go_ret
         exact ⟨_, _, _, rfl, HI5.out, HB.out.trans (HB5.out.mono HB.out.size)⟩
        ·have hkb : ((ko : Int) == 0) = false := by simp; omega
         have HE : Hid (O = srcs (lys Q) m) := by
          show _ = _
          rw [HGF.out, if_neg (fun e => hk0 (by rw [← HOL.out, e]; rfl))]
         rw [HE.out] at HI2
         go_wp2
         go_ret
         exact ⟨_, _, _, rfl, HI2.out, HB.out.trans (HB2.out.mono HB.out.size)⟩
    ·have hd : decide ((i : Int) < ki) = false := by simpa using hi
     have hE : O = srcs (lys Q) m := by
      rw [HG.out, hgo, List.drop_of_length_le (by rw [HKI.out.1]; omega)]; rfl
     have HI9 := hide (Is9.of hown)
     rw [hE] at HI9
     clear hgo hown hbel hE
     go_wp2
     go_ret
     exact ⟨_, _, _, rfl, HI9.out, HB.out.trans (HBx.out.mono HB.out.size)⟩
end Go.Proofs.Ytflohhefbbidcaa
namespace Go.Proofs.Ytflohhefbbidcaa
open Go.RowKit Go.Maps
open Nam Tre Mrg Stb Plc
def oneF (L : List (List Nod)) (m : List ByteArray) (i : Nat) : Option Pl := if 0 ≤ fi (nmd m) 0 (ly L i) then some (i, (fi (nmd m) 0 (ly L i)).toNat) else none
theorem oneF_some {L : List (List Nod)} {m : List ByteArray} {i : Nat} {p : Pl} (h : oneF L m i = some p) : p.1 = i ∧ p.2 < (ly L i).length ∧ fnd (ly L i) m = some (nat' L p) := by
 unfold oneF at h
 rcases fi_fnd (ly L i) m with ⟨h1, h2⟩ | ⟨j, h1, hj, h2⟩
 ·rw [h1, if_neg (by omega)] at h; cases h
 ·rw [h1, if_pos (by omega)] at h
  have e := Option.some.inj h
  rw [Int.toNat_natCast] at e
  subst e
  refine ⟨rfl, hj, ?_⟩
  rw [h2]
  unfold nat'
  rw [List.getD_eq_getElem?_getD, List.getElem?_eq_getElem hj]; rfl
theorem oneF_none {L : List (List Nod)} {m : List ByteArray} {i : Nat} (h : oneF L m i = none) : fnd (ly L i) m = none := by
 unfold oneF at h
 rcases fi_fnd (ly L i) m with ⟨h1, h2⟩ | ⟨j, h1, hj, h2⟩
 ·exact h2
 ·rw [h1, if_pos (by omega)] at h; cases h
def fndL (L : List (List Nod)) (m : List ByteArray) (l : List Pl) : List Pl := l.filterMap (fun p => oneF L m p.1)
theorem fndL_cons (L : List (List Nod)) (m : List ByteArray) (p : Pl) (l : List Pl) : fndL L m (p :: l) = (match oneF L m p.1 with | none => [] | some q => [q]) ++ fndL L m l := by
 unfold fndL
 rw [List.filterMap_cons]
 cases oneF L m p.1 <;> rfl
theorem fndL_succ (L : List (List Nod)) (m : List ByteArray) (l : List Pl) (i : Nat) (h : i < l.length) : fndL L m (l.take (i + 1)) = fndL L m (l.take i) ++ (match oneF L m (gq l i).1 with | none => [] | some q => [q]) := by
 unfold fndL
 rw [List.take_succ_eq_append_getElem h, List.filterMap_append, gq_lt l i h]
 congr 1
 rw [List.filterMap_cons, List.filterMap_nil]
 cases oneF L m l[i].1 <;> rfl
theorem fndL_len (L : List (List Nod)) (m : List ByteArray) (l : List Pl) : (fndL L m l).length ≤ l.length := List.length_filterMap_le _ _
theorem fndL_in {L : List (List Nod)} {m : List ByteArray} {l : List Pl} {p : Pl} (h : p ∈ fndL L m l) : (∃ q ∈ l, q.1 = p.1) ∧ p.2 < (ly L p.1).length ∧ fnd (ly L p.1) m = some (nat' L p) := by
 unfold fndL at h
 obtain ⟨q, hq, e⟩ := List.mem_filterMap.1 h
 obtain ⟨h1, h2, h3⟩ := oneF_some e
 rw [h1]
 exact ⟨⟨q, hq, rfl⟩, h2, h3⟩
theorem gos_fndL (L : List (List Nod)) (m : List ByteArray) : ∀ (l : List Pl) (out : List Nat), gos L m out (l.map (·.1)) = gos L m out ((fndL L m l).map (·.1))
 | [], out => rfl
 | p :: r, out => by
  rw [fndL_cons, List.map_cons]
  cases e : oneF L m p.1 with
  | none =>
   rw [gos_none (oneF_none e)]
   exact gos_fndL L m r out
  | some q =>
   obtain ⟨h1, _, h3⟩ := oneF_some e
   show _ = gos L m out ((([q] : List Pl) ++ fndL L m r).map (·.1))
   rw [List.singleton_append, List.map_cons, h1]
   by_cases k4 : (nat' L q).kind = 4
   ·rw [gos_white h3 k4, gos_white h3 k4]
   ·by_cases k1 : (nat' L q).kind = 1
    ·cases o : (nat' L q).opq with
     | true => rw [gos_opq h3 k1 o, gos_opq h3 k1 o]
     | false => rw [gos_dir h3 k1 o, gos_dir h3 k1 o]; exact gos_fndL L m r _
    ·rw [gos_file h3 k4 k1, gos_file h3 k4 k1]
theorem mad_fndL (L : List (List Nod)) (m : List ByteArray) (l : List Pl) : (mad L (fndL L m l)).map (·.1) = gos L m [] (l.map (·.1)) := by
 rw [gos_fndL, gos_cut (fndL L m l) [] (fun p hp => (fndL_in hp).2.2)]
 simp [mad]
structure SrcR (L : List (List Nod)) (m : List ByteArray) (l : List Pl) : Prop where
 srcs : l.map (·.1) = Mrg.srcs L m
 ok : ∀ p ∈ l, PlOk L p
 at' : ∀ p ∈ l, fnd (ly L p.1) m = some (nat' L p)
theorem mad_mem {L : List (List Nod)} {l : List Pl} {p : Pl} (h : p ∈ mad L l) : p ∈ l := List.mem_of_mem_take h
def allZ (n : Nat) : List Pl := (List.range n).map (fun i => (i, 0))
theorem allZ_len (n : Nat) : (allZ n).length = n := by simp [allZ]
theorem allZ_lt {n : Nat} {p : Pl} (h : p ∈ allZ n) : p.1 < n := by
 unfold allZ at h
 obtain ⟨i, hi, rfl⟩ := List.mem_map.1 h
 exact List.mem_range.1 hi
theorem src_root (L : List (List Nod)) : SrcR L [] (mad L (fndL L [] (allZ L.length))) := by
 refine ⟨?_, fun p hp => ?_, fun p hp => ?_⟩
 ·rw [mad_fndL, srcs_root]
  congr 1
  unfold allZ
  rw [List.map_map]
  exact List.map_id _
 ·obtain ⟨⟨q, h1, h2⟩, h3, _⟩ := fndL_in (mad_mem hp)
  exact ⟨by rw [← h2]; exact allZ_lt h1, h3⟩
 ·exact (fndL_in (mad_mem hp)).2.2
theorem src_dir {L : List (List Nod)} {m : List ByteArray} {l : List Pl} (h : SrcR L m l) : dirOf L m = if isD L l = true then l.map (·.1) else [] := by
 unfold dirOf
 rw [← h.srcs]
 cases l with
 | nil => simp
 | cons p q =>
  have hf := h.at' p (by simp)
  simp only [List.map_cons, List.head?_cons, Option.bind_some, hf, Option.map_some, isD, Option.getD_some]
  by_cases k : (nat' L p).kind = 1
  ·simp [k]
  ·simp [k]
theorem src_step {L : List (List Nod)} {m : List ByteArray} {l : List Pl} (hm : m ≠ []) (h : SrcR L m.dropLast l) (hd : isD L l = true) : SrcR L m (mad L (fndL L m l)) := by
 refine ⟨?_, fun p hp => ?_, fun p hp => ?_⟩
 ·rw [mad_fndL, srcs_step hm, src_dir h, if_pos hd]
 ·obtain ⟨⟨q, h1, h2⟩, h3, _⟩ := fndL_in (mad_mem hp)
  exact ⟨by rw [← h2]; exact (h.ok q h1).1, h3⟩
 ·exact (fndL_in (mad_mem hp)).2.2
theorem src_no {L : List (List Nod)} {m : List ByteArray} {l : List Pl} (hm : m ≠ []) (h : SrcR L m.dropLast l) (hd : isD L l = false) : srcs L m = [] := by
 rw [srcs_step hm, src_dir h, if_neg (by rw [hd]; simp)]; rfl
theorem src_up {L : List (List Nod)} {m : List ByteArray} : ∀ (d i : Nat), i + d = m.length → srcs L (m.take i) = [] → srcs L m = []
 | 0, i, h, e => by rwa [List.take_of_length_le (by omega)] at e
 | d + 1, i, h, e => by
  refine src_up d (i + 1) (by omega) ?_
  have h1 : (m.take (i + 1)).length = i + 1 := by rw [List.length_take]; omega
  refine srcs_up_nil h1 ?_
  rw [List.take_take, show min i (i + 1) = i by omega]; exact e
theorem src_nil (L : List (List Nod)) (m : List ByteArray) (h : srcs L m = []) : SrcR L m [] := ⟨h.symm, fun p hp => by simp at hp, fun p hp => by simp at hp⟩
end Go.Proofs.Ytflohhefbbidcaa
namespace Go.Proofs.Ytflohhefbbidcaa
set_option maxRecDepth 100000
open Go.RowKit Go.Maps
open Nam Tre Mrg Stb Plc
set_option maxHeartbeats 1000000 in
theorem findL_any (a : Option Addr) (n c : Nat) (Q : List Ly) (ao : Option Addr) (m mc : Nat) (l : List Pl) (b : Option Addr) (j jc : Nat) (nm : List ByteArray) (w : World) (hq : NsR w a n Q) (hn : n ≤ 1000) (hl : Ps w ao m l) (hm : m ≤ 1000) (hi : ∀ p ∈ l, p.1 < n) (hr : Rs w b j nm) (h20 : ∀ y ∈ Q, ∀ p ∈ y.L, p.2.names.length ≤ 1000000) :
  Calls Try.prog 36 #[.slice a n c, .slice ao m mc, .slice b j jc] w fun e w' => ∃ ao' k c', e = .returned (.slice ao' k c') ∧ w'.ownsRow w.heap.size 57 2 (.slice ao' k c') k (pls (fndL (lys Q) nm l)) ∧ Below w.heap.size w w' := by
 have HQ := hide hq
 have HL := hide hl
 have HLN := hide hl.1
 have HI := hide hi
 have HR := hide hr
 have H20 := hide h20
 clear hq hl hi hr h20
 go_enter Try.func36, Try.ntmps36
 go_wp2
 go_loopw [7, 9, 10, 13] (fun r7 _ _ r13 wr => ∃ (i k : Nat) (ao' : Option Addr) (c' : Nat), r13 = .int .i64 i ∧ i ≤ m ∧ r7 = .slice ao' k c' ∧ wr.ownsRow w.heap.size 57 2 (.slice ao' k c') k (pls (fndL (lys Q) nm (l.take i))) ∧ Below w.heap.size w wr) (fun _ _ _ r13 _ => m - (intOf r13).toNat)
 case atStart => exact ⟨0, 0, none, 0, rfl, Nat.zero_le _, rfl, World.ownsRow_nil _ _ _ _, Below.refl _ _⟩
 case round =>
  obtain ⟨i, k, ao', c', rfl, hi0, rfl, hO, hb⟩ := hrel
  have HO := hide hO
  have HB := hide hb
  have hk : k ≤ i := by
   have h1 := hO.1
   rw [pls_length] at h1
   have h2 := fndL_len (lys Q) nm (l.take i)
   rw [List.length_take] at h2
   omega
  clear hO hb
  by_cases hi : i < m
  ·have hdx : decide ((i : Int) < m) = true := by simpa using hi
   have hi1 : (i : Int) < m := by omega
   obtain ⟨bo, off, rfl, hbl, hc⟩ := (HL.out.below HB.out).at (by omega)
   obtain ⟨c1, c2⟩ := hc i hi
   have HS := hide (fndL_succ (lys Q) nm l i (by rw [HLN.out]; exact hi))
   have hx : (gq l i).1 < n := HI.out _ (by rw [gq_lt l i (by rw [HLN.out]; exact hi)]; exact List.getElem_mem _)
   generalize (gq l i).1 = x at *
   generalize (gq l i).2 = y at *
   have hxQ : x < Q.length := by rw [HQ.out.1]; exact hx
   have hx1 : (x : Int) < n := by omega
   obtain ⟨ba, offa, rfl, hba, hca⟩ := HQ.out.at (by omega)
   have HCR : Hid (∀ W, Below w.heap.size w W → W.cell? ⟨ba, offa + x, none⟩ = some (.slice (gy Q x).a (gy Q x).n (gy Q x).c)) := fun W hW => (hW.cell hba).trans (hca x hx)
   have HFC : Hid (∀ W, Below w.heap.size w W → Calls Try.prog 53 #[.slice (gy Q x).a (gy Q x).n (gy Q x).c, .slice b j jc] W fun e w' => e = .returned (.int .i64 (fi (nmd nm) 0 (nds (gy Q x).L))) ∧ Below W.heap.size W w') := fun W hW => by
    have hy := (HQ.out.below hW).ok x hx
    exact Find_any _ _ _ (gy Q x).L b j jc nm W hy.ns hy.le hy.max (HR.out.below hW) (fun p hp => H20.out (gy Q x) (by rw [gy_lt Q x hxQ]; exact List.getElem_mem _) p hp)
   have hone : oneF (lys Q) nm x = if 0 ≤ fi (nmd nm) 0 (nds (gy Q x).L) then some (x, (fi (nmd nm) 0 (nds (gy Q x).L)).toNat) else none := by
    unfold oneF; rw [ly_lys9 Q hxQ]
   rw [hone] at HS
   obtain ⟨w1, hw1⟩ : ∃ w1, w1 = wr.alloc (Obj.cells #[Value.int IntKind.i64 (x : Int), Value.int IntKind.i64 (y : Int)] 57) := ⟨_, rfl⟩
   have hbw : Below wr.heap.size wr w1 := by rw [hw1]; exact (Below.refl _ wr).alloc (Nat.le_refl _) _
   have hz : w1.heap[wr.heap.size]? = some (Obj.cells #[Value.int IntKind.i64 (x : Int), Value.int IntKind.i64 (y : Int)] 57) := by rw [hw1]; exact heap_alloc_new wr _
   have HG : Hid (∀ W, Below w1.heap.size w1 W → W.cell? ⟨wr.heap.size, 0, none⟩ = some (.int .i64 (x : Int)) ∧ Below w.heap.size w W ∧ W.ownsRow w.heap.size 57 2 (.slice ao' k c') k (pls (fndL (lys Q) nm (l.take i)))) := fun W hW => by
    have h1 := (hW.block _ (heap_lt hz)).trans hz
    have hbb := hbw.trans (hW.mono hbw.size)
    refine ⟨by simp [World.cell?, h1], HB.out.trans (hbb.mono HB.out.size), owns_below HO.out hbb⟩
   have hB1 := HB.out.trans (hbw.mono HB.out.size)
   have HC2 := hide (HFC.out w1 hB1)
   have cL : (wr.alloc (Obj.cells #[Value.int IntKind.i64 (x : Int), Value.int IntKind.i64 (y : Int)] 57)).cell? ⟨ba, offa + x, none⟩ = some (.slice (gy Q x).a (gy Q x).n (gy Q x).c) := by rw [← hw1]; exact HCR.out w1 hB1
   rcases fi_fnd (nds (gy Q x).L) nm with ⟨f1, _⟩ | ⟨jj, f1, hjj, f2⟩
   ·rw [f1] at HS HC2
    clear hz hbw HFC HCR hone hc hca hB1 hbl
    generalize (gy Q x).a = ya at *
    generalize (gy Q x).n = yn at *
    generalize (gy Q x).c = yc at *
    go_wp2_with (go_at_call 53; rw [← hw1]; refine HC2.out.mono ?_; rintro e w2 ⟨rfl, hb2⟩; have HB2 := hide hb2; clear hb2)
    obtain ⟨_, q3, q4⟩ := HG.out _ HB2.out
    refine ⟨⟨i + 1, k, ao', c', by go_num, by omega, rfl, ?_, q3⟩, by simp [intOf]; omega⟩
    have := HS.out
    rw [if_neg (by omega), List.append_nil] at this
    rw [this]; exact q4
   ·rw [f1] at HS HC2
    have hj0 : (0 : Int) ≤ jj := by omega
    have hjn : jj < 9223372036854775807 := by
     have h1 := (HQ.out.ok x hx).ns.1
     have h2 := (HQ.out.ok x hx).le
     have h3 := (HQ.out.ok x hx).max
     rw [nds_length] at hjj; omega
    clear hz hbw HFC HCR hone hc hca hB1 hbl f1 f2 hjj
    generalize (gy Q x).a = ya at *
    generalize (gy Q x).n = yn at *
    generalize (gy Q x).c = yc at *
    have hd2 : decide ((jj : Int) ≥ 0) = true := by simp
    go_wp2_with (first
     | (go_at_call 53; rw [← hw1]; refine HC2.out.mono ?_; rintro e w2 ⟨rfl, hb2⟩; obtain ⟨g1, g3, g4⟩ := HG.out _ hb2; have HB2 := hide g3; have HO2 := hide g4; clear hb2 g3 g4)
     | (at_builtin; refine wpList_append_pl _ rfl _ _ rfl w.heap.size _ _ _ (fndL (lys Q) nm (l.take i)) rfl (HO2.out.alloc _) _ (x, jj) rfl (cell_new2 _ _ _ _).1 (cell_new2 _ _ _ _).2 (by omega) (by have := HB2.out.size; simp; omega) ?_))
    rintro ao2 k2 w3 ho3 hg3
    have HT : Hid (w3.ownsRow w.heap.size 57 2 (.slice ao2 (k + 1) k2) (k + 1) (pls (fndL (lys Q) nm (l.take (i + 1))))) := by
     have := HS.out
     rw [if_pos (by omega), Int.toNat_natCast] at this
     rw [this]; exact ho3
    have HB3 : Hid (Below w.heap.size w w3) := (HB2.out.alloc (HB2.out.size) _).grown hg3 (by have := HB2.out.size; simp; omega) (fun k e => (HO2.out.lt k e).1)
    clear ho3 hg3
    go_wp2
    exact ⟨⟨i + 1, k + 1, ao2, k2, by go_num, by omega, rfl, HT.out, HB3.out⟩, by simp [intOf]; omega⟩
  ·have hdx : decide ((i : Int) < m) = false := by simpa using hi
   obtain rfl : i = m := by omega
   have HF : Hid (l.take i = l) := List.take_of_length_le (by rw [HLN.out]; omega)
   go_wp2
   go_ret
   exact ⟨_, _, _, rfl, by have := HO.out; rw [HF.out] at this; exact this, HB.out⟩
end Go.Proofs.Ytflohhefbbidcaa
namespace Go.Proofs.Ytflohhefbbidcaa
set_option maxRecDepth 100000
open Go.RowKit Go.Maps
open Nam Tre Mrg Stb Plc
theorem make_pls (n : Nat) (hn : n ≤ 100000) : ∃ M : Array Value, M = madeCells (Value.agg #[.int .i64 0, .int .i64 0]).cells (n * 2) ∧ M.size = n * 2 ∧ ∀ W : World, (Instr.makeSlice 54 (.int .i64 (n : Int)) (.int .i64 (n : Int))).run Try.prog W = .ok (.slice (some ⟨W.heap.size, 0, none⟩) n n) (W.alloc (.cells M 57)) := by
 obtain ⟨i0, hi, hz0, hz1, hz2⟩ := info_parts infoPl
 refine ⟨madeCells (Value.agg #[.int .i64 0, .int .i64 0]).cells (((n : Nat) : Int).toNat * i0.size), by rw [hz1]; simp, by rw [size_madeCells, hz1]; simp, fun W => ?_⟩
 have h := run_make (P := Try.prog) W 54 57 i0 (.agg #[.int .i64 0, .int .i64 0]) Try.underlying54 hi hz0 .i64 .i64 (n : Int) (n : Int) (by omega) (by omega) (by rw [hz2]; omega) (by omega)
 simpa using h
def zc (n i : Nat) : List Value := (List.range (n * 2)).map (fun j => if j % 2 = 0 ∧ j / 2 < i then Value.int .i64 ((j / 2 : Nat) : Int) else Value.int .i64 0)
theorem zc_get {n i j : Nat} (h : j < n * 2) : (zc n i)[j]? = some (if j % 2 = 0 ∧ j / 2 < i then Value.int .i64 ((j / 2 : Nat) : Int) else Value.int .i64 0) := by
 simp [zc, h]
theorem zc_len (n i : Nat) : (zc n i).length = n * 2 := by simp [zc]
theorem zc_zero (n : Nat) : (madeCells (Value.agg #[.int .i64 0, .int .i64 0]).cells (n * 2)).toList = zc n 0 := by
 apply List.ext_getElem?
 intro j
 by_cases hj : j < n * 2
 ·rw [zc_get hj, if_neg (by omega)]
  have e : (Value.agg #[.int .i64 0, .int .i64 0]).cells = #[Value.int .i64 0, Value.int .i64 0] := by rfl
  rw [e, Array.getElem?_toList]
  unfold madeCells
  simp [hj]
  rcases Nat.mod_two_eq_zero_or_one j with q | q <;> simp [q]
 ·rw [List.getElem?_eq_none (by rw [Array.length_toList, size_madeCells]; omega), List.getElem?_eq_none (by rw [zc_len]; omega)]
theorem zc_step {n i : Nat} (hi : i < n) : (zc n i).set (i * 2) (.int .i64 (i : Int)) = zc n (i + 1) := by
 apply List.ext_getElem?
 intro j
 by_cases hj : j < n * 2
 ·by_cases e : i * 2 = j
  ·subst e
   rw [List.getElem?_set_self (by rw [zc_len]; omega), zc_get hj, if_pos (by omega)]
   congr 3; omega
  ·rw [List.getElem?_set_ne e, zc_get hj, zc_get hj]
   congr 1
   by_cases c : j % 2 = 0 ∧ j / 2 < i
   ·rw [if_pos c, if_pos (by omega)]
   ·rw [if_neg c, if_neg (by omega)]
 ·rw [List.getElem?_eq_none (by rw [List.length_set, zc_len]; omega), List.getElem?_eq_none (by rw [zc_len]; omega)]
theorem zc_all (n : Nat) : zc n n = pls (allZ n) := by
 apply List.ext_getElem?
 intro j
 by_cases hj : j < n * 2
 ·rw [zc_get hj]
  have hg := pls_get (allZ n) (j / 2) (by rw [allZ_len]; omega)
  have e : gq (allZ n) (j / 2) = (j / 2, 0) := by
   rw [gq_lt _ _ (by rw [allZ_len]; omega)]; simp [allZ]
  rw [e] at hg
  rcases Nat.mod_two_eq_zero_or_one j with q | q
  ·rw [if_pos ⟨q, by omega⟩]
   have := hg.1
   rw [show j / 2 * 2 = j by omega] at this
   exact this.symm
  ·rw [if_neg (by omega)]
   have := hg.2
   rw [show j / 2 * 2 + 1 = j by omega] at this
   exact this.symm
 ·rw [List.getElem?_eq_none (by rw [zc_len]; omega), List.getElem?_eq_none (by rw [pls_length, allZ_len]; omega)]
theorem fnd_allQ {w : World} {a : Option Addr} {n : Nat} {Q : List Ly} (hq : NsR w a n Q) {l : List Pl} {nm : List ByteArray} (hi : ∀ p ∈ l, p.1 < n) : AllQ Q (fndL (lys Q) nm l) := fun p hp => by
 obtain ⟨⟨q, h1, h2⟩, h3, _⟩ := fndL_in hp
 refine (inq_ok hq p).1 ⟨?_, h3⟩
 have := hi q h1
 rw [h2] at this
 rw [lys, List.length_map, hq.1]; exact this
theorem cap_pl {w : World} {B k c : Nat} {ao : Option Addr} {xs : List Value} (h : w.ownsRow B 57 2 (.slice ao k c) k xs) : k ≤ c := by
 rcases h.2 with ⟨h1, h2⟩ | ⟨g, cap, cur, hv, _, _, h3, _⟩
 ·omega
 ·obtain ⟨_, _, rfl⟩ : ao = some ⟨g, 0, none⟩ ∧ k = k ∧ c = cap := by simpa using hv
  exact h3
theorem goOn_ok {w w1 : World} {a : Option Addr} {n k c : Nat} {Q : List Ly} {l : List Pl} {nm : List ByteArray} {ao : Option Addr} (hq : NsR w a n Q) (hi : ∀ p ∈ l, p.1 < n) (hl : l.length ≤ 1000) (ho : w1.ownsRow w.heap.size 57 2 (.slice ao k c) k (pls (fndL (lys Q) nm l))) : Ps w1 ao k (fndL (lys Q) nm l) ∧ k ≤ 1000 ∧ k ≤ c ∧ AllQ Q (fndL (lys Q) nm l) := by
 have h1 := ps_of_owns ho
 exact ⟨h1, by have := h1.1; have := fndL_len (lys Q) nm l; omega, cap_pl ho, fnd_allQ hq hi⟩
set_option maxHeartbeats 1000000 in
theorem srcs_any (a : Option Addr) (n c : Nat) (Q : List Ly) (b : Option Addr) (j jc : Nat) (nm : List ByteArray) (w : World) (hq : NsR w a n Q) (hn : n ≤ 1000) (hr : Rs w b j nm) (hj : j ≤ jc) (hjc : jc ≤ 9223372036854775807) (h20 : ∀ y ∈ Q, ∀ p ∈ y.L, p.2.names.length ≤ 1000000) :
  Calls Try.prog 34 #[.slice a n c, .slice b j jc] w fun e w' => ∃ ao k c' l, e = .returned (.slice ao k c') ∧ Ps w' ao k l ∧ k ≤ 1000 ∧ SrcR (lys Q) nm l ∧ Below w.heap.size w w' := by
 have HQ := hide hq
 have HR := hide hr
 have H20 := hide h20
 have HLQ : Hid ((lys Q).length = n) := by show _ = _; rw [lys, List.length_map]; exact hq.1
 have HNL : Hid (nm.length = j) := hr.1
 obtain ⟨M, hM, hMs, mk⟩ := make_pls n (by omega)
 have HM : Hid ((w.alloc (.cells M 57)).ownsRow w.heap.size 57 2 (.slice (some ⟨w.heap.size, 0, none⟩) n n) n (zc n 0)) := by
  refine ⟨by rw [zc_len], .inr ⟨w.heap.size, n, M, rfl, Nat.le_refl _, heap_alloc_new w _, Nat.le_refl _, by unfold maxLen; omega, hMs, ?_⟩⟩
  rw [← zc_zero, hM, List.take_of_length_le (by rw [Array.length_toList, size_madeCells]; omega)]
 clear hq hr h20 hM hMs
 go_enter Try.func34, Try.ntmps34
 go_wp2
 go_loopw [6, 14] (fun _ r14 wr => ∃ i : Nat, r14 = .int .i64 i ∧ i ≤ n ∧ wr.ownsRow w.heap.size 57 2 (.slice (some ⟨w.heap.size, 0, none⟩) n n) n (zc n i) ∧ Below w.heap.size w wr) (fun _ r14 _ => n - (intOf r14).toNat)
 case atStart => exact ⟨0, rfl, Nat.zero_le _, HM.out, below_one _ _⟩
 case round =>
  clear HM mk
  obtain ⟨i, rfl, hi0, hO, hb⟩ := hrel
  have HB := hide hb
  by_cases hi : i < n
  ·have hd : decide ((i : Int) < n) = true := by simpa using hi
   have hi1 : (i : Int) < n := by omega
   have c0 : wr.cell? ⟨w.heap.size, i * 2, none⟩ = some (.int .i64 0) := by
    rw [hO.cellAt _ (by omega), zc_get (by omega), if_neg (by omega)]
   have f0 : wr.frozen? ⟨w.heap.size, i * 2, none⟩ = false := hO.frozenAt _
   have HO := hide (hO.stored (i * 2) (.int .i64 (i : Int))).1
   rw [zc_step hi] at HO
   clear hO hb
   go_wp2
   exact ⟨⟨i + 1, by go_num, by omega, HO.out, HB.out.setCell (Nat.le_refl _) _⟩, by simp [intOf]; omega⟩
  ·have hd : decide ((i : Int) < n) = false := by simpa using hi
   obtain rfl : i = n := by omega
   rw [zc_all] at hO
   have HP := hide (ps_of_owns hO)
   have hzl : ∀ p ∈ allZ i, p.1 < i := fun p hp => allZ_lt hp
   have HZL := hide hzl
   have HFD := hide (findL_any a i c Q (some ⟨w.heap.size, 0, none⟩) i i (allZ i) none 0 0 [] wr (HQ.out.below HB.out) hn HP.out (by omega) hzl ⟨rfl, .inl rfl⟩ H20.out)
   clear hO hb hzl
   go_upto_region 8 with (first
    | (go_at_call 36; refine HFD.out.mono ?_; rintro e w1 ⟨ao, k, c1, rfl, ho, hb1⟩; obtain ⟨g1, g2, g3, g4⟩ := goOn_ok (HQ.out.below HB.out) HZL.out (by rw [allZ_len]; exact hn) ho; have HB1 := hide (HB.out.trans (hb1.mono HB.out.size)); have HMD := hide (made_any a i c Q ao k c1 _ w1 (HQ.out.below HB1.out) (by omega) g1 (by omega) g3 g4); have HG1 := hide g1; clear ho hb1)
    | (go_at_call 25; refine HMD.out.mono ?_; rintro e w2 ⟨k2, rfl, hk2, hb2⟩; have HB2 := hide (HB1.out.trans (hb2.mono HB1.out.size)); have HG2 := hide (HG1.out.below hb2); clear hb2 HMD))
   have hmd : Ps w2 ao (cutN (lys Q) (fndL (lys Q) [] (allZ i)) true) (mad (lys Q) (fndL (lys Q) [] (allZ i))) := HG2.out.take _ (by have := cutN_le (L := lys Q) (fndL (lys Q) [] (allZ i)) true; rw [HG2.out.1] at this; exact this)
   have hkk : cutN (lys Q) (fndL (lys Q) [] (allZ i)) true ≤ k := by have := cutN_le (L := lys Q) (fndL (lys Q) [] (allZ i)) true; rw [HG2.out.1] at this; exact this
   have HMA := hide hmd
   have hsr : SrcR (lys Q) [] (mad (lys Q) (fndL (lys Q) [] (allZ i))) := by have := src_root (lys Q); rw [HLQ.out] at this; exact this
   have HSR := hide hsr
   clear hmd hsr HG1 HG2 g1 g4 HFD HP hk2 HB1
   generalize cutN (lys Q) (fndL (lys Q) [] (allZ i)) true = k3 at *
   generalize mad (lys Q) (fndL (lys Q) [] (allZ i)) = l3 at *
   go_wp2_with fail
   go_loopw [7, 8, 30] (fun r7 _ r30 wx => ∃ (x : Nat) (ax : Option Addr) (kx cx : Nat) (lx : List Pl), r30 = .int .i64 x ∧ r7 = .slice ax kx cx ∧ x ≤ j ∧ kx ≤ cx ∧ kx ≤ 1000 ∧ Ps wx ax kx lx ∧ SrcR (lys Q) (nm.take x) lx ∧ Below w.heap.size w wx) (fun _ _ r30 _ => j - (intOf r30).toNat)
   case atStart => exact ⟨0, ao, k3, c1, l3, rfl, rfl, Nat.zero_le _, by omega, by omega, HMA.out, by rw [List.take_zero]; exact HSR.out, HB2.out⟩
   case round =>
    clear HMA HSR HB2 hkk g2 g3
    obtain ⟨x, ax, kx, cx, lx, rfl, rfl, hx0, hcx, hkx, hps, hsr, hbx⟩ := hrel
    have HPS := hide hps
    have HSR := hide hsr
    have HBX := hide hbx
    clear hps hsr hbx
    by_cases hx : x < j
    ·have hd2 : decide ((x : Int) < j) = true := by simpa using hx
     have hx1 : (x : Int) < j := by omega
     have HAQ : Hid (AllQ Q lx) := fun p hp => (inq_ok HQ.out p).1 (HSR.out.ok p hp)
     have HDI := hide (pisDir_any a i c Q ax kx cx lx wr (HQ.out.below HBX.out) (by omega) HPS.out (by omega) HAQ.out)
     obtain ⟨f, hf⟩ : ∃ f, f = isD (lys Q) lx := ⟨_, rfl⟩
     have HF := hide hf
     rw [← hf] at HDI
     have htl : (nm.take (x + 1)).length = x + 1 := by rw [List.length_take, HNL.out]; omega
     have hup : (nm.take (x + 1)).dropLast = nm.take x := by rw [List.dropLast_eq_take, htl, List.take_take, show min (x + 1 - 1) (x + 1) = x by omega]
     have hne : nm.take (x + 1) ≠ [] := fun e => by rw [e] at htl; simp at htl
     cases f with
     | false =>
      have HS0 : Hid (Mrg.srcs (lys Q) nm = []) := by
       refine src_up (j - (x + 1)) (x + 1) (by rw [HNL.out]; omega) ?_
       exact src_no hne (by rw [hup]; exact HSR.out) HF.out.symm
      clear hf htl hup hne
      go_wp2_with (go_at_call 26; refine HDI.out.mono ?_; rintro e w3 ⟨rfl, hb3⟩; have HB3 := hide (HBX.out.trans (hb3.mono HBX.out.size)); clear hb3)
      go_ret
      exact ⟨none, 0, 0, [], rfl, Ps.nil _ _, by omega, src_nil _ _ HS0.out, HB3.out⟩
     | true =>
      have HST : Hid (SrcR (lys Q) (nm.take (x + 1)) (mad (lys Q) (fndL (lys Q) (nm.take (x + 1)) lx))) := src_step hne (by rw [hup]; exact HSR.out) HF.out.symm
      have HLT : Hid (∀ p ∈ lx, p.1 < i) := fun p hp => by have := (HSR.out.ok p hp).1; rw [HLQ.out] at this; exact this
      have HFD : Hid (∀ W, Below wr.heap.size wr W → _) := fun W hW => findL_any a i c Q ax kx cx lx b (x + 1) jc (nm.take (x + 1)) W (HQ.out.below (HBX.out.trans (hW.mono HBX.out.size))) hn (HPS.out.below hW) hkx HLT.out ((HR.out.below (HBX.out.trans (hW.mono HBX.out.size))).take (x + 1) (by omega)) H20.out
      clear hf htl hup hne
      go_upto_region 13 with (go_at_call 26; refine HDI.out.mono ?_; rintro e w3 ⟨rfl, hb3⟩; have HB3 := hide hb3; have HBY := hide (HBX.out.trans (hb3.mono HBX.out.size)); have HFE := hide (HFD.out _ hb3); clear hb3)
      clear HFD HDI
      have hx2 : ((x + 1 : Nat) : Int) ≤ jc := by omega
      have hx3 : x + 1 ≤ jc := by omega
      go_wp2_with (first
       | (go_at_call 36; refine HFE.out.mono ?_; rintro e w4 ⟨ao4, k4, c4, rfl, ho, hb4⟩; obtain ⟨g1, g2, g3, g4⟩ := goOn_ok (HQ.out.below HBY.out) HLT.out (by rw [HPS.out.1]; exact hkx) ho; have HB4 := hide (HBY.out.trans (hb4.mono HBY.out.size)); have HMD := hide (made_any a i c Q ao4 k4 c4 _ w4 (HQ.out.below HB4.out) (by omega) g1 (by omega) g3 g4); have HG4 := hide g1; clear ho hb4 g1 g4)
       | (go_at_call 25; refine HMD.out.mono ?_; rintro e w5 ⟨k5, rfl, hk5, hb5⟩; have HB5 := hide (HB4.out.trans (hb5.mono HB4.out.size)); have HG5 := hide (HG4.out.below hb5); clear hb5 HMD))
      have hkk : cutN (lys Q) (fndL (lys Q) (nm.take (x + 1)) lx) true ≤ k4 := by have := cutN_le (L := lys Q) (fndL (lys Q) (nm.take (x + 1)) lx) true; rw [HG5.out.1] at this; exact this
      exact ⟨⟨x + 1, ao4, _, c4, _, by go_num, rfl, by omega, by omega, by omega, HG5.out.take _ hkk, HST.out, HB5.out⟩, by simp [intOf]; omega⟩
    ·have hd2 : decide ((x : Int) < j) = false := by simpa using hx
     have hxj : x = j := by omega
     have HSE : Hid (SrcR (lys Q) nm lx) := by
      have := HSR.out
      rw [List.take_of_length_le (by rw [HNL.out]; omega)] at this; exact this
     go_wp2
     go_ret
     exact ⟨ax, kx, cx, lx, rfl, HPS.out, hkx, HSE.out, HBX.out⟩
end Go.Proofs.Ytflohhefbbidcaa
namespace Go.Proofs.Ytflohhefbbidcaa
set_option maxRecDepth 100000
open Go.RowKit Go.Maps
open Nam Tre Mrg
theorem Mrg.rise_len9 {n : Nat} : ∀ (l : List Nat) (lo : Nat), l.Pairwise (· < ·) → (∀ x ∈ l, lo ≤ x ∧ x < n) → l.length ≤ n - lo
 | [], _, _, _ => Nat.zero_le _
 | x :: r, lo, hp, h => by
  obtain ⟨h1, h2⟩ := List.pairwise_cons.1 hp
  have := Mrg.rise_len9 r (x + 1) h2 (fun y hy => ⟨h1 y hy, (h y (List.mem_cons_of_mem _ hy)).2⟩)
  have hx := h x List.mem_cons_self
  rw [List.length_cons]; omega
set_option maxHeartbeats 4000000 in
theorem refSources9_any (a : Option Addr) (n c : Nat) (Q : List Ly) (hn : n ≤ 1000) (h20 : ∀ y ∈ Q, ∀ p ∈ y.L, p.2.names.length ≤ 1000000) : ∀ (j : Nat) (m : List ByteArray) (b : Option Addr) (mc : Nat) (w : World), NsR w a n Q → Rs w b j m → j ≤ mc → mc ≤ 9223372036854775807 →
  Calls Try.prog 12 #[.slice a n c, .slice b j mc] w fun e w' => ∃ ao k kc, e = .returned (.slice ao k kc) ∧ Is9 w' ao k (srcs (lys Q) m) ∧ Below w.heap.size w w'
 | 0, m, b, mc, w, hq, hm, _, _ => refSources0_any a n c Q hn h20 b mc m (List.eq_nil_of_length_eq_zero hm.1) w hq hm
 | j + 1, m, b, mc, w, hq, hm, hj, hmc => by
  have IH : Hid (∀ W, Below w.heap.size w W → Calls Try.prog 12 #[.slice a n c, .slice b j mc] W fun e w' => ∃ ao k kc, e = .returned (.slice ao k kc) ∧ Is9 w' ao k (srcs (lys Q) (m.take j)) ∧ Below W.heap.size W w') := fun W hW =>
   refSources9_any a n c Q hn h20 j (m.take j) b mc W (hq.below hW) ((hm.below hW).take j (by omega)) (by omega) hmc
  have HQ := hide hq
  have HM := hide hm
  have H20 := hide h20
  have hml : m.length = j + 1 := hm.1
  have HML := hide hml
  clear hq hm h20 hml
  go_enter Try.func12, Try.ntmps12
  go_upto_region 5 with (go_at_call 12; refine (IH.out _ (below_one w _)).mono ?_; rintro e w1 ⟨ai, ki, ci, rfl, hI, hb1⟩; have HKI := hide hI; have HB1 := hide ((below_one w _).trans (hb1.mono (below_one w _).size)); clear hI hb1)
  by_cases hk : ki = 0
  ·subst hk
   have hK : srcs (lys Q) m = [] := srcs_up_nil HML.out (List.eq_nil_of_length_eq_zero HKI.out.1)
   have HK := hide hK
   clear hK
   go_quiet (fail)
   go_wp2
   go_ret
   refine ⟨_, _, _, rfl, ?_, below9 HB1.out _⟩
   rw [HK.out]; exact ⟨rfl, .inl rfl⟩
  ·have hkb : ((ki : Int) == 0) = false := by simp; omega
   obtain ⟨K, hK⟩ : ∃ K, K = srcs (lys Q) (m.take j) := ⟨_, rfl⟩
   rw [← hK] at HKI
   have hK0 : 0 < K.length := by rw [HKI.out.1]; omega
   obtain ⟨bi, rfl, hbi, hci⟩ := HKI.out.at (by omega)
   have cx := hci 0 (by omega)
   have hmem : fn9 K 0 ∈ K := by rw [fn9_lt K 0 hK0]; exact List.getElem_mem hK0
   have HCO : Hid (K = fn9 K 0 :: K.drop 1) := by
    show _ = _
    rw [fn9_lt K 0 hK0]
    have := List.drop_eq_getElem_cons hK0
    simpa using this
   have hxn : fn9 K 0 < n := by
    have := srcs_lt9 (by rw [← hK]; exact hmem : fn9 K 0 ∈ srcs (lys Q) (m.take j))
    rw [lys, List.length_map, HQ.out.1] at this; exact this
   obtain ⟨z, hz⟩ := srcs_has (by rw [← hK]; exact hmem : fn9 K 0 ∈ srcs (lys Q) (m.take j))
   have HKL : Hid (∀ x ∈ K, x < n) := fun x hx => by
    have := srcs_lt9 (by rw [← hK]; exact hx : x ∈ srcs (lys Q) (m.take j))
    rw [lys, List.length_map, HQ.out.1] at this; exact this
   have HUP : Hid (srcs (lys Q) m = if ((fnd (ly (lys Q) (fn9 K 0)) (m.take j)).map Nod.kind) = some 1 then gos (lys Q) m [] K else []) := by
    show _ = _
    have := srcs_up_cons (L := lys Q) (i := fn9 K 0) (r := K.drop 1) HML.out (by rw [← hK]; exact HCO.out)
    rw [← HCO.out] at this; exact this
   have hki : ki ≤ 1000 := by
    have h1 := rise_len9 K 0 (by rw [hK]; exact srcK_rises _) (fun x hx => ⟨Nat.zero_le _, HKL.out x hx⟩)
    rw [HKI.out.1] at h1; omega
   generalize hx : fn9 K 0 = x at *
   have hxn1 : (x : Int) < n := by omega
   obtain ⟨bq, oq, rfl, hbq, hcq⟩ := (HQ.out.below HB1.out).at (by omega)
   have cq := hcq x hxn
   have HYO := hide ((HQ.out.below HB1.out).ok x hxn)
   have hly := ly_lys9 Q (x := x) (by rw [HQ.out.1]; exact hxn)
   have H20Y : Hid (∀ p ∈ (gy Q x).L, p.2.names.length ≤ 1000000) := H20.out (gy Q x) (by rw [gy_lt Q x (by rw [HQ.out.1]; exact hxn)]; exact List.getElem_mem _)
   rw [hly] at hz HUP
   generalize gy Q x = y at *
   obtain ⟨ya, yn, yc, yL⟩ := y
   have HYN : Hid (Ns w1 ya yn yL) := HYO.out.ns
   have HFq : Hid (∀ q, Calls Try.prog 35 #[.slice ya yn yc, .slice b j mc] (w1.drewN q) fun e w' => e = .returned (.int .i64 (fi (nmd (m.take j)) 0 (nds yL))) ∧ ∃ q', w' = (w1.drewN q).drewN q') := fun q =>
    refFind_any ya yn yc yL b j mc (m.take j) (w1.drewN q) (HYN.out.below (drewN_below w1 q)) HYO.out.le HYO.out.max (((HM.out.below HB1.out).below (drewN_below w1 q)).take j (by omega)) H20Y.out
   rcases fi_fnd (nds yL) (m.take j) with ⟨f1, f2⟩ | ⟨jj, f1, hjj, f2⟩
   ·simp only at hz; rw [f2] at hz; cases hz
   ·rw [f1] at HFq
    have hjL : jj < yL.length := by rw [nds_length] at hjj; exact hjj
    have hjn : jj < yn := by rw [← HYN.out.1]; exact hjL
    have hjn1 : (jj : Int) < yn := by omega
    have hj0 : (0 : Int) ≤ jj := by omega
    have hyp : 0 < yn := by omega
    obtain ⟨yb, yo, rfl, hyb, hcy⟩ := HYN.out.at hyp
    have ck := (hcy jj hjn).c2
    have HKD : Hid ((nds yL)[jj].kind = (gl yL jj).1.kind) := by
     have h1 := (HYN.out.rep jj hjn).kind
     show _ = _
     rw [← h1, gl_lt yL jj hjL]
     simp [nds]
    generalize (gl yL jj).1.kind = kd at *
    have HUQ : Hid (srcs (lys Q) m = if kd = 1 then gos (lys Q) m [] K else []) := by
     show _ = _
     have h1 := HUP.out
     simp only at h1
     rw [f2, Option.map_some, HKD.out] at h1
     rw [h1]
     by_cases e : kd = 1
     ·rw [if_pos (by rw [e]), if_pos e]
     ·rw [if_neg (fun q => e (Option.some.inj q)), if_neg e]
    have hki1 : (0 : Int) < ki := by omega
    clear hcy hci hcq hz f1 f2 hly HUP HKD hK hx hjj IH HCO hmem hxn hbi hbq hK0
    by_cases h1 : kd = 1
    ·have h1b : (kd != 1) = false := by simp [h1]
     have hG := HUQ.out
     rw [if_pos h1] at hG
     have HG := hide hG
     clear h1 hG HUQ
     go_quiet ((go_at_call 35; exact Calls.quiet_of (HFq.out _)))
     obtain ⟨v, hv⟩ : ∃ x, x = w1.drewN nq := ⟨_, rfl⟩
     rw [← hv]
     have hbv : Below w1.heap.size w1 v := by rw [hv]; exact drewN_below w1 nq
     have HB := hide (HB1.out.trans (hbv.mono HB1.out.size))
     have HKV := hide (HKI.out.below hbv)
     clear HKI HYO HYN H20Y HFq hbv hv HB1 hki1
     obtain ⟨HKI, _⟩ : ∃ h : Hid (Is9 v (some ⟨bi, 0, none⟩) ki K), True := ⟨HKV, trivial⟩
     clear HKV cx cq ck hxn1 hjL hjn hjn1 hj0 hyp hyb h1b hk hkb
     generalize (some ⟨bq, oq, none⟩ : Option Addr) = a1 at *
     generalize (some ⟨bi, 0, none⟩ : Option Addr) = a2 at *
     go_wp2_with fail
     go_loopw [8, 9, 10, 11] (fun r8 r9 _ _ wx => ∃ (i ko co : Nat) (ao : Option Addr) (O : List Nat), r9 = .int .i64 i ∧ r8 = .slice ao ko co ∧ i ≤ ki ∧ ko ≤ i ∧ v.heap.size < wx.heap.size ∧ wx.ownsRow v.heap.size 3 1 (.slice ao ko co) ko (O.map (fun z : Nat => Value.int .i64 (z : Int))) ∧ gos (lys Q) m [] K = gos (lys Q) m O (K.drop i) ∧ Below v.heap.size v wx) (fun _ r9 _ _ _ => ki - (intOf r9).toNat)
     case atStart => exact ⟨0, 0, _, _, [], rfl, rfl, Nat.zero_le _, Nat.le_refl _, by simp, empty9 (Nat.le_refl _), rfl, below_one _ _⟩
     case round =>
      obtain ⟨i, ko, co, ao, O, rfl, rfl, hi0, hko, hsz, hown, hgo, hbel⟩ := hrel
      have HO := hide hown
      have HBx := hide hbel
      have HGO := hide hgo
      by_cases hi : i < ki
      ·have hd : decide ((i : Int) < ki) = true := by simpa using hi
       have hi1 : (i : Int) < ki := by omega
       obtain ⟨bi, rfl, hbi, hci⟩ := (HKI.out.below hbel).at (by omega)
       have cx := hci i hi
       have hiK : i < K.length := by rw [HKI.out.1]; exact hi
       have HDK : Hid (K.drop i = fn9 K i :: K.drop (i + 1)) := by
        show _ = _
        rw [List.drop_eq_getElem_cons hiK, fn9_lt K i hiK]
       have hxn : fn9 K i < n := HKL.out _ (by rw [fn9_lt K i hiK]; exact List.getElem_mem hiK)
       generalize fn9 K i = x at *
       have hxn1 : (x : Int) < n := by omega
       obtain ⟨bq, oq, rfl, hbq, hcq⟩ := ((HQ.out.below HB.out).below hbel).at (by omega)
       have cq := hcq x hxn
       have HYO := hide (((HQ.out.below HB.out).below hbel).ok x hxn)
       have HLY := hide (ly_lys9 Q (x := x) (by rw [HQ.out.1]; exact hxn))
       have H20Y : Hid (∀ p ∈ (gy Q x).L, p.2.names.length ≤ 1000000) := H20.out (gy Q x) (by rw [gy_lt Q x (by rw [HQ.out.1]; exact hxn)]; exact List.getElem_mem _)
       generalize gy Q x = y at *
       obtain ⟨ya, yn, yc, yL⟩ := y
       have HYN : Hid (Ns wr ya yn yL) := HYO.out.ns
       have HF := hide (refFind_any ya yn yc yL b _ mc m wr HYN.out HYO.out.le HYO.out.max ((HM.out.below HB.out).below hbel) H20Y.out)
       clear hci hcq hown hbel hgo hi0
       rcases fi_fnd (nds yL) m with ⟨f1, f2⟩ | ⟨jj, f1, hj, f2⟩
       ·rw [f1] at HF
        have HG2 : Hid (gos (lys Q) m [] K = gos (lys Q) m O (K.drop (i + 1))) := by
         show _ = _
         rw [HGO.out, HDK.out, gos_none (by rw [HLY.out]; exact f2)]
        clear f1 f2
        go_wp2_with (go_at_call 35; refine HF.out.mono ?_; rintro e w1 ⟨rfl, q, rfl⟩)
        exact ⟨⟨i + 1, ko, co, ao, O, by go_num, rfl, by omega, by omega, by simpa using hsz, owns9 HO.out q, HG2.out, below9 HBx.out q⟩, by simp [intOf]; omega⟩
       ·rw [f1] at HF
        have hjL : jj < yL.length := by rw [nds_length] at hj; exact hj
        have hjn : jj < yn := by rw [← HYN.out.1]; exact hjL
        have hjn1 : (jj : Int) < yn := by omega
        have hj0 : (0 : Int) ≤ jj := by omega
        have hjb : decide ((jj : Int) < 0) = false := by simp
        have hyp : 0 < yn := by omega
        obtain ⟨yb, yo, rfl, hyb, hcy⟩ := HYN.out.at hyp
        have hcyj := hcy jj hjn
        have hrep := HYN.out.rep jj hjn
        have HFD : Hid (fnd (ly (lys Q) x) m = some (gl yL jj).2) := by
         show _ = _
         rw [HLY.out, f2, gl_lt yL jj hjL]
         simp [nds]
        have HKD : Hid ((gl yL jj).2.kind = (gl yL jj).1.kind) := hrep.kind
        have HOP : Hid ((gl yL jj).2.opq = (gl yL jj).1.op) := hrep.op
        generalize (gl yL jj).1 = u at *
        generalize (gl yL jj).2 = nd at *
        clear f1 f2 hcy hrep
        go_upto_region 16 with (go_at_call 35; refine HF.out.mono ?_; rintro e w1 ⟨rfl, q, rfl⟩)
        obtain ⟨w1, hw1⟩ : ∃ x, x = wr.drewN q := ⟨_, rfl⟩
        rw [← hw1]
        have hbw : Below wr.heap.size wr w1 := by rw [hw1]; exact drewN_below wr q
        have HB1 := hide (HBx.out.trans (hbw.mono HBx.out.size))
        have HO1 : Hid (w1.ownsRow v.heap.size 3 1 (.slice ao ko co) ko (O.map (fun z : Nat => Value.int .i64 (z : Int)))) := by rw [hw1]; exact owns9 HO.out q
        have hs1 : v.heap.size < w1.heap.size := Nat.lt_of_lt_of_le hsz hbw.size
        have cx1 := (hbw.cell hbi).trans cx
        have cq1 := (hbw.cell hbq).trans cq
        obtain ⟨n0, n1, n2, n3, n4, n5, n6, n7, n8, n9⟩ := hcyj.below hbw hyb
        have hbi1 : bi < w1.heap.size := Nat.lt_of_lt_of_le hbi hbw.size
        clear hw1 cx cq hcyj HF hsz HBx HO HLY HYO HYN H20Y
        go_upto_region 18 with fail
        obtain ⟨w2, hw2⟩ : ∃ x, x = w1.alloc (Obj.cells u.cells 44) := ⟨_, rfl⟩
        have hw2' := hw2
        simp only [Nv.cells] at hw2'
        rw [← hw2']
        have hb2 : Below w1.heap.size w1 w2 := by rw [hw2]; exact below_one _ _
        have hbk : Bk w2 w1.heap.size u := by rw [hw2]; exact bk_new w1 u
        have hbx := hbk.box
        have k2 := hbx.c2
        have k9 := hbx.c9
        have hs2 : w1.heap.size < w2.heap.size := by rw [hw2]; simp
        have HB2 := hide (HB1.out.trans (hb2.mono HB1.out.size))
        have HO2 : Hid (w2.ownsRow v.heap.size 3 1 (.slice ao ko co) ko (O.map (fun z : Nat => Value.int .i64 (z : Int)))) := by rw [hw2]; exact HO1.out.alloc _
        have cx2 := (hb2.cell hbi1).trans cx1
        have HLT : Hid (∀ p, (Value.slice ao ko co).ownBlock = some p → p < w1.heap.size) := fun p e => (HO1.out.lt p e).2
        have HI2 := hide (Is9.of HO2.out)
        have hOl : O.length = ko := HI2.out.1
        have HOL := hide hOl
        generalize hbp : w1.heap.size = bp at *
        clear hw2 hw2' hb2 hbk hbx n0 n1 n2 n3 n4 n5 n6 n7 n8 n9 cx1 cq1 HO1 HB1 hbw hbp hOl
        by_cases h4 : u.kind = 4
        ·have h4b : (u.kind == 4) = true := by simp [h4]
         have HE : Hid (O = srcs (lys Q) m) := by
          show _ = _
          rw [HG.out, HGO.out, HDK.out, gos_white HFD.out (HKD.out.trans h4)]
         rw [HE.out] at HI2
         clear h4
         go_wp2
         go_ret
         exact ⟨_, _, _, rfl, HI2.out, HB.out.trans (HB2.out.mono HB.out.size)⟩
        ·have h4b : (u.kind == 4) = false := by simpa using h4
         by_cases h1 : u.kind = 1
         ·have h1b : (u.kind != 1) = false := by simp [h1]
          have HK1 := hide (HKD.out.trans h1)
          clear h1 h4
          go_wp2_with (at_builtin; refine wpList_append_int9 _ rfl _ _ rfl v.heap.size _ _ _ O rfl (HO2.out.alloc _) _ x rfl (by simp) (by omega) (by simp; omega) ?_)
          intro ao2 c2 w5 hown2 hg2
          have e9 : O.map (fun z : Nat => Value.int .i64 (z : Int)) ++ [Value.int .i64 (x : Int)] = (O ++ [x]).map (fun z : Nat => Value.int .i64 (z : Int)) := by rw [List.map_append]; rfl
          rw [e9] at hown2
          have HB5 := hide ((HB2.out.alloc (by omega) _).grown hg2 (by simp; omega) (fun k e => (HO2.out.lt k e).1))
          have s5 := hg2.size
          simp only [World.size_alloc] at s5
          have k5 : w5.cell? ⟨bp, 9, none⟩ = some (.bool u.op) := hg2.cell (by rw [World.cell?_alloc_past _ _ _ hs2]; exact k9) (fun e => by have := HLT.out _ e.symm; simp at this)
          have HO5 := hide hown2
          have HI5 := hide (Is9.of hown2)
          clear hown2 hg2 e9
          cases ho : u.op with
          | true =>
           have HE : Hid (O ++ [x] = srcs (lys Q) m) := by
            show _ = _
            rw [HG.out, HGO.out, HDK.out, gos_opq HFD.out HK1.out (HOP.out.trans ho)]
           rw [HE.out] at HI5
           rw [ho] at k5
           go_wp2
           go_ret
           exact ⟨_, _, _, rfl, HI5.out, HB.out.trans (HB5.out.mono HB.out.size)⟩
          | false =>
           have HE : Hid (gos (lys Q) m [] K = gos (lys Q) m (O ++ [x]) (K.drop (i + 1))) := by
            show _ = _
            rw [HGO.out, HDK.out, gos_dir HFD.out HK1.out (HOP.out.trans ho)]
           rw [ho] at k5
           go_wp2
           exact ⟨⟨i + 1, ko + 1, c2, ao2, O ++ [x], by go_num, rfl, by omega, by omega, by omega, HO5.out, HE.out, HB5.out⟩, by simp [intOf]; omega⟩
         ·have h1b : (u.kind != 1) = true := by simpa using h1
          have HGF : Hid (srcs (lys Q) m = if O = [] then [x] else O) := by
           show _ = _
           rw [HG.out, HGO.out, HDK.out, gos_file HFD.out (by rw [HKD.out]; exact h4) (by rw [HKD.out]; exact h1)]
          clear h1 h4
          by_cases hk0 : ko = 0
          ·subst hk0
           have hO0 : O = [] := List.eq_nil_of_length_eq_zero HOL.out
           subst hO0
           go_wp2_with (at_builtin; refine wpList_append_int9 _ rfl _ _ rfl v.heap.size _ _ _ [] rfl (HO2.out.alloc _) _ x rfl (by simp) (by omega) (by simp; omega) ?_)
           intro ao2 c2 w5 hown2 hg2
           have HB5 := hide ((HB2.out.alloc (by omega) _).grown hg2 (by simp; omega) (fun k e => (HO2.out.lt k e).1))
           have HI5 : Hid (Is9 w5 ao2 (0 + 1) (srcs (lys Q) m)) := by
            show Is9 _ _ _ _
            rw [show srcs (lys Q) m = [x] from by rw [HGF.out]; simp]
            exact Is9.of (K := [x]) hown2
           clear hown2 hg2
           go_wp2
           go_ret
           exact ⟨_, _, _, rfl, HI5.out, HB.out.trans (HB5.out.mono HB.out.size)⟩
          ·have hkb : ((ko : Int) == 0) = false := by simp; omega
           have HE : Hid (O = srcs (lys Q) m) := by
            show _ = _
            rw [HGF.out, if_neg (fun e => hk0 (by rw [← HOL.out, e]; rfl))]
           rw [HE.out] at HI2
           go_wp2
           go_ret
           exact ⟨_, _, _, rfl, HI2.out, HB.out.trans (HB2.out.mono HB.out.size)⟩
      ·have hd : decide ((i : Int) < ki) = false := by simpa using hi
       have hE : O = srcs (lys Q) m := by
        rw [HG.out, hgo, List.drop_of_length_le (by rw [HKI.out.1]; omega)]; rfl
       have HI9 := hide (Is9.of hown)
       rw [hE] at HI9
       clear hgo hown hbel hE
       go_wp2
       go_ret
       exact ⟨_, _, _, rfl, HI9.out, HB.out.trans (HBx.out.mono HB.out.size)⟩
    ·have h1b : (kd != 1) = true := by simpa using h1
     have hG := HUQ.out
     rw [if_neg h1] at hG
     have HG := hide hG
     clear h1 hG HUQ
     go_quiet ((go_at_call 35; exact Calls.quiet_of (HFq.out _)))
     go_wp2
     go_ret
     refine ⟨_, _, ⟨_, rfl⟩, ?_, below9 HB1.out _⟩
     rw [HG.out]; exact ⟨rfl, .inl rfl⟩
end Go.Proofs.Ytflohhefbbidcaa
namespace Go.Proofs.Ytflohhefbbidcaa
open Go.RowKit Go.Maps
open Nam Tre Mrg
def Top9 (Q : List Ly) (m : List ByteArray) (x y : Int) : Prop :=
 (srcs (lys Q) m = [] ∧ x = -1 ∧ y = -1) ∨ ∃ i k : Nat, x = i ∧ y = k ∧ (srcs (lys Q) m).head? = some i ∧ i < Q.length ∧ ∃ h : k < (nds (gy Q i).L).length, fnd (nds (gy Q i).L) m = some (nds (gy Q i).L)[k]
def nd9 (Q : List Ly) (i k : Nat) : Nod := (gl (gy Q i).L k).2
structure Od (Q : List Ly) : Prop where
 br : ∀ t ∈ lys Q, Br t
 len : ∀ i, i < Q.length → (gy Q i).L.length = (gy Q i).n
theorem Od.nodup {Q : List Ly} (h : Od Q) {i : Nat} (hi : i < Q.length) : ((nds (gy Q i).L).map Nod.names).Nodup := by
 refine (h.br _ ?_).nodup
 rw [← ly_lys9 Q hi]
 exact ly_mem (by rw [lys, List.length_map]; exact hi)
theorem nd9_eq {Q : List Ly} {i k : Nat} (hk : k < (gy Q i).L.length) : nd9 Q i k = (nds (gy Q i).L)[k]'(by rw [nds_length]; exact hk) := (gl_nds _ _ hk).symm
theorem Od.inj {Q : List Ly} (h : Od Q) {i j k : Nat} (hi : i < Q.length) (hj : j < (gy Q i).n) (hk : k < (gy Q i).n) (e : (nd9 Q i j).names = (nd9 Q i k).names) : j = k := by
 have hd := h.nodup hi
 have hl := h.len i hi
 rw [nd9_eq (by omega), nd9_eq (by omega)] at e
 have h1 : j < ((nds (gy Q i).L).map Nod.names).length := by rw [List.length_map, nds_length]; omega
 have h2 : k < ((nds (gy Q i).L).map Nod.names).length := by rw [List.length_map, nds_length]; omega
 have e2 : ((nds (gy Q i).L).map Nod.names)[j] = ((nds (gy Q i).L).map Nod.names)[k] := by rw [List.getElem_map, List.getElem_map]; exact e
 have hp := List.pairwise_iff_getElem.1 hd
 rcases Nat.lt_trichotomy j k with q | q | q
 ·exact absurd e2 (hp j k h1 h2 q)
 ·exact q
 ·exact absurd e2.symm (hp k j h2 h1 q)
end Go.Proofs.Ytflohhefbbidcaa
namespace Go.Proofs.Ytflohhefbbidcaa
set_option maxRecDepth 100000
open Go.RowKit Go.Maps
open Nam Tre Mrg
set_option maxHeartbeats 4000000 in
theorem refTop9_any (a : Option Addr) (n c : Nat) (Q : List Ly) (hn : n ≤ 1000) (h20 : ∀ y ∈ Q, ∀ p ∈ y.L, p.2.names.length ≤ 1000000) (j : Nat) (m : List ByteArray) (b : Option Addr) (mc : Nat) (w : World) (hq : NsR w a n Q) (hm : Rs w b j m) (hj : j ≤ mc) (hmc : mc ≤ 9223372036854775807) :
  Calls Try.prog 14 #[.slice a n c, .slice b j mc] w fun e w' => ∃ x y : Int, e = .returned (.tuple #[.int .i64 x, .int .i64 y]) ∧ Top9 Q m x y ∧ Below w.heap.size w w' := by
 have HS := hide (refSources9_any a n c Q hn h20 j m b mc w hq hm hj hmc)
 have HQ := hide hq
 have HM := hide hm
 have H20 := hide h20
 clear hq hm h20
 go_enter Try.func14, Try.ntmps14
 go_upto_region 2 with (go_at_call 12; refine HS.out.mono ?_; rintro e w1 ⟨ai, ki, ci, rfl, hI, hb1⟩; have HKI := hide hI; have HB1 := hide hb1; clear hI hb1)
 by_cases hk : ki = 0
 ·subst hk
  have hK : srcs (lys Q) m = [] := List.eq_nil_of_length_eq_zero HKI.out.1
  have HK := hide hK
  clear hK
  go_wp2
  refine bodyPost_ret (results_tmp2 rfl _ _ _) rfl ?_
  exact ⟨_, _, rfl, .inl ⟨HK.out, rfl, rfl⟩, HB1.out⟩
 ·have hkb : ((ki : Int) == 0) = false := by simp; omega
  obtain ⟨K, hK⟩ : ∃ K, K = srcs (lys Q) m := ⟨_, rfl⟩
  rw [← hK] at HKI
  have HHD : Hid (Top9 Q m = Top9 Q m) := rfl
  have hK0 : 0 < K.length := by rw [HKI.out.1]; omega
  obtain ⟨bi, rfl, hbi, hci⟩ := HKI.out.at (by omega)
  have cx := hci 0 (by omega)
  have hmem : fn9 K 0 ∈ K := by rw [fn9_lt K 0 hK0]; exact List.getElem_mem hK0
  have HCO : Hid (K = fn9 K 0 :: K.drop 1) := by
   show _ = _
   rw [fn9_lt K 0 hK0]
   have := List.drop_eq_getElem_cons hK0
   simpa using this
  have hxn : fn9 K 0 < n := by
   have := srcs_lt9 (by rw [← hK]; exact hmem : fn9 K 0 ∈ srcs (lys Q) m)
   rw [lys, List.length_map, HQ.out.1] at this; exact this
  obtain ⟨z, hz⟩ := srcs_has (by rw [← hK]; exact hmem : fn9 K 0 ∈ srcs (lys Q) m)
  have HHE : Hid ((srcs (lys Q) m).head? = some (fn9 K 0)) := by
   show _ = _
   rw [← hK, HCO.out]; simp [fn9]
  have hki : ki ≤ 1000 := by
   have h1 := rise_len9 K 0 (by rw [hK]; exact srcK_rises _) (fun x hx => ⟨Nat.zero_le _, (by
    have := srcs_lt9 (by rw [← hK]; exact hx : x ∈ srcs (lys Q) m)
    rw [lys, List.length_map, HQ.out.1] at this; exact this : x < n)⟩)
   rw [HKI.out.1] at h1; omega
  generalize hx : fn9 K 0 = x at *
  have hxn1 : (x : Int) < n := by omega
  obtain ⟨bq, oq, rfl, hbq, hcq⟩ := (HQ.out.below HB1.out).at (by omega)
  have cq := hcq x hxn
  have HYO := hide ((HQ.out.below HB1.out).ok x hxn)
  have hly := ly_lys9 Q (x := x) (by rw [HQ.out.1]; exact hxn)
  have H20Y : Hid (∀ p ∈ (gy Q x).L, p.2.names.length ≤ 1000000) := H20.out (gy Q x) (by rw [gy_lt Q x (by rw [HQ.out.1]; exact hxn)]; exact List.getElem_mem _)
  rw [hly] at hz
  have HTP : Hid (∀ k, (∃ h : k < (nds (gy Q x).L).length, fnd (nds (gy Q x).L) m = some (nds (gy Q x).L)[k]) → Top9 Q m x k) := fun k h => .inr ⟨x, k, rfl, rfl, HHE.out, by rw [HQ.out.1]; exact hxn, h⟩
  generalize gy Q x = y at *
  obtain ⟨ya, yn, yc, yL⟩ := y
  have HYN : Hid (Ns w1 ya yn yL) := HYO.out.ns
  have HFq : Hid (∀ q, Calls Try.prog 35 #[.slice ya yn yc, .slice b j mc] (w1.drewN q) fun e w' => e = .returned (.int .i64 (fi (nmd m) 0 (nds yL))) ∧ ∃ q', w' = (w1.drewN q).drewN q') := fun q =>
   refFind_any ya yn yc yL b j mc m (w1.drewN q) (HYN.out.below (drewN_below w1 q)) HYO.out.le HYO.out.max (((HM.out.below HB1.out).below (drewN_below w1 q))) H20Y.out
  rcases fi_fnd (nds yL) m with ⟨f1, f2⟩ | ⟨jj, f1, hjj, f2⟩
  ·simp only at hz; rw [f2] at hz; cases hz
  ·rw [f1] at HFq
   have HT := hide (HTP.out jj ⟨hjj, f2⟩)
   have hki1 : (0 : Int) < ki := by omega
   clear hci hcq hz f1 f2 hly hK hx hjj HCO hmem hxn hbi hbq hK0 HTP HHE HHD
   go_upto_region 4 with fail
   go_quiet ((go_at_call 35; exact Calls.quiet_of (HFq.out _)))
   go_wp2
   refine bodyPost_ret (results_tmp2 rfl _ _ _) rfl ?_
   exact ⟨_, _, rfl, HT.out, below9 HB1.out _⟩
end Go.Proofs.Ytflohhefbbidcaa
namespace Go.Proofs.Ytflohhefbbidcaa
set_option maxRecDepth 100000
open Go.RowKit Go.Maps
open Nam Tre Mrg Stb Plc
def fiP (z : Int) : Nat → List Pl → Int
 | _, [] => -1
 | i, p :: r => if z < (p.1 : Int) then i else fiP z (i + 1) r
theorem fiP_ge (z : Int) : ∀ (l : List Pl) (i : Nat), decide (0 ≤ fiP z i l) = l.any (fun p => decide (z < (p.1 : Int)))
 | [], i => rfl
 | p :: r, i => by
  unfold fiP
  rw [List.any_cons]
  by_cases h : z < (p.1 : Int)
  ·rw [if_pos h]; simp [h]
  ·rw [if_neg h, decide_eq_false h, Bool.false_or]; exact fiP_ge z r (i + 1)
theorem below1_any (x y p : Nat) (z : Int) (w : World) (hz : w.cell? ⟨p, 0, none⟩ = some (.int .i64 z)) (hp : p < w.heap.size) :
  Calls Try.prog 38 #[.agg #[.int .i64 (x : Int), .int .i64 (y : Int)], .pointer (some ⟨p, 0, none⟩)] w fun e w' => e = .returned (.bool (decide (z < (x : Int)))) ∧ Below w.heap.size w w' := by
 have HB : Hid (∀ o, Below w.heap.size w (w.alloc o)) := fun o => (Below.refl _ w).alloc (Nat.le_refl _) o
 have hz2 : ∀ o, (w.alloc o).cell? ⟨p, 0, none⟩ = some (.int .i64 z) := fun o => ((HB.out o).cell hp).trans hz
 have HE : Hid (decide ((x : Int) > z) = decide (z < (x : Int))) := rfl
 go_enter Try.func38, Try.ntmps38
 go_wp2
 go_ret
 exact ⟨rfl, HB.out _⟩
theorem pIndex_any (ao : Option Addr) (n c : Nat) (l : List Pl) (p : Nat) (z : Int) (w : World) (hl : Ps w ao n l) (hn : n ≤ 1000) (hz : w.cell? ⟨p, 0, none⟩ = some (.int .i64 z)) (hp : p < w.heap.size) :
  Calls Try.prog 54 #[.slice ao n c, .func (.func 38) #[] #[.pointer (some ⟨p, 0, none⟩)]] w fun e w' => e = .returned (.int .i64 (fiP z 0 l)) ∧ Below w.heap.size w w' := by
 have HL := hide hl
 have HLN := hide hl.1
 have HA : Hid (∀ (x y : Nat) W, Below w.heap.size w W → _) := fun x y W hW => below1_any x y p z W ((hW.cell hp).trans hz) (Nat.lt_of_lt_of_le hp hW.size)
 have hen := enters (38) Try.func38 (by kernel_rfl) rfl
 clear hl hz
 go_enter Try.func54, Try.ntmps54
 go_wp2
 go_loopw [5, 8] (fun _ r wr => ∃ i : Nat, r = .int .i64 i ∧ i ≤ n ∧ Below w.heap.size w wr ∧ fiP z 0 l = fiP z i (l.drop i)) (fun _ r _ => n - (intOf r).toNat)
 case atStart => exact ⟨0, rfl, Nat.zero_le _, Below.refl _ _, rfl⟩
 case round =>
  obtain ⟨i, rfl, hi0, hbel, hinv⟩ := hrel
  have HI := hide hinv
  have HB := hide hbel
  by_cases hi : i < n
  ·have hd : decide ((i : Int) < n) = true := by simpa using hi
   obtain ⟨ba, oa, rfl, hba, hca⟩ := (HL.out.below hbel).at (by omega)
   obtain ⟨c1, c2⟩ := hca i hi
   have HE : Hid (l.drop i = gq l i :: l.drop (i + 1)) := by show _ = _; rw [List.drop_eq_getElem_cons (by rw [HLN.out]; exact hi), gq_lt l i (by rw [HLN.out]; exact hi)]
   have HQ := hide (HA.out (gq l i).1 (gq l i).2 wr hbel)
   have HF : Hid (fiP z i (l.drop i) = if z < ((gq l i).1 : Int) then (i : Int) else fiP z (i + 1) (l.drop (i + 1))) := by show _ = _; rw [HE.out, fiP]
   generalize (gq l i).1 = x at *
   generalize (gq l i).2 = y at *
   clear hca hinv hbel
   go_wp2_with fail
   refine HQ.out.mono ?_
   rintro e w1 ⟨rfl, hb1⟩
   have e1 := hide (HB.out.trans (hb1.mono HB.out.size))
   clear hb1
   by_cases hz : z < (x : Int)
   ·have hdz : decide (z < (x : Int)) = true := decide_eq_true hz
    rw [hdz]
    go_wp2
    go_ret
    exact ⟨ret_int (by rw [HI.out, HF.out, if_pos hz]), e1.out⟩
   ·have hdz : decide (z < (x : Int)) = false := decide_eq_false hz
    have HF2 := hide (HF.out.trans (if_neg hz))
    rw [hdz]
    go_wp2
    refine ⟨⟨i + 1, by go_num, by omega, e1.out, ?_⟩, by simp [intOf]; omega⟩
    rw [HI.out, HF2.out]
  ·have hd : decide ((i : Int) < n) = false := by simpa using hi
   go_wp2
   go_ret
   refine ⟨ret_int ?_, HB.out⟩
   rw [HI.out, List.drop_eq_nil_of_le (by rw [HLN.out]; omega)]; rfl
theorem pContains_any (ao : Option Addr) (n c : Nat) (l : List Pl) (p : Nat) (z : Int) (w : World) (hl : Ps w ao n l) (hn : n ≤ 1000) (hz : w.cell? ⟨p, 0, none⟩ = some (.int .i64 z)) (hp : p < w.heap.size) :
  Calls Try.prog 37 #[.slice ao n c, .func (.func 38) #[] #[.pointer (some ⟨p, 0, none⟩)]] w fun e w' => e = .returned (.bool (l.any (fun q => decide (z < (q.1 : Int))))) ∧ Below w.heap.size w w' := by
 have H := hide (pIndex_any ao n c l p z w hl hn hz hp)
 have HE := hide (fiP_ge z l 0)
 clear hl hz
 go_enter Try.func37, Try.ntmps37
 go_wp2_with (go_at_call 54; refine H.out.mono ?_; rintro e w' ⟨rfl, hb⟩)
 go_ret
 exact ⟨ret_bool HE.out, hb⟩
set_option maxHeartbeats 1000000 in
theorem pSources_any (a : Option Addr) (n c : Nat) (Q : List Ly) (b : Option Addr) (j jc : Nat) (nm : List ByteArray) (w : World) (hq : NsR w a n Q) (hn : n ≤ 1000) (hr : Rs w b j nm) (hj : j ≤ jc) (hjc : jc ≤ 9223372036854775807) (h20 : ∀ y ∈ Q, ∀ p ∈ y.L, p.2.names.length ≤ 1000000) :
  Calls Try.prog 11 #[.slice a n c, .slice b j jc] w fun e w' => ∃ ao k c', e = .returned (.slice ao k c') ∧ Is9 w' ao k (Mrg.srcs (lys Q) nm) ∧ Below w.heap.size w w' := by
 have HS := hide (srcs_any a n c Q b j jc nm w hq hn hr hj hjc h20)
 clear hq hr h20
 go_enter Try.func11, Try.ntmps11
 go_wp2_with (go_at_call 34; refine HS.out.mono ?_; rintro e w1 ⟨ao, k, c1, l, rfl, hps, hk, hsr, hb⟩; have HP := hide hps; have HSR := hide hsr; have HB1 := hide hb; clear hps hsr hb)
 go_loopw [5, 7, 12] (fun r5 _ r12 wr => ∃ (i : Nat) (ax : Option Addr) (cx : Nat), r12 = .int .i64 i ∧ i ≤ k ∧ r5 = .slice ax i cx ∧ wr.ownsRow w1.heap.size 3 1 (.slice ax i cx) i (((l.map (·.1)).take i).map (fun z : Nat => Value.int .i64 (z : Int))) ∧ Below w1.heap.size w1 wr) (fun _ _ r12 _ => k - (intOf r12).toNat)
 case atStart => exact ⟨0, none, 0, rfl, Nat.zero_le _, rfl, World.ownsRow_nil _ _ _ _, Below.refl _ _⟩
 case round =>
  obtain ⟨i, ax, cx, rfl, hi0, rfl, hO, hb⟩ := hrel
  have HO := hide hO
  have HB := hide hb
  clear hO hb
  by_cases hi : i < k
  ·have hd : decide ((i : Int) < k) = true := by simpa using hi
   have hi1 : (i : Int) < k := by omega
   obtain ⟨bo, off, rfl, hbl, hc⟩ := (HP.out.below HB.out).at (by omega)
   obtain ⟨c1', c2'⟩ := hc i hi
   have hil : i < l.length := by rw [HP.out.1]; exact hi
   have HT : Hid ((l.map (·.1)).take (i + 1) = (l.map (·.1)).take i ++ [(gq l i).1]) := by
    show _ = _
    rw [List.take_succ_eq_append_getElem (by rw [List.length_map]; exact hil), gq_lt l i hil, List.getElem_map]
   generalize (gq l i).1 = x at *
   generalize (gq l i).2 = y at *
   obtain ⟨V, hV⟩ : ∃ V, V = (l.map (·.1)).take i := ⟨_, rfl⟩
   rw [← hV] at HT HO
   clear hc hbl hV hil
   go_wp2_with (at_builtin; refine wpList_append_int9 _ rfl _ _ rfl w1.heap.size _ _ _ V rfl ((HO.out.alloc _).alloc _) _ x rfl (by simp) (by omega) (by have := HB.out.size; simp; omega) ?_)
   intro ao2 c2 w5 hown2 hg2
   have e9 : V.map (fun z : Nat => Value.int .i64 (z : Int)) ++ [Value.int .i64 (x : Int)] = (V ++ [x]).map (fun z : Nat => Value.int .i64 (z : Int)) := by rw [List.map_append]; rfl
   rw [e9, ← HT.out] at hown2
   have HB5 := hide (((HB.out.alloc HB.out.size _).alloc (by have := HB.out.size; simp; omega) _).grown hg2 (by have := HB.out.size; simp; omega) (fun k e => (HO.out.lt k e).1))
   have HO5 := hide hown2
   clear hown2 hg2 e9
   go_wp2
   exact ⟨⟨i + 1, ao2, c2, by go_num, by omega, rfl, HO5.out, HB5.out⟩, by simp [intOf]; omega⟩
  ·have hd : decide ((i : Int) < k) = false := by simpa using hi
   obtain rfl : i = k := by omega
   have HI : Hid (Is9 wr ax i (Mrg.srcs (lys Q) nm)) := by
    show Is9 _ _ _ _
    have h1 := HO.out
    rw [List.take_of_length_le (by rw [List.length_map, HP.out.1]; omega), HSR.out.srcs] at h1
    exact Is9.of h1
   clear HO
   go_wp2
   go_ret
   exact ⟨_, _, _, rfl, HI.out, HB1.out.trans (HB.out.mono HB1.out.size)⟩
def hdP (l : List Pl) : Int × Int := match l with | [] => (-1, -1) | p :: _ => ((p.1 : Int), (p.2 : Int))
theorem pTop_any (a : Option Addr) (n c : Nat) (Q : List Ly) (b : Option Addr) (j jc : Nat) (nm : List ByteArray) (w : World) (hq : NsR w a n Q) (hn : n ≤ 1000) (hr : Rs w b j nm) (hj : j ≤ jc) (hjc : jc ≤ 9223372036854775807) (h20 : ∀ y ∈ Q, ∀ p ∈ y.L, p.2.names.length ≤ 1000000) :
  Calls Try.prog 13 #[.slice a n c, .slice b j jc] w fun e w' => ∃ l, e = .returned (.tuple #[.int .i64 (hdP l).1, .int .i64 (hdP l).2]) ∧ SrcR (lys Q) nm l ∧ Below w.heap.size w w' := by
 have HS := hide (srcs_any a n c Q b j jc nm w hq hn hr hj hjc h20)
 clear hq hr h20
 go_enter Try.func13, Try.ntmps13
 go_upto_region 2 with (go_at_call 34; refine HS.out.mono ?_; rintro e w1 ⟨ao, k, c1, l, rfl, hps, hk, hsr, hb⟩; have HP := hide hps; have HSR := hide hsr; have HB1 := hide hb; clear hps hsr hb)
 by_cases h0 : k = 0
 ·subst h0
  have HL : Hid (l = []) := List.eq_nil_of_length_eq_zero HP.out.1
  go_wp2
  refine bodyPost_ret (results_tmp2 rfl _ _ _) rfl ?_
  exact ⟨l, by rw [HL.out]; rfl, HSR.out, HB1.out⟩
 ·have hkb : ((k : Int) == 0) = false := by simp; omega
  obtain ⟨bo, off, rfl, hbl, hc⟩ := HP.out.at (by omega)
  obtain ⟨c1', c2'⟩ := hc 0 (by omega)
  have hk0 : (0 : Int) < k := by omega
  have HH : Hid (hdP l = (((gq l 0).1 : Int), ((gq l 0).2 : Int))) := by
   have hl := HP.out.1
   cases l with
   | nil => simp at hl; omega
   | cons p r => rfl
  generalize (gq l 0).1 = x at *
  generalize (gq l 0).2 = y at *
  simp only [Nat.zero_mul, Nat.add_zero] at c1' c2'
  clear hc hbl
  go_upto_region 4 with fail
  go_quiet (fail)
  go_wp2
  refine bodyPost_ret (results_tmp2 rfl _ _ _) rfl ?_
  exact ⟨l, by rw [HH.out]; rfl, HSR.out, below9 HB1.out _⟩
theorem top_same {Q : List Ly} (h : Od Q) {m : List ByteArray} {l : List Pl} (hs : SrcR (lys Q) m l) {x y : Int} (ht : Top9 Q m x y) : (hdP l).1 = x ∧ (hdP l).2 = y := by
 rcases ht with ⟨h1, rfl, rfl⟩ | ⟨i, k, rfl, rfl, h1, hi, hk, h2⟩
 ·have e : l = [] := by
   have := hs.srcs
   rw [h1] at this
   exact List.map_eq_nil_iff.1 this
  rw [e]; exact ⟨rfl, rfl⟩
 ·rw [← hs.srcs] at h1
  cases l with
  | nil => simp at h1
  | cons p r =>
   have e1 : p.1 = i := by simpa using h1
   subst e1
   refine ⟨rfl, ?_⟩
   show ((p.2 : Nat) : Int) = (k : Int)
   have ho := hs.ok p (by simp)
   have ha := hs.at' p (by simp)
   rw [ly_lys9 Q hi] at ha
   have hn : nat' (lys Q) p = nd9 Q p.1 p.2 := by rw [gp_nat]; rfl
   rw [hn] at ha
   have n1 := (fnd_some ha).2
   have n2 := (fnd_some h2).2
   have l1 : p.2 < (gy Q p.1).L.length := by
    have := ho.2
    rw [ly_lys9 Q hi, nds_length] at this; exact this
   have l2 : k < (gy Q p.1).L.length := by rw [nds_length] at hk; exact hk
   rw [← nd9_eq l2] at n2
   rw [h.inj hi (by rw [← h.len _ hi]; exact l1) (by rw [← h.len _ hi]; exact l2) (n1.trans n2.symm)]
def belB (L : List (List Nod)) (m : List ByteArray) (z : Int) : Bool := if m = [] then false else (Mrg.srcs L m.dropLast).any (fun i : Nat => decide (z < (i : Int)) && decide (0 ≤ fi (nmd m) 0 (ly L i)))
theorem bel_fnd (L : List (List Nod)) (m : List ByteArray) (z : Int) : ∀ l : List Pl, (fndL L m l).any (fun q => decide (z < (q.1 : Int))) = (l.map (·.1)).any (fun i : Nat => decide (z < (i : Int)) && decide (0 ≤ fi (nmd m) 0 (ly L i)))
 | [] => rfl
 | p :: r => by
  rw [fndL_cons, List.any_append, List.map_cons, List.any_cons, bel_fnd L m z r]
  congr 1
  unfold oneF
  by_cases h : 0 ≤ fi (nmd m) 0 (ly L p.1)
  ·rw [if_pos h]; simp [h]
  ·rw [if_neg h]; simp [h]
set_option maxHeartbeats 1000000 in
theorem pBelow_any (a : Option Addr) (n c : Nat) (Q : List Ly) (b : Option Addr) (j jc : Nat) (nm : List ByteArray) (z : Int) (w : World) (hq : NsR w a n Q) (hn : n ≤ 1000) (hr : Rs w b j nm) (hj : j ≤ jc) (hjc : jc ≤ 9223372036854775807) (h20 : ∀ y ∈ Q, ∀ p ∈ y.L, p.2.names.length ≤ 1000000) :
  Calls Try.prog 16 #[.slice a n c, .slice b j jc, .int .i64 z] w fun e w' => e = .returned (.bool (belB (lys Q) nm z)) ∧ Below w.heap.size w w' := by
 obtain ⟨w0, hw0⟩ : ∃ x, x = w.alloc (Obj.cells #[Value.int .i64 z] 3) := ⟨_, rfl⟩
 have hb0 : Below w.heap.size w w0 := by rw [hw0]; exact below_one _ _
 have hz0 : w0.cell? ⟨w.heap.size, 0, none⟩ = some (.int .i64 z) := by rw [hw0]; simp
 have hp0 : w.heap.size < w0.heap.size := by rw [hw0]; simp
 have HB0 := hide hb0
 have HW0 := hide hw0
 have HZ : Hid (∀ W, Below w0.heap.size w0 W → W.cell? ⟨w.heap.size, 0, none⟩ = some (.int .i64 z) ∧ w.heap.size < W.heap.size) := fun W hW => ⟨(hW.cell hp0).trans hz0, Nat.lt_of_lt_of_le hp0 hW.size⟩
 have hml : nm.length = j := hr.1
 by_cases hm : nm = []
 ·have hj0 : j = 0 := by rw [← hml, hm]; rfl
  subst hj0
  have HE : Hid (belB (lys Q) nm z = false) := by show _ = _; unfold belB; rw [if_pos hm]
  clear hq hr h20 hb0 hz0 hp0 hw0 HZ hm hml
  go_enter Try.func16, Try.ntmps16
  go_wp2_with fail
  rw [← HW0.out]
  go_ret
  exact ⟨ret_bool HE.out.symm, HB0.out⟩
 ·obtain ⟨j1, rfl⟩ : ∃ j1, j = j1 + 1 := ⟨j - 1, by have := List.length_pos_iff.2 hm; omega⟩
  have hdl : nm.take j1 = nm.dropLast := by rw [List.dropLast_eq_take, hml]; rfl
  have HS := hide (srcs_any a n c Q b j1 jc (nm.take j1) w0 (hq.below hb0) hn ((hr.below hb0).take j1 (by omega)) (by omega) hjc h20)
  rw [hdl] at HS
  have HE : Hid (belB (lys Q) nm z = (Mrg.srcs (lys Q) nm.dropLast).any (fun i : Nat => decide (z < (i : Int)) && decide (0 ≤ fi (nmd nm) 0 (ly (lys Q) i)))) := by show _ = _; unfold belB; rw [if_neg hm]
  have HFD : Hid (∀ W ao k c1 l, Below w0.heap.size w0 W → Ps W ao k l → k ≤ 1000 → SrcR (lys Q) nm.dropLast l → Calls Try.prog 36 #[.slice a n c, .slice ao k c1, .slice b (j1 + 1 : Nat) jc] W fun e w' => ∃ ao' k' c', e = .returned (.slice ao' k' c') ∧ Ps w' ao' k' (fndL (lys Q) nm l) ∧ k' ≤ 1000 ∧ Below W.heap.size W w') := fun W ao k c1 l hW hp hk hs => by
   have hB := hb0.trans (hW.mono hb0.size)
   refine (findL_any a n c Q ao k c1 l b (j1 + 1) jc nm W (hq.below hB) hn hp hk (fun p hpm => ?_) (hr.below hB) h20).mono ?_
   ·have := (hs.ok p hpm).1
    rw [lys, List.length_map, hq.1] at this; exact this
   ·rintro e w' ⟨ao', k', c', rfl, ho, hb⟩
    have h1 := ps_of_owns ho
    exact ⟨ao', k', c', rfl, h1, by have := h1.1; have := fndL_len (lys Q) nm l; have := hp.1; omega, hb⟩
  clear hq hr h20 hb0 hz0 hp0 hw0 hm hml hdl
  go_enter Try.func16, Try.ntmps16
  go_upto_region 5 with fail
  rw [← HW0.out]
  go_upto_region 6 with (first
   | (go_at_call 34; refine HS.out.mono ?_; rintro e w1 ⟨ao, k, c1, l, rfl, hps, hk, hsr, hb⟩; have HF2 := hide (HFD.out w1 ao k c1 l hb hps hk hsr); have HSR := hide hsr; have HB1 := hide hb; clear hps hk hsr hb)
   | (go_at_call 36; refine HF2.out.mono ?_; rintro e w2 ⟨ao2, k2, c2, rfl, hps2, hk2, hb2⟩; have HB2 := hide (HB1.out.trans (hb2.mono HB1.out.size)); have HP2 := hide hps2; clear hps2 hb2))
  obtain ⟨z1, z2⟩ := HZ.out w2 HB2.out
  have HCF := hide (pContains_any ao2 k2 c2 _ w.heap.size z w2 HP2.out hk2 z1 z2)
  clear HS HFD HF2 HZ z1
  go_wp2_with (go_at_call 37; refine HCF.out.mono ?_; rintro e w3 ⟨rfl, hb3⟩; have HB3 := hide (HB2.out.trans (hb3.mono HB2.out.size)); clear hb3)
  go_ret
  exact ⟨ret_bool (by rw [HE.out, bel_fnd, HSR.out.srcs]), HB0.out.trans (HB3.out.mono HB0.out.size)⟩
set_option maxHeartbeats 2000000 in
theorem refBelow9_any (a : Option Addr) (n c : Nat) (Q : List Ly) (b : Option Addr) (j jc : Nat) (nm : List ByteArray) (z : Int) (w : World) (hq : NsR w a n Q) (hn : n ≤ 1000) (hr : Rs w b j nm) (hj : j ≤ jc) (hjc : jc ≤ 9223372036854775807) (h20 : ∀ y ∈ Q, ∀ p ∈ y.L, p.2.names.length ≤ 1000000) :
  Calls Try.prog 17 #[.slice a n c, .slice b j jc, .int .i64 z] w fun e w' => e = .returned (.bool (belB (lys Q) nm z)) ∧ Below w.heap.size w w' := by
 have hml : nm.length = j := hr.1
 by_cases hm : nm = []
 ·have hj0 : j = 0 := by rw [← hml, hm]; rfl
  subst hj0
  have HE : Hid (belB (lys Q) nm z = false) := by show _ = _; unfold belB; rw [if_pos hm]
  clear hq hr h20 hm hml
  go_enter Try.func17, Try.ntmps17
  go_wp2_with fail
  go_ret
  exact ⟨ret_bool HE.out.symm, Below.refl _ _⟩
 ·obtain ⟨j1, rfl⟩ : ∃ j1, j = j1 + 1 := ⟨j - 1, by have := List.length_pos_iff.2 hm; omega⟩
  have hdl : nm.take j1 = nm.dropLast := by rw [List.dropLast_eq_take, hml]; rfl
  have HS := hide (refSources9_any a n c Q hn h20 j1 (nm.take j1) b jc w hq (hr.take j1 (by omega)) (by omega) hjc)
  rw [hdl] at HS
  have HE : Hid (belB (lys Q) nm z = (Mrg.srcs (lys Q) nm.dropLast).any (fun i : Nat => decide (z < (i : Int)) && decide (0 ≤ fi (nmd nm) 0 (ly (lys Q) i)))) := by show _ = _; unfold belB; rw [if_neg hm]
  have HQ := hide hq
  have HR := hide hr
  have H20 := hide h20
  clear hq hr h20 hm hml hdl
  go_enter Try.func17, Try.ntmps17
  go_wp2_with (go_at_call 12; refine HS.out.mono ?_; rintro e w1 ⟨ao, k, c1, rfl, hI, hb⟩; have HI := hide hI; have HB1 := hide hb; clear hI hb)
  obtain ⟨K, hK⟩ : ∃ K, K = Mrg.srcs (lys Q) nm.dropLast := ⟨_, rfl⟩
  have HKL : Hid (∀ x ∈ K, x < n) := fun x hx => by
   have := srcs_lt9 (by rw [← hK]; exact hx : x ∈ Mrg.srcs (lys Q) nm.dropLast)
   rw [lys, List.length_map, HQ.out.1] at this; exact this
  rw [← hK] at HI HE
  have hk1 : k ≤ 1000 := by
   have h1 := rise_len9 K 0 (by rw [hK]; exact srcK_rises _) (fun x hx => ⟨Nat.zero_le _, HKL.out x hx⟩)
   rw [HI.out.1] at h1; omega
  clear hK HS
  go_loopw [8] (fun r8 wr => ∃ i q : Nat, wr = w1.drewN q ∧ r8 = .int .i64 i ∧ i ≤ k ∧ belB (lys Q) nm z = (K.drop i).any (fun i : Nat => decide (z < (i : Int)) && decide (0 ≤ fi (nmd nm) 0 (ly (lys Q) i)))) (fun r8 _ => k - (intOf r8).toNat)
  case atStart => exact ⟨0, 0, rfl, rfl, Nat.zero_le _, HE.out⟩
  case round =>
   obtain ⟨i, q, rfl, rfl, hi0, hinv⟩ := hrel
   have HV := hide hinv
   clear hinv
   by_cases hi : i < k
   ·have hd : decide ((i : Int) < k) = true := by simpa using hi
    have hi1 : (i : Int) < k := by omega
    obtain ⟨bi, rfl, hbi, hci⟩ := (HI.out.below (drewN_below w1 q)).at (by omega)
    have cx := hci i hi
    have hiK : i < K.length := by rw [HI.out.1]; exact hi
    have hxn : fn9 K i < n := HKL.out _ (by rw [fn9_lt K i hiK]; exact List.getElem_mem hiK)
    have HDR : Hid (K.drop i = fn9 K i :: K.drop (i + 1)) := by
     show _ = _
     rw [List.drop_eq_getElem_cons hiK, fn9_lt K i hiK]
    have HV2 : Hid (belB (lys Q) nm z = ((decide (z < (fn9 K i : Int)) && decide (0 ≤ fi (nmd nm) 0 (ly (lys Q) (fn9 K i)))) || (K.drop (i + 1)).any (fun i : Nat => decide (z < (i : Int)) && decide (0 ≤ fi (nmd nm) 0 (ly (lys Q) i))))) := by
     show _ = _
     rw [HV.out, HDR.out, List.any_cons]
    generalize fn9 K i = x at *
    have hxQ : x < Q.length := by rw [HQ.out.1]; exact hxn
    rw [ly_lys9 Q hxQ] at HV2
    have hxn1 : (x : Int) < n := by omega
    have HWQ := hide (HB1.out.trans ((drewN_below w1 q).mono HB1.out.size))
    obtain ⟨bq, oq, rfl, hbq, hcq⟩ := (HQ.out.below HWQ.out).at (by omega)
    have cq := hcq x hxn
    have HYO := hide ((HQ.out.below HWQ.out).ok x hxn)
    have H20Y : Hid (∀ p ∈ (gy Q x).L, p.2.names.length ≤ 1000000) := H20.out (gy Q x) (by rw [gy_lt Q x hxQ]; exact List.getElem_mem _)
    have HF := hide (refFind_any (gy Q x).a (gy Q x).n (gy Q x).c (gy Q x).L b (j1 + 1) jc nm (w1.drewN q) HYO.out.ns HYO.out.le HYO.out.max (HR.out.below HWQ.out) H20Y.out)
    obtain ⟨t, ht⟩ : ∃ t, t = fi (nmd nm) 0 (nds (gy Q x).L) := ⟨_, rfl⟩
    rw [← ht] at HF HV2
    generalize (gy Q x).a = ya at *
    generalize (gy Q x).n = yn at *
    generalize (gy Q x).c = yc at *
    clear hci hcq ht HYO H20Y HDR hbi hbq
    by_cases hz : z < (x : Int)
    ·have hdz : decide ((x : Int) > z) = true := decide_eq_true hz
     by_cases h0 : 0 ≤ t
     ·have hdt : decide (t ≥ 0) = true := decide_eq_true h0
      have HV3 : Hid (belB (lys Q) nm z = true) := by show _ = _; rw [HV2.out, decide_eq_true hz, decide_eq_true h0]; rfl
      clear hz h0 HV2 HV
      go_wp2_with (go_at_call 35; refine HF.out.mono ?_; rintro e w3 ⟨rfl, q3, rfl⟩)
      go_ret
      exact ⟨ret_bool HV3.out.symm, below9 HB1.out _⟩
     ·have hdt : decide (t ≥ 0) = false := decide_eq_false h0
      have HV3 : Hid (belB (lys Q) nm z = (K.drop (i + 1)).any (fun i : Nat => decide (z < (i : Int)) && decide (0 ≤ fi (nmd nm) 0 (ly (lys Q) i)))) := by show _ = _; rw [HV2.out, decide_eq_false h0, Bool.and_false, Bool.false_or]
      clear hz h0 HV2 HV
      go_wp2_with (go_at_call 35; refine HF.out.mono ?_; rintro e w3 ⟨rfl, hq3⟩)
      refine ⟨⟨i + 1, ?_⟩, by simp [intOf]; omega⟩
      obtain ⟨q3, rfl⟩ := hq3
      exact ⟨q + q3, World.drewN_drewN _ _ _, by go_num, by omega, HV3.out⟩
    ·have hdz : decide ((x : Int) > z) = false := decide_eq_false hz
     have HV3 : Hid (belB (lys Q) nm z = (K.drop (i + 1)).any (fun i : Nat => decide (z < (i : Int)) && decide (0 ≤ fi (nmd nm) 0 (ly (lys Q) i)))) := by show _ = _; rw [HV2.out, decide_eq_false hz, Bool.false_and, Bool.false_or]
     clear hz HV2 HV
     go_wp2
     exact ⟨⟨i + 1, q, rfl, by go_num, by omega, HV3.out⟩, by simp [intOf]; omega⟩
   ·have hd : decide ((i : Int) < k) = false := by simpa using hi
    have HV3 : Hid (belB (lys Q) nm z = false) := by
     show _ = _
     rw [HV.out, List.drop_of_length_le (by rw [HI.out.1]; omega)]; rfl
    go_wp2
    go_ret
    exact ⟨ret_bool HV3.out.symm, below9 HB1.out _⟩
end Go.Proofs.Ytflohhefbbidcaa
namespace Go.Proofs.Ytflohhefbbidcaa
set_option maxRecDepth 100000
open Go.RowKit Go.Maps
open Nam Tre Mrg Brn
theorem od_of {w : World} {a : Option Addr} {n : Nat} {Q : List Ly} (hq : NsR w a n Q) (hB : ∀ t ∈ lys Q, Br t) : Od Q :=
 ⟨hB, fun i hi => (hq.ok i (by rw [← hq.1]; exact hi)).ns.1⟩
end Go.Proofs.Ytflohhefbbidcaa
namespace Go.Proofs.Ytflohhefbbidcaa
set_option maxRecDepth 100000
open Go.RowKit Go.Maps Go.ChangeShapes Go.WideShapes Go.ChangeAt
open Nam Tre Mrg
structure Nms where
 a : Option Addr
 n : Nat
 c : Nat
 l : List ByteArray
structure Nms.Ok (y : Nms) (w : World) : Prop where
 rs : Rs w y.a y.n y.l
 le : y.n ≤ y.c
 max : y.c ≤ 9223372036854775807
theorem Nms.Ok.below {y : Nms} {w w' : World} (h : y.Ok w) (hb : Below w.heap.size w w') : y.Ok w' := ⟨h.rs.below hb, h.le, h.max⟩
def nms0 : Nms := ⟨none, 0, 0, []⟩
def gn (R : List Nms) (i : Nat) : Nms := R.getD i nms0
theorem gn_lt (R : List Nms) (i : Nat) (h : i < R.length) : gn R i = R[i] := by simp [gn, h]
def NmsR (w : World) (ao : Option Addr) (n : Nat) (R : List Nms) : Prop :=
 R.length = n ∧ (∀ y ∈ R, y.Ok w) ∧ (n = 0 ∨ ∃ b off, ao = some ⟨b, off, none⟩ ∧ b < w.heap.size ∧ ∀ i, i < n → w.cell? ⟨b, off + i, none⟩ = some (.slice (gn R i).a (gn R i).n (gn R i).c))
theorem NmsR.below {w w' : World} {ao : Option Addr} {n : Nat} {R : List Nms} (h : NmsR w ao n R) (hb : Below w.heap.size w w') : NmsR w' ao n R := by
 refine ⟨h.1, fun y hy => (h.2.1 y hy).below hb, ?_⟩
 rcases h.2.2 with c | ⟨b, off, h1, h2, h3⟩
 ·exact .inl c
 ·exact .inr ⟨b, off, h1, Nat.lt_of_lt_of_le h2 hb.size, fun i hi => (hb.cell h2).trans (h3 i hi)⟩
theorem NmsR.at {w : World} {ao : Option Addr} {n : Nat} {R : List Nms} (h : NmsR w ao n R) (hn : 0 < n) : ∃ b off, ao = some ⟨b, off, none⟩ ∧ b < w.heap.size ∧ ∀ i, i < n → w.cell? ⟨b, off + i, none⟩ = some (.slice (gn R i).a (gn R i).n (gn R i).c) := by
 rcases h.2.2 with c | c
 ·omega
 ·exact c
theorem NmsR.ok {w : World} {ao : Option Addr} {n : Nat} {R : List Nms} (h : NmsR w ao n R) (i : Nat) (hi : i < n) : (gn R i).Ok w := by
 rw [gn_lt R i (by rw [h.1]; exact hi)]
 exact h.2.1 _ (List.getElem_mem _)
theorem open_nrows {H : Type} {enc : TypeId × Value → H} {W : World} {base : Nat} {v : Value} {d : DataW H} {p : List MemPlace} (hok : Value.okWide Try.prog W .any base 29 v)
  (h : DataW.Trod enc Try.prog W 0 (fun _ => true) true 29 v d p) : ∃ a len cap R, v = .slice a len cap ∧ NmsR W a len R := by
 obtain ⟨a, len, cap, rfl⟩ := okWide_slice Try.underlying29 hok
 obtain ⟨fuel, hf⟩ := h
 rcases Deep.open_slice Try.underlying29 hf with ⟨hcs, _⟩ | ⟨x, l, c, m, n, D, Pl, hcs, _, hl, hm, hmm, _, hx⟩
 ·simp [Value.cells] at hcs
  obtain ⟨rfl, rfl, rfl⟩ := hcs
  exact ⟨none, 0, 0, [], rfl, rfl, fun y hy => by simp at hy, .inl rfl⟩
 ·simp [Value.cells] at hcs
  obtain ⟨rfl, rfl, rfl⟩ := hcs
  have ce : Try.prog.cellsOf 31 = 1 := by kernel_rfl
  have hlm : len ≤ m := by rw [hmm]; simp; exact hl
  have each : ∀ i, i < len → ∃ o : Nms, W.cell? (x.add i) = some (.slice o.a o.n o.c) ∧ o.Ok W := by
   intro i hi
   obtain ⟨cs', h1, h2⟩ := hx i (by omega)
   rw [ce] at h1
   obtain ⟨_, hlen, hcell⟩ := World.cells?_some h1
   obtain ⟨oa, on, oc, ol, rfl, r1, r2, r3, _⟩ := names_trod h2
   have e0 := hcell 0 (by omega)
   rw [Deep.add_add] at e0
   exact ⟨⟨oa, on, oc, ol⟩, by simpa using e0, r1, r2, r3⟩
  obtain ⟨O, hO⟩ : ∃ O : Nat → Nms, ∀ i, i < len → W.cell? (x.add i) = some (.slice (O i).a (O i).n (O i).c) ∧ (O i).Ok W := by
   refine ⟨fun i => if h : i < len then (each i h).choose else nms0, fun i hi => ?_⟩
   simp only [dif_pos hi]
   exact (each i hi).choose_spec
  refine ⟨_, len, cap, (List.range len).map O, rfl, by simp, fun y hy => ?_, ?_⟩
  ·simp only [List.mem_map, List.mem_range] at hy
   obtain ⟨i, hi, rfl⟩ := hy
   exact (hO i hi).2
  ·by_cases e : len = 0
   ·exact .inl e
   ·obtain ⟨b, off, spot⟩ := x
    have h00 := (hO 0 (by omega)).1
    have hspot : spot = none := by simpa [Addr.add] using World.cell?_spot h00
    subst hspot
    have hlt : b < W.heap.size := by
     have := World.block_lt_of_cell? W _ h00
     simpa [Addr.add] using this
    refine .inr ⟨b, off, rfl, hlt, fun i hi => ?_⟩
    rw [gn_lt _ _ (by simpa using hi)]
    simp only [List.getElem_map, List.getElem_range]
    have := (hO i hi).1
    simp only [Addr.add_lit] at this
    exact this
theorem valid19_any (a : Option Addr) (n c : Nat) (l : List ByteArray) (w : World) (hl : Rs w a n l) (hn : n ≤ 9223372036854775807) :
  Calls Try.prog 10 #[.slice a n c] w fun e w' => ∃ r, e = .returned (.bool r) ∧ w' = w := by
 have HL := hide hl
 clear hl
 go_enter Try.func10, Try.ntmps10
 go_wp2
 go_loopw [3] (fun r3 wr => ∃ i : Nat, wr = w ∧ r3 = .int .i64 i ∧ i ≤ n) (fun r3 _ => n - (intOf r3).toNat)
 case atStart => exact ⟨0, rfl, rfl, Nat.zero_le _⟩
 case round =>
  obtain ⟨i, rfl, rfl, hi0⟩ := hrel
  by_cases hi : i < n
  ·have hd : decide ((i : Int) < n) = true := by simpa using hi
   have hi1 : (i : Int) < n := by omega
   obtain ⟨b, off, rfl, hbl, hc⟩ := HL.out.at (by omega)
   have c0 := hc i hi
   obtain ⟨s, hs⟩ : ∃ s, s = gs l i := ⟨_, rfl⟩
   rw [← hs] at c0
   have HV := hide (refValid_any s wr)
   obtain ⟨t, ht⟩ : ∃ t, t = valid s.toList := ⟨_, rfl⟩
   rw [← ht] at HV
   clear hc hs ht hbl
   by_cases h0 : t = 0
   ·have hb0 : (t != 0) = false := by simp [h0]
    clear h0
    go_wp2_with (go_at_call 33; refine HV.out.mono ?_; rintro e w1 ⟨rfl, rfl⟩)
    exact ⟨⟨i + 1, trivial, by go_num, by omega⟩, by simp [intOf]; omega⟩
   ·have hb0 : (t != 0) = true := by simpa using h0
    clear h0
    go_wp2_with (go_at_call 33; refine HV.out.mono ?_; rintro e w1 ⟨rfl, rfl⟩)
    go_ret
    exact ⟨_, rfl, rfl⟩
  ·have hd : decide ((i : Int) < n) = false := by simpa using hi
   go_wp2
   go_ret
   exact ⟨_, rfl, rfl⟩
theorem ints19_any (a b : Option Addr) (n c m d : Nat) (K : List Nat) (w : World) (ha : Is9 w a n K) (hb : Is9 w b m K) (hn : n ≤ 1000000) :
  Calls Try.prog 15 #[.slice a n c, .slice b m d] w fun e w' => e = .returned (.bool true) ∧ ∃ q, w' = w.drewN q := by
 have hnm : n = m := by rw [← ha.1, ← hb.1]
 subst hnm
 have HA := hide ha
 have HB := hide hb
 have hee : ((n : Int) != n) = false := by simp
 clear ha hb
 go_enter Try.func15, Try.ntmps15
 go_wp2
 go_loopw [5] (fun r5 wr => ∃ i q : Nat, wr = w.drewN q ∧ r5 = .int .i64 i ∧ i ≤ n) (fun r5 _ => n - (intOf r5).toNat)
 case atStart => exact ⟨0, 0, rfl, rfl, Nat.zero_le _⟩
 case round =>
  obtain ⟨i, q, rfl, rfl, hi0⟩ := hrel
  by_cases hi : i < n
  ·have hd : decide ((i : Int) < n) = true := by simpa using hi
   have hi1 : (i : Int) < n := by omega
   obtain ⟨b1, rfl, hb1, hc1⟩ := HA.out.at (by omega)
   obtain ⟨b2, rfl, hb2, hc2⟩ := HB.out.at (by omega)
   have c1 := hc1 i hi
   have c2 := hc2 i hi
   generalize fn9 K i = x at *
   have hx : ((x : Int) != x) = false := by simp
   clear hc1 hc2 hb1 hb2
   go_wp2_with fail
   go_quiet (fail)
   go_wp2
   exact ⟨⟨i + 1, _, rfl, by go_num, by omega⟩, by simp [intOf]; omega⟩
  ·have hd : decide ((i : Int) < n) = false := by simpa using hi
   go_wp2
   go_ret
   exact ⟨rfl, _, rfl⟩
end Go.Proofs.Ytflohhefbbidcaa
namespace Go.Proofs.Ytflohhefbbidcaa
set_option maxRecDepth 100000
open Go.RowKit Go.Maps
open Nam Tre Mrg Brn
theorem upL_drew {W w : World} (h : Below W.heap.size W w) : Below W.heap.size W w.drew := below9 h 1
set_option maxHeartbeats 4000000 in
theorem mlooks_walk (a : Option Addr) (n c : Nat) (Q : List Ly) (b : Option Addr) (m d : Nat) (R : List Nms) (z : Int) (w : World) (hq : NsR w a n Q) (hc : n ≤ c) (hcm : c ≤ 9223372036854775807) (hr : NmsR w b m R) (hz : (Lit.int .i64 z).wf = true) :
  Calls Try.prog 4 #[.slice a n c, .slice b m d, .int .i64 z] w fun e w' => e = .returned (.bool true) ∧ Below w.heap.size w w' := by
 have HQ := hide hq
 have HR := hide hr
 clear hq hr hz
 go_enter Try.func4, Try.ntmps4
 go_wp2_with (go_at_call 5; refine (shown_any _).mono ?_)
 rintro e w1 ⟨rfl, hb1⟩
 have E1 := hide hb1
 clear hb1
 go_wp2_with (go_at_call 6; refine (fewQ_any a n c Q _ (HQ.out.below E1.out) hc hcm).mono ?_)
 rintro e w2 ⟨ao, k, c', QQ, rfl, hf, _, _⟩
 have HF := hide hf
 have hk5 := hf.k5
 have E2 := hide (E1.out.trans (hf.bel.mono E1.out.size))
 have HR2 := hide (HR.out.below E2.out)
 have H20 : Hid (∀ y ∈ QQ, ∀ p ∈ y.L, p.2.names.length ≤ 1000000) := fun y hy p hp => by
  have h1 := (hf.br (nds y.L) (List.mem_map_of_mem hy)).deep p.2 (List.mem_map_of_mem hp)
  unfold deep at h1
  have h2 : p.2.names.length ≤ 16 := by simpa using h1
  omega
 have HOD := hide (od_of hf.row hf.br)
 clear hf
 go_wp2_with fail
 go_loopw [8, 9, 10, 11, 12, 13, 14, 15, 16] (fun r8 _ _ _ _ _ _ _ _ wr => ∃ i : Nat, r8 = .int .i64 i ∧ i ≤ m ∧ i ≤ 20 ∧ Below w2.heap.size w2 wr) (fun r8 _ _ _ _ _ _ _ _ _ => m - (intOf r8).toNat)
 case atStart => exact ⟨0, rfl, Nat.zero_le _, Nat.zero_le _, Below.refl _ _⟩
 case round =>
  obtain ⟨i, rfl, hi0, hi20, hb⟩ := hrel
  have HB := hide hb
  clear hb
  by_cases hi : i < m
  ·have hd : decide ((i : Int) < m) = true := by simpa using hi
   have hi1 : (i : Int) < m := by omega
   by_cases h20 : i < 20
   ·have hd2 : decide ((i : Int) < 20) = true := by simp; omega
    obtain ⟨br, offr, rfl, hbr, hcr⟩ := HR2.out.at (by omega)
    have HCR : Hid (∀ W, Below w2.heap.size w2 W → W.cell? ⟨br, offr + i, none⟩ = some (.slice (gn R i).a (gn R i).n (gn R i).c)) := fun W hW => (hW.cell hbr).trans (hcr i hi)
    have HY := hide (HR2.out.ok i hi)
    generalize gn R i = y at *
    obtain ⟨ya, yn, yc, yl⟩ := y
    simp only at HCR
    have HRS : Hid (Rs w2 ya yn yl) := HY.out.rs
    have hyc : yn ≤ yc := HY.out.le
    have hym : yc ≤ 9223372036854775807 := HY.out.max
    have cr := HCR.out wr HB.out
    have HV := hide (valid19_any ya yn yc yl wr (HRS.out.below HB.out) (by omega))
    clear hcr hbr HY
    go_upto_region 7 with (go_at_call 10; refine HV.out.mono ?_; rintro e w3 ⟨rv, rfl, rfl⟩)
    cases rv with
    | false =>
     go_wp2
     exact ⟨⟨i + 1, by go_num, by omega, by omega, HB.out⟩, by simp [intOf]; omega⟩
    | true =>
     have HS1 : Hid (∀ W, Below w2.heap.size w2 W → _) := fun W hW => pSources_any ao k c' QQ ya yn yc yl W (HF.out.row.below hW) (by omega) (HRS.out.below hW) hyc hym H20.out
     have HS2 : Hid (∀ W, Below w2.heap.size w2 W → _) := fun W hW => refSources9_any ao k c' QQ (by omega) H20.out yn yl ya yc W (HF.out.row.below hW) (HRS.out.below hW) hyc hym
     have HT1 : Hid (∀ W, Below w2.heap.size w2 W → _) := fun W hW => pTop_any ao k c' QQ ya yn yc yl W (HF.out.row.below hW) (by omega) (HRS.out.below hW) hyc hym H20.out
     have HT2 : Hid (∀ W, Below w2.heap.size w2 W → _) := fun W hW => refTop9_any ao k c' QQ (by omega) H20.out yn yl ya yc W (HF.out.row.below hW) (HRS.out.below hW) hyc hym
     have HB1 : Hid (∀ W, Below w2.heap.size w2 W → _) := fun W hW => pBelow_any ao k c' QQ ya yn yc yl z W (HF.out.row.below hW) (by omega) (HRS.out.below hW) hyc hym H20.out
     have HB2 : Hid (∀ W, Below w2.heap.size w2 W → _) := fun W hW => refBelow9_any ao k c' QQ ya yn yc yl z W (HF.out.row.below hW) (by omega) (HRS.out.below hW) hyc hym H20.out
     go_upto_region 9 with (go_at_call 11; refine (HS1.out _ HB.out).mono ?_; rintro e w4 ⟨a4, k4, c4, rfl, hI4, hb4⟩; have HI4 := hide hI4; have HW4 := hide (HB.out.trans (hb4.mono HB.out.size)); clear hI4 hb4)
     have cr4 := HCR.out w4 HW4.out
     clear cr HV
     go_upto_region 10 with (go_at_call 12; refine (HS2.out _ HW4.out).mono ?_; rintro e w5 ⟨a5, k5, c5, rfl, hI5, hb5⟩; have HI5 := hide hI5; have HJ4 := hide (HI4.out.below hb5); have HW5 := hide (HW4.out.trans (hb5.mono HW4.out.size)); clear hI5 hb5)
     have cr5 := HCR.out w5 HW5.out
     clear cr4 HI4
     go_upto_region 11 with (go_at_call 13; refine (HT1.out _ HW5.out).mono ?_; rintro e w6 ⟨l6, rfl, hs6, hb6⟩; have HS6 := hide hs6; have HJ5 := hide (HI5.out.below hb6); have HK4 := hide (HJ4.out.below hb6); have HW6 := hide (HW5.out.trans (hb6.mono HW5.out.size)); clear hs6 hb6)
     have cr6 := HCR.out w6 HW6.out
     clear cr5 HI5 HJ4
     go_upto_region 12 with (go_at_call 14; refine (HT2.out _ HW6.out).mono ?_; rintro e w7 ⟨x7, y7, rfl, ht7, hb7⟩; have HTS := hide (top_same HOD.out HS6.out ht7); have HK5 := hide (HJ5.out.below hb7); have HM4 := hide (HK4.out.below hb7); have HW7 := hide (HW6.out.trans (hb7.mono HW6.out.size)); clear ht7 hb7)
     obtain ⟨t1, t2⟩ := HTS.out
     rw [t1, t2]
     have hk4 : k4 ≤ 1000000 := by
      have h1 := rise_len9 (n := QQ.length) (Mrg.srcs (lys QQ) yl) 0 (srcK_rises _) (fun x hx => ⟨Nat.zero_le _, by have := srcs_lt9 hx; rw [lys, List.length_map] at this; exact this⟩)
      have h2 := HM4.out.1
      have h3 := HF.out.row.1
      omega
     have HIN := hide (ints19_any a4 a5 k4 c4 k5 c5 _ w7 HM4.out HK5.out hk4)
     clear t1 t2 HTS cr6 HJ5 HK4
     go_upto_region 13 with (go_at_call 15; refine HIN.out.mono ?_; rintro e w8 ⟨rfl, q8, rfl⟩)
     obtain ⟨w9, hw9⟩ : ∃ x, x = w7.drewN q8 := ⟨_, rfl⟩
     rw [← hw9]
     have hb9 : Below w2.heap.size w2 w9 := by rw [hw9]; exact below9 HW7.out _
     have HA0 := hide hb9
     have e1 : (x7 != x7) = false := by simp
     have e2 : (y7 != y7) = false := by simp
     have HC1 : Hid (∀ W, Below w2.heap.size w2 W → Calls Try.prog 16 #[.slice ao k c', .slice ya yn yc, .int .i64 z] W fun e w' => e = .returned (.bool (belB (lys QQ) yl z)) ∧ Below W.heap.size W w') := HB1.out
     have HC2 : Hid (∀ W, Below w2.heap.size w2 W → Calls Try.prog 17 #[.slice ao k c', .slice ya yn yc, .int .i64 z] W fun e w' => e = .returned (.bool (belB (lys QQ) yl z)) ∧ Below W.heap.size W w') := HB2.out
     generalize belB (lys QQ) yl z = r9 at *
     have e3 : (r9 != r9) = false := by simp
     clear hw9 hb9 HB1 HB2 HS1 HS2 HT1 HT2 HIN hk4 HM4 HK5 HS6 HW4 HW5 HW6 HW7 HRS HR HR2 HOD
     go_region_held3 (fun wX => wX.cell? ⟨br, offr + i, none⟩ = some (.slice ya yn yc)) (exact HCR.out _ (by repeat (first | exact HA2.out | exact HA1.out | exact HA0.out | apply upL_drew | apply upL_drewN)))
      ((first
       | (go_at_call 16; refine (HC1.out _ (by repeat (first | exact HA2.out | exact HA1.out | exact HA0.out | apply upL_drew | apply upL_drewN))).mono ?_; rintro e wA ⟨rfl, hbA⟩; have HA1 : Hid (Below w2.heap.size w2 wA) := (by repeat (first | exact HA2.out | exact HA1.out | exact HA0.out | apply upL_drew | apply upL_drewN) : Below w2.heap.size w2 _).trans (hbA.mono (by first | exact HA0.out.size | exact (upL_drew HA0.out).size)); clear hbA)
       | (go_at_call 17; refine (HC2.out _ (by repeat (first | exact HA2.out | exact HA1.out | exact HA0.out | apply upL_drew | apply upL_drewN))).mono ?_; rintro e wB ⟨rfl, hbB⟩; have HA2 : Hid (Below w2.heap.size w2 wB) := (by repeat (first | exact HA2.out | exact HA1.out | exact HA0.out | apply upL_drew | apply upL_drewN) : Below w2.heap.size w2 _).trans (hbB.mono (by first | exact HA1.out.size | exact (upL_drew HA1.out).size)); clear hbB)))
     go_wp2
     exact ⟨⟨i + 1, by go_num, by omega, by omega, HA2.out⟩, by simp [intOf]; omega⟩
   ·have hd2 : decide ((i : Int) < 20) = false := by simp; omega
    go_wp2
    go_ret
    exact ⟨rfl, E2.out.trans (HB.out.mono E2.out.size)⟩
  ·have hd : decide ((i : Int) < m) = false := by simpa using hi
   go_wp2
   go_ret
   exact ⟨rfl, E2.out.trans (HB.out.mono E2.out.size)⟩
end Go.Proofs.Ytflohhefbbidcaa

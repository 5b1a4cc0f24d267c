import Derived.Test.YtflohhefbbidcaaLMrgAt
import Derived.Test.YtflohhefbbidcaaLMrgTog
import Derived.BigQuiet
set_option linter.unusedVariables false
namespace Go.Proofs.Ytflohhefbbidcaa
set_option maxRecDepth 100000
open Go.RowKit Go.Maps
open Nam Tre Mrg Stb Plc
def gq (l : List Pl) (i : Nat) : Pl := l.getD i (0, 0)
theorem gq_lt (l : List Pl) (i : Nat) (h : i < l.length) : gq l i = l[i] := by simp [gq, h]
def Ps (w : World) (ao : Option Addr) (n : Nat) (l : List Pl) : Prop :=
 l.length = n ∧ (n = 0 ∨ ∃ b off, ao = some ⟨b, off, none⟩ ∧ (∃ cs fz, w.heap[b]? = some (.cells cs 57 fz)) ∧ ∀ i, i < n → w.cell? ⟨b, off + i * 2, none⟩ = some (.int .i64 ((gq l i).1 : Int)) ∧ w.cell? ⟨b, off + i * 2 + 1, none⟩ = some (.int .i64 ((gq l i).2 : Int)))
theorem Ps.keep {w w' : World} {ao : Option Addr} {n : Nat} {l : List Pl} (h : Ps w ao n l) (hk : KeepT 57 w w') : Ps w' ao n l := by
 refine ⟨h.1, ?_⟩
 rcases h.2 with h0 | ⟨b, off, h1, ⟨cs, fz, h2⟩, h3⟩
 ·exact .inl h0
 ·have hb := hk _ _ _ h2
  have he : w'.heap[b]? = w.heap[b]? := hb.trans h2.symm
  exact .inr ⟨b, off, h1, ⟨cs, fz, hb⟩, fun i hi => ⟨(World.cell?_of_block he).trans (h3 i hi).1, (World.cell?_of_block he).trans (h3 i hi).2⟩⟩
theorem keepT_below {e : TypeId} {w w' : World} (h : Below w.heap.size w w') : KeepT e w w' := fun i cur fz hi => by rw [h.block i (heap_lt hi)]; exact hi
theorem Ps.below {w w' : World} {ao : Option Addr} {n : Nat} {l : List Pl} (h : Ps w ao n l) (hb : Below w.heap.size w w') : Ps w' ao n l := h.keep (keepT_below hb)
theorem Ps.nil (w : World) (ao : Option Addr) : Ps w ao 0 [] := ⟨rfl, .inl rfl⟩
theorem Ps.at {w : World} {ao : Option Addr} {n : Nat} {l : List Pl} (h : Ps w ao n l) (hn : 0 < n) : ∃ b off, ao = some ⟨b, off, none⟩ ∧ b < w.heap.size ∧ ∀ i, i < n → w.cell? ⟨b, off + i * 2, none⟩ = some (.int .i64 ((gq l i).1 : Int)) ∧ w.cell? ⟨b, off + i * 2 + 1, none⟩ = some (.int .i64 ((gq l i).2 : Int)) := by
 rcases h.2 with h0 | ⟨b, off, h1, ⟨cs, fz, h2⟩, h3⟩
 ·omega
 ·exact ⟨b, off, h1, heap_lt h2, h3⟩
theorem Ps.take {w : World} {ao : Option Addr} {n : Nat} {l : List Pl} (h : Ps w ao n l) (k : Nat) (hk : k ≤ n) : Ps w ao k (l.take k) := by
 refine ⟨by have := h.1; simp; omega, ?_⟩
 by_cases e : k = 0
 ·exact .inl e
 ·rcases h.2 with h0 | ⟨b, off, h1, h2, h3⟩
  ·omega
  ·refine .inr ⟨b, off, h1, h2, fun i hi => ?_⟩
   have : gq (l.take k) i = gq l i := by simp [gq, hi]
   rw [this]; exact h3 i (by omega)
def AllQ (Q : List Ly) (l : List Pl) : Prop := ∀ p ∈ l, InQ Q p.1 p.2
theorem gp_nat (Q : List Ly) (p : Pl) : nat' (lys Q) p = (gp Q p.1 p.2).2 := by
 unfold nat' gp gl
 have e : ly (lys Q) p.1 = nds (gy Q p.1).L := by
  unfold ly lys gy
  rw [List.getD_eq_getElem?_getD, List.getD_eq_getElem?_getD, List.getElem?_map]
  cases Q[p.1]? <;> rfl
 rw [e, List.getD_eq_getElem?_getD, List.getD_eq_getElem?_getD]
 unfold nds
 rw [List.getElem?_map]
 cases (gy Q p.1).L[p.2]? <;> rfl
theorem ly_lys (Q : List Ly) (i : Nat) : ly (lys Q) i = nds (gy Q i).L := by
 unfold ly lys gy
 rw [List.getD_eq_getElem?_getD, List.getD_eq_getElem?_getD, List.getElem?_map]
 cases Q[i]? <;> rfl
theorem inq_ok {w : World} {a : Option Addr} {n : Nat} {Q : List Ly} (hq : NsR w a n Q) (p : Pl) : PlOk (lys Q) p ↔ InQ Q p.1 p.2 := by
 unfold PlOk InQ
 rw [ly_lys, nds_length]
 have hl : (lys Q).length = Q.length := by simp [lys]
 rw [hl]
 constructor
 ·rintro ⟨h1, h2⟩
  have := (hq.ok p.1 (by rw [← hq.1]; exact h1)).ns.1
  exact ⟨h1, by omega⟩
 ·rintro ⟨h1, h2⟩
  have := (hq.ok p.1 (by rw [← hq.1]; exact h1)).ns.1
  exact ⟨h1, by omega⟩
theorem NsR.rep {w : World} {a : Option Addr} {n : Nat} {Q : List Ly} (hq : NsR w a n Q) {l k : Nat} (hi : InQ Q l k) : Rep w (gp Q l k).1 (gp Q l k).2 := (hq.ok l (by rw [← hq.1]; exact hi.1)).ns.rep k hi.2
theorem pisDir_any (a : Option Addr) (n c : Nat) (Q : List Ly) (ao : Option Addr) (m mc : Nat) (l : List Pl) (w : World) (hq : NsR w a n Q) (hn : n ≤ 1000000) (hl : Ps w ao m l) (hm : m ≤ 1000000) (hi : AllQ Q l) :
  Calls Try.prog 26 #[.slice a n c, .slice ao m mc] w fun e w' => e = .returned (.bool (isD (lys Q) l)) ∧ Below w.heap.size w w' := by
 by_cases h0 : m = 0
 ·have el : l = [] := List.eq_nil_of_length_eq_zero (by rw [hl.1, h0])
  have ez : isD (lys Q) l = false := by rw [el]; rfl
  rw [ez]
  subst h0
  clear hq hl hi
  go_enter Try.func26, Try.ntmps26
  go_wp2
  go_ret
  exact ⟨rfl, Below.refl _ _⟩
 ·obtain ⟨b, off, rfl, hb, hc⟩ := hl.at (by omega)
  obtain ⟨c1, c2⟩ := hc 0 (by omega)
  have hln : l.length = m := hl.1
  have hp : gq l 0 ∈ l := by rw [gq_lt l 0 (by omega)]; exact List.getElem_mem _
  have hpi := hi _ hp
  have hA := hide (pat_any a n c Q (gq l 0).1 (gq l 0).2 w hq hpi hn)
  have hk := (hq.rep hpi).kind
  have ez : isD (lys Q) l = ((gp Q (gq l 0).1 (gq l 0).2).1.kind == 1) := by
   rw [← hk, ← gp_nat]
   unfold isD
   cases l with
   | nil => simp at hln; omega
   | cons p r => simp [gq]; rfl
  rw [ez]
  have hF := field_nod2 (gp Q (gq l 0).1 (gq l 0).2).1
  generalize (gp Q (gq l 0).1 (gq l 0).2).1 = v at *
  generalize (gq l 0).1 = x at *
  generalize (gq l 0).2 = y at *
  have hd : decide (0 < m) = true := by simp; omega
  have hd2 : decide ((m : Int) > 0) = true := by simp; omega
  have hi0 : (0 : Int) < m := by omega
  have hi1 : 0 < m := by omega
  simp only [Nat.zero_mul, Nat.add_zero] at c1 c2
  clear hq hl hi hc hp hpi hk ez h0 hln
  unfold Nv.cells at *
  go_enter Try.func26, Try.ntmps26
  go_wp2_with (go_at_call 22; refine hA.out.mono ?_; rintro e w2 ⟨rfl, hb2⟩; have HB2 := hide hb2; clear hb2 hA)
  go_ret
  exact ⟨rfl, HB2.out⟩
theorem cutN_dir {L : List (List Nod)} {p : Pl} {r : List Pl} {b : Bool} (h : (nat' L p).kind = 1) (o : (nat' L p).opq = false) : cutN L (p :: r) b = cutN L r false + 1 := by rw [cutN, if_pos ⟨h, o⟩]
theorem cutN_one {L : List (List Nod)} {p : Pl} {r : List Pl} {b : Bool} (h : ¬ ((nat' L p).kind = 1 ∧ (nat' L p).opq = false)) (o : (nat' L p).kind = 1 ∨ (b = true ∧ (nat' L p).kind ≠ 4)) : cutN L (p :: r) b = 1 := by rw [cutN, if_neg h, if_pos o]
theorem cutN_no {L : List (List Nod)} {p : Pl} {r : List Pl} {b : Bool} (h : ¬ ((nat' L p).kind = 1 ∧ (nat' L p).opq = false)) (o : ¬ ((nat' L p).kind = 1 ∨ (b = true ∧ (nat' L p).kind ≠ 4))) : cutN L (p :: r) b = 0 := by rw [cutN, if_neg h, if_neg o]
set_option maxHeartbeats 1000000 in
theorem made_any (a : Option Addr) (n c : Nat) (Q : List Ly) (ao : Option Addr) (m mc : Nat) (l : List Pl) (w : World) (hq : NsR w a n Q) (hn : n ≤ 1000000) (hl : Ps w ao m l) (hm : m ≤ 1000000) (hmc : m ≤ mc) (hi : AllQ Q l) :
  Calls Try.prog 25 #[.slice a n c, .slice ao m mc] w fun e w' => ∃ k, e = .returned (.slice ao k mc) ∧ k = cutN (lys Q) l true ∧ Below w.heap.size w w' := by
 have HQ := hide hq
 have HL := hide hl
 have HI := hide hi
 have hln : l.length = m := hl.1
 have HLN := hide hln
 clear hq hl hi hln
 go_enter Try.func25, Try.ntmps25
 go_wp2
 go_loopw [10, 5, 6, 7] (fun r _ _ _ wr => ∃ i : Nat, r = .int .i64 i ∧ i ≤ m ∧ Below w.heap.size w wr ∧ cutN (lys Q) l true = i + cutN (lys Q) (l.drop i) (decide (i = 0))) (fun r _ _ _ _ => m - (intOf r).toNat)
 case atStart => exact ⟨0, rfl, Nat.zero_le _, Below.refl _ _, by simp⟩
 case round =>
  obtain ⟨i, rfl, him, hb, hcut⟩ := hrel
  have HB := hide hb
  have HC := hide hcut
  clear hb hcut
  by_cases hi : i < m
  ·have hd : decide ((i : Int) < m) = true := by simpa using hi
   obtain ⟨b, off, rfl, hbl, hc⟩ := (HL.out.below HB.out).at (by omega)
   obtain ⟨c1, c2⟩ := hc i hi
   have hp : gq l i ∈ l := by rw [gq_lt l i (by rw [HLN.out]; exact hi)]; exact List.getElem_mem _
   have hpi := HI.out _ hp
   have HA : Hid (∀ W, Below wr.heap.size wr W → Calls Try.prog 22 #[.slice a n c, .agg #[.int .i64 ((gq l i).1 : Int), .int .i64 ((gq l i).2 : Int)]] W fun e w' => e = .returned (.agg (gp Q (gq l i).1 (gq l i).2).1.cells) ∧ Below W.heap.size W w') := fun W hW => pat_any a n c Q (gq l i).1 (gq l i).2 W ((HQ.out.below HB.out).below hW) hpi hn
   have hk := (HQ.out.rep hpi).kind
   have ho := (HQ.out.rep hpi).op
   have hdr : l.drop i = gq l i :: l.drop (i + 1) := by rw [List.drop_eq_getElem_cons (by rw [HLN.out]; exact hi), gq_lt l i (by rw [HLN.out]; exact hi)]
   rw [← gp_nat Q (gq l i)] at hk ho
   have HC2 : Hid (cutN (lys Q) l true = i + cutN (lys Q) (gq l i :: l.drop (i + 1)) (decide (i = 0))) := by rw [← hdr]; exact HC.out
   have HP : Hid (∀ f, decide ((i + 1 : Nat) = 0) = f → f = false) := fun f h => by rw [← h]; simp
   generalize hv : (gp Q (gq l i).1 (gq l i).2).1 = v at *
   generalize hx : (gq l i).1 = x at *
   generalize hy : (gq l i).2 = y at *
   have HK := hide hk
   have HO := hide ho
   have i1 : (i : Int) < m := by omega
   have hszr := HB.out.size
   clear hp hpi hk ho hdr hv hx hy hc hbl HC
   unfold Nv.cells at *
   obtain ⟨vna, vnn, vnc, vino, vkind, vmode, vuid, vgid, vda, vdn, vdc, vtg, vxa, vxn, vxc, vop⟩ := v
   simp only at HA HK HO
   have hx1 : IntKind.i64.wrap ((i : Int) + 1) = ((i + 1 : Nat) : Int) := by rw [IntWalk.i64_in _ (by omega)]; omega
   have hx2 : (0 : Int) ≤ ((i + 1 : Nat) : Int) := by omega
   have hx3 : ((i + 1 : Nat) : Int) ≤ (mc : Int) := by omega
   have hx4 : (i : Int) ≤ (mc : Int) := by omega
   have HBA : Hid (∀ o, Below wr.heap.size wr (wr.alloc o)) := fun o => (Below.refl _ wr).alloc (Nat.le_refl _) o
   have HFB : Hid (∀ o o2 w3, Below (wr.alloc o).heap.size (wr.alloc o) w3 → Below w.heap.size w (w3.alloc o2)) := fun o o2 w3 h => by
    have h1 := (HBA.out o).trans (h.mono (HBA.out o).size)
    have h2 : Below w3.heap.size w3 (w3.alloc o2) := (Below.refl _ w3).alloc (Nat.le_refl _) o2
    exact HB.out.trans ((h1.trans (h2.mono h1.size)).mono hszr)
   by_cases k1 : vkind = 1
   ·have b1 : (vkind == 1) = true := by simpa using k1
    have K1 := hide k1
    clear k1
    cases vop with
    | false =>
     have HC3 := hide (HC2.out.trans (by rw [cutN_dir (HK.out.trans K1.out) HO.out]))
     go_wp2_with (go_at_call 22; refine (HA.out _ (HBA.out _)).mono ?_; rintro e w3 ⟨rfl, hb3⟩; have HB3 := hide (HFB.out _ (.cells #[.slice vna vnn vnc, .int .i64 vino, .int .i64 vkind, .int .i64 vmode, .int .i64 vuid, .int .i64 vgid, .slice vda vdn vdc, .string vtg, .slice vxa vxn vxc, .bool false] 44) w3 hb3); clear hb3 HA HFB)
     exact ⟨⟨i + 1, by go_num, by omega, HB3.out, by rw [HC3.out]; simp; omega⟩, by simp [intOf]; omega⟩
    | true =>
     have HC3 := hide (HC2.out.trans (by rw [cutN_one (by rw [HO.out]; simp) (.inl (HK.out.trans K1.out))]))
     go_wp2_with (go_at_call 22; refine (HA.out _ (HBA.out _)).mono ?_; rintro e w3 ⟨rfl, hb3⟩; have HB3 := hide (HFB.out _ (.cells #[.slice vna vnn vnc, .int .i64 vino, .int .i64 vkind, .int .i64 vmode, .int .i64 vuid, .int .i64 vgid, .slice vda vdn vdc, .string vtg, .slice vxa vxn vxc, .bool true] 44) w3 hb3); clear hb3 HA HFB)
     go_ret
     exact ⟨_, rfl, HC3.out.symm, HB3.out⟩
   ·have b1 : (vkind == 1) = false := by simpa using k1
    have K1 := hide k1
    clear k1
    by_cases i0 : i = 0
    ·have z1 : ((i : Int) == 0) = true := by simp; omega
     have I0 := hide i0
     clear i0
     by_cases k4 : vkind = 4
     ·have b4 : (vkind == 4) = true := by simpa using k4
      have b5 : (vkind != 4) = false := by simpa using k4
      have K4 := hide k4
      have HC3 := hide (HC2.out.trans (by rw [cutN_no (fun q => K1.out (HK.out.symm.trans q.1)) (by rintro (q | q); exact K1.out (HK.out.symm.trans q); exact q.2 (HK.out.trans K4.out))]))
      clear k4
      go_wp2_with (go_at_call 22; refine (HA.out _ (HBA.out _)).mono ?_; rintro e w3 ⟨rfl, hb3⟩; have HB3 := hide (HFB.out _ (.cells #[.slice vna vnn vnc, .int .i64 vino, .int .i64 vkind, .int .i64 vmode, .int .i64 vuid, .int .i64 vgid, .slice vda vdn vdc, .string vtg, .slice vxa vxn vxc, .bool vop] 44) w3 hb3); clear hb3 HA HFB)
      go_ret
      exact ⟨_, rfl, HC3.out.symm, HB3.out⟩
     ·have b4 : (vkind == 4) = false := by simpa using k4
      have b5 : (vkind != 4) = true := by simpa using k4
      have K4 := hide k4
      have HC3 := hide (HC2.out.trans (by rw [cutN_one (fun q => K1.out (HK.out.symm.trans q.1)) (.inr ⟨by simp [I0.out], fun q => K4.out (HK.out.symm.trans q)⟩)]))
      clear k4
      go_wp2_with (go_at_call 22; refine (HA.out _ (HBA.out _)).mono ?_; rintro e w3 ⟨rfl, hb3⟩; have HB3 := hide (HFB.out _ (.cells #[.slice vna vnn vnc, .int .i64 vino, .int .i64 vkind, .int .i64 vmode, .int .i64 vuid, .int .i64 vgid, .slice vda vdn vdc, .string vtg, .slice vxa vxn vxc, .bool vop] 44) w3 hb3); clear hb3 HA HFB)
      go_ret
      exact ⟨_, rfl, HC3.out.symm, HB3.out⟩
    ·have z1 : ((i : Int) == 0) = false := by simp; omega
     have z2 : ¬ i = 0 := i0
     have HC3 := hide (HC2.out.trans (by rw [cutN_no (fun q => K1.out (HK.out.symm.trans q.1)) (by rintro (q | q); exact K1.out (HK.out.symm.trans q); exact i0 (by simpa using q.1))]))
     go_wp2_with (go_at_call 22; refine (HA.out _ (HBA.out _)).mono ?_; rintro e w3 ⟨rfl, hb3⟩; have HB3 := hide (HFB.out _ (.cells #[.slice vna vnn vnc, .int .i64 vino, .int .i64 vkind, .int .i64 vmode, .int .i64 vuid, .int .i64 vgid, .slice vda vdn vdc, .string vtg, .slice vxa vxn vxc, .bool vop] 44) w3 hb3); clear hb3 HA HFB)
     go_ret
     exact ⟨_, rfl, HC3.out.symm, HB3.out⟩
  ·have hd : decide ((i : Int) < m) = false := by simpa using hi
   have hz : cutN (lys Q) l true = m := by
    have h1 := HC.out
    rw [List.drop_eq_nil_of_le (by rw [HLN.out]; omega), cutN] at h1
    omega
   have HZ := hide hz
   clear hz HC
   go_wp2
   go_ret
   exact ⟨_, rfl, HZ.out.symm, HB.out⟩
end Go.Proofs.Ytflohhefbbidcaa
namespace Go.Proofs.Ytflohhefbbidcaa
set_option maxRecDepth 100000
open Go.RowKit Go.Maps
open Nam Tre Mrg Stb Plc
def cmpI (x y : Nat) : Int := if x < y then -1 else if y < x then 1 else 0
theorem cmpInt_any (x y : Nat) (w : World) : Calls Try.prog 60 #[.int .i64 (x : Int), .int .i64 (y : Int)] w fun e w' => e = .returned (.int .i64 (cmpI x y)) ∧ w' = w := by
 have HN : Hid (∀ (z : Int) (w : World), Calls Try.prog 70 #[.int .i64 z] w fun e w' => e = .returned (.bool false) ∧ w' = w) := by
  intro z w
  go_enter Try.func70, Try.ntmps70
  go_wp2
  go_ret
  exact ⟨by simp, rfl⟩
 rcases Nat.lt_trichotomy x y with h | h | h
 ·have e : cmpI x y = -1 := if_pos h
  rw [e]
  have d1 : decide ((x : Int) < y) = true := by simpa using h
  clear e
  go_enter Try.func60, Try.ntmps60
  go_wp2_with (go_at_call 70; refine (HN.out _ _).mono ?_; rintro e w' ⟨rfl, rfl⟩)
  go_ret
  exact ⟨rfl, rfl⟩
 ·subst h
  have e : cmpI x x = 0 := by unfold cmpI; rw [if_neg (by omega), if_neg (by omega)]
  rw [e]
  clear e
  go_enter Try.func60, Try.ntmps60
  go_wp2_with (go_at_call 70; refine (HN.out _ _).mono ?_; rintro e w' ⟨rfl, rfl⟩)
  go_ret
  exact ⟨rfl, rfl⟩
 ·have e : cmpI x y = 1 := by unfold cmpI; rw [if_neg (by omega), if_pos h]
  rw [e]
  have d1 : decide ((x : Int) < y) = false := by simp; omega
  have d2 : decide ((y : Int) < x) = true := by simpa using h
  have d3 : ¬ x < y := by omega
  clear e
  go_enter Try.func60, Try.ntmps60
  go_wp2_with (go_at_call 70; refine (HN.out _ _).mono ?_; rintro e w' ⟨rfl, rfl⟩)
  go_ret
  exact ⟨rfl, rfl⟩
theorem against_any (x k y : Nat) (w : World) : Calls Try.prog 45 #[.agg #[.int .i64 (x : Int), .int .i64 (k : Int)], .int .i64 (y : Int)] w fun e w' => e = .returned (.int .i64 (cmpI x y)) ∧ Below w.heap.size w w' := by
 have H := hide (cmpInt_any x y)
 generalize cmpI x y = z at *
 have HB : Hid (∀ o, Below w.heap.size w (w.alloc o)) := fun o => (Below.refl _ w).alloc (Nat.le_refl _) o
 go_enter Try.func45, Try.ntmps45
 go_wp2_with (go_at_call 60; refine (H.out _).mono ?_; rintro e w' ⟨rfl, rfl⟩)
 go_ret
 exact ⟨rfl, HB.out _⟩
end Go.Proofs.Ytflohhefbbidcaa
namespace Go.Proofs.Ytflohhefbbidcaa
set_option maxRecDepth 100000
open Go.RowKit Go.Maps
open Nam Tre Mrg Stb Plc
structure Bin (l : List Pl) (t n i j : Nat) : Prop where
 le : i ≤ j
 len : j ≤ n
 lo : ∀ k, k < i → (gq l k).1 < t
 hi : ∀ k, j ≤ k → k < n → t ≤ (gq l k).1
theorem rise_gq {l : List Pl} (hr : (l.map (·.1)).Pairwise (· < ·)) {i j : Nat} (h : i < j) (hj : j < l.length) : (gq l i).1 < (gq l j).1 := by
 rw [gq_lt l i (by omega), gq_lt l j hj]
 rw [List.pairwise_map] at hr
 exact List.pairwise_iff_getElem.1 hr i j (by omega) hj h
theorem bin_found {l : List Pl} {t n i : Nat} (hl : l.length = n) (hr : (l.map (·.1)).Pairwise (· < ·)) (h : Bin l t n i i) : (t ∈ l.map (·.1)) ↔ (i < n ∧ (gq l i).1 = t) := by
 constructor
 ·intro hm
  obtain ⟨p, hp, e⟩ := List.mem_map.1 hm
  obtain ⟨k, hk, rfl⟩ := List.getElem_of_mem hp
  have hg := gq_lt l k hk
  rw [← hg] at e
  by_cases c : k < i
  ·have := h.lo k c; omega
  ·have hi : i < n := by omega
   refine ⟨hi, ?_⟩
   by_cases c2 : k = i
   ·rw [← c2]; exact e
   ·have h1 := h.hi i (Nat.le_refl _) hi
    have h2 := rise_gq hr (show i < k by omega) hk
    omega
 ·rintro ⟨h1, h2⟩
  exact List.mem_map.2 ⟨gq l i, by rw [gq_lt l i (by omega)]; exact List.getElem_mem _, h2⟩
theorem pbin_any (ao : Option Addr) (n c : Nat) (l : List Pl) (t : Nat) (w : World) (hl : Ps w ao n l) (hn : n ≤ 1000000) (hr : (l.map (·.1)).Pairwise (· < ·)) :
  Calls Try.prog 44 #[.slice ao n c, .int .i64 (t : Int), .func (.func 45) #[] #[]] w fun e w' => ∃ k : Nat, e = .returned (.tuple #[.int .i64 (k : Int), .bool (decide (t ∈ l.map (·.1)))]) ∧ Below w.heap.size w w' := by
 have HL := hide hl
 have HLN := hide hl.1
 have HR := hide hr
 clear hl hr
 go_enter Try.func44, Try.ntmps44
 go_wp2
 go_loopw [9, 10, 11] (fun r9 r10 _ wr => ∃ i j : Nat, r9 = .int .i64 i ∧ r10 = .int .i64 j ∧ Bin l t n i j ∧ Below w.heap.size w wr) (fun r9 r10 _ _ => (intOf r10).toNat - (intOf r9).toNat)
 case atStart => exact ⟨0, n, rfl, rfl, ⟨Nat.zero_le _, Nat.le_refl _, fun k hk => by omega, fun k h1 h2 => by omega⟩, Below.refl _ _⟩
 case round =>
  obtain ⟨i, j, rfl, rfl, hB, hb⟩ := hrel
  have HB := hide hB
  have HW := hide hb
  have hij := hB.le
  have hjn := hB.len
  clear hB hb
  by_cases hi : i < j
  ·have hd : decide ((i : Int) < j) = true := by simpa using hi
   obtain ⟨b, off, rfl, hbl, hc⟩ := (HL.out.below HW.out).at (by omega)
   obtain ⟨h, hh⟩ : ∃ h, h = (i + j) / 2 := ⟨_, rfl⟩
   have h1 : i ≤ h := by omega
   have h2 : h < j := by omega
   obtain ⟨c1, c2⟩ := hc h (by omega)
   have hx1 : IntKind.i64.wrap ((i : Int) + j) = ((i + j : Nat) : Int) := by rw [IntWalk.i64_in _ (by omega)]; omega
   have HA := hide (against_any (gq l h).1 (gq l h).2 t wr)
   clear hc hbl
   have hq : ((i : Int) + j) / 2 = (h : Int) := by omega
   have hi3 : (h : Int) < n := by omega
   have HH := hide hh
   clear hh
   generalize hcz : cmpI (gq l h).1 t = z at *
   have HC := hide hcz
   generalize hgx : (gq l h).1 = x at *
   generalize (gq l h).2 = y at *
   have HG := hide hgx
   clear hcz hgx
   have hx4 : IntKind.i64.wrap ((h : Int) + 1) = ((h + 1 : Nat) : Int) := by rw [IntWalk.i64_in _ (by omega)]; omega
   by_cases hz : z < 0
   ·have hd2 : decide (z < 0) = true := by simpa using hz
    have hxt : x < t := by
     have := HC.out
     unfold cmpI at this
     by_cases e : x < t
     ·exact e
     ·rw [if_neg e] at this; split at this <;> omega
    go_wp2_with (go_at_call 45; refine HA.out.mono ?_; rintro e w2 ⟨rfl, hb2⟩; have HB2 := hide hb2; clear hb2 HA)
    refine ⟨⟨h + 1, j, by go_num, rfl, ⟨by omega, hjn, fun k hk => ?_, HB.out.hi⟩, HW.out.trans (HB2.out.mono HW.out.size)⟩, by simp [intOf]; omega⟩
    by_cases e : k = h
    ·rw [e, HG.out]; exact hxt
    ·have := rise_gq (l := l) HR.out (i := k) (j := h) (by omega) (by rw [HLN.out]; omega)
     rw [HG.out] at this; omega
   ·have hd2 : decide (z < 0) = false := by simpa using hz
    have hxt : t ≤ x := by
     have := HC.out
     unfold cmpI at this
     by_cases e : x < t
     ·rw [if_pos e] at this; omega
     ·omega
    go_wp2_with (go_at_call 45; refine HA.out.mono ?_; rintro e w2 ⟨rfl, hb2⟩; have HB2 := hide hb2; clear hb2 HA)
    refine ⟨⟨i, h, rfl, rfl, ⟨h1, by omega, HB.out.lo, fun k k1 k2 => ?_⟩, HW.out.trans (HB2.out.mono HW.out.size)⟩, by simp [intOf]; omega⟩
    by_cases e : k = h
    ·rw [e, HG.out]; exact hxt
    ·have := rise_gq (l := l) HR.out (i := h) (j := k) (by omega) (by rw [HLN.out]; omega)
     rw [HG.out] at this; omega
  ·have hd : decide ((i : Int) < j) = false := by simpa using hi
   obtain rfl : i = j := by omega
   have HF := hide (bin_found HLN.out HR.out HB.out)
   by_cases c1 : i < n
   ·have hd2 : decide ((i : Int) < n) = true := by simpa using c1
    have hi3 : (i : Int) < n := by omega
    obtain ⟨b, off, rfl, hbl, hc⟩ := (HL.out.below HW.out).at (by omega)
    obtain ⟨c1', c2⟩ := hc i c1
    have HA := hide (against_any (gq l i).1 (gq l i).2 t wr)
    have HE : Hid ((cmpI (gq l i).1 t == 0) = decide (t ∈ l.map (·.1))) := by
     show _ = _
     have e1 : decide (t ∈ l.map (·.1)) = decide ((gq l i).1 = t) := decide_eq_decide.2 (HF.out.trans ⟨fun q => q.2, fun q => ⟨c1, q⟩⟩)
     rw [e1]
     unfold cmpI
     rcases Nat.lt_trichotomy (gq l i).1 t with q | q | q
     ·rw [if_pos q, decide_eq_false (by omega)]; rfl
     ·rw [if_neg (by omega), if_neg (by omega), decide_eq_true q]; rfl
     ·rw [if_neg (by omega), if_pos q, decide_eq_false (by omega)]; rfl
    obtain ⟨r, hrr⟩ : ∃ r, r = decide (t ∈ l.map (·.1)) := ⟨_, rfl⟩
    rw [← hrr] at HE
    have HRR := hide hrr
    clear hrr
    generalize cmpI (gq l i).1 t = z at *
    generalize (gq l i).1 = x at *
    generalize (gq l i).2 = y at *
    have hze : (z == 0) = r := HE.out
    clear hc hbl
    go_wp2_with (go_at_call 45; refine HA.out.mono ?_; rintro e w2 ⟨rfl, hb2⟩; have HB2 := hide hb2; clear hb2 HA)
    go_ret2
    exact ⟨i, by rw [← HRR.out]; rfl, HW.out.trans (HB2.out.mono HW.out.size)⟩
   ·have hd2 : decide ((i : Int) < n) = false := by simpa using c1
    have HE : Hid (decide (t ∈ l.map (·.1)) = false) := by
     exact decide_eq_false (fun q => c1 (HF.out.1 q).1)
    go_wp2
    go_ret2
    exact ⟨i, by rw [HE.out]; rfl, HW.out⟩
def pls (l : List Pl) : List Value := l.flatMap fun p => [Value.int .i64 (p.1 : Int), Value.int .i64 (p.2 : Int)]
theorem pls_append (l m : List Pl) : pls (l ++ m) = pls l ++ pls m := by simp [pls]
theorem pls_length (l : List Pl) : (pls l).length = l.length * 2 := by
 induction l with
 | nil => rfl
 | cons p r ih =>
  have : pls (p :: r) = [Value.int .i64 (p.1 : Int), Value.int .i64 (p.2 : Int)] ++ pls r := by simp [pls]
  rw [this, List.length_append, ih, List.length_cons]; simp; omega
theorem pls_get (l : List Pl) (i : Nat) (h : i < l.length) : (pls l)[i * 2]? = some (.int .i64 ((gq l i).1 : Int)) ∧ (pls l)[i * 2 + 1]? = some (.int .i64 ((gq l i).2 : Int)) := by
 induction l generalizing i with
 | nil => simp at h
 | cons p r ih =>
  have e : pls (p :: r) = [Value.int .i64 (p.1 : Int), Value.int .i64 (p.2 : Int)] ++ pls r := by simp [pls]
  rw [e]
  cases i with
  | zero => simp [gq]
  | succ i =>
   have hg : gq (p :: r) (i + 1) = gq r i := by simp [gq]
   rw [hg, List.getElem?_append_right (by simp; omega), List.getElem?_append_right (by simp; omega)]
   have := ih i (by simpa using h)
   rw [show (i + 1) * 2 - [Value.int IntKind.i64 (p.1 : Int), Value.int IntKind.i64 (p.2 : Int)].length = i * 2 by simp; omega, show (i + 1) * 2 + 1 - [Value.int IntKind.i64 (p.1 : Int), Value.int IntKind.i64 (p.2 : Int)].length = i * 2 + 1 by simp; omega]
   exact this
theorem pls_one (l : List Pl) : ∀ u ∈ pls l, u.oneCell' = true := by
 intro u hu
 simp only [pls, List.mem_flatMap] at hu
 obtain ⟨p, _, hp⟩ := hu
 simp only [List.mem_cons, List.not_mem_nil, or_false] at hp
 rcases hp with h | h <;> (rw [h]; rfl)
theorem infoPl : (Try.prog.info? 57).map (fun i => (i.zero, i.size, i.bytes)) = some (some (.agg #[.int .i64 0, .int .i64 0]), 2, 16) := by kernel_rfl
theorem ps_of_owns {w : World} {B n c : Nat} {ao : Option Addr} {l : List Pl} (h : w.ownsRow B 57 2 (.slice ao n c) n (pls l)) : Ps w ao n l := by
 have hlen : l.length = n := by have := h.1; rw [pls_length] at this; omega
 refine ⟨hlen, ?_⟩
 by_cases e : n = 0
 ·exact .inl e
 ·rcases h.2 with ⟨_, h0⟩ | ⟨g, cap, cur, hv, h1, h2, h3, h4, h5⟩
  ·omega
  ·obtain ⟨rfl, _, rfl⟩ : ao = some ⟨g, 0, none⟩ ∧ n = n ∧ c = cap := by simpa using hv
   refine .inr ⟨g, 0, rfl, ⟨_, _, h2⟩, fun i hi => ?_⟩
   have hg := pls_get l i (by omega)
   rw [Nat.zero_add, h.cellAt _ (by omega), h.cellAt _ (by omega)]
   exact hg
theorem wpList_append_pl (w : World) {ops : Array Oper} {rest : List Oper} {o : Oper} {a : Act} {Q : Exit → Act → World → Prop} (hgd : o.guard = none) (s x : Operand)
  (ho : o.op = .call { callee := .builtin .append, args := #[s, x], argTypes := #[54, 54] })
  (base : Nat) (vo : Option Addr) (n vc : Nat) (L : List Pl) (hs : a.eval s = .slice vo n vc) (hown : w.ownsRow base 57 2 (.slice vo n vc) n (pls L))
  (p : Nat) (t : Pl) (hx : a.eval x = .slice (some ⟨p, 0, none⟩) 1 1) (hp : w.cell? ⟨p, 0, none⟩ = some (.int .i64 (t.1 : Int))) (hp2 : w.cell? ⟨p, 1, none⟩ = some (.int .i64 (t.2 : Int)))
  (hbd : n + 1 ≤ 1000000) (hbase : base ≤ w.heap.size)
  (h : ∀ ao' c' w', w'.ownsRow base 57 2 (.slice ao' (n + 1) c') (n + 1) (pls (L ++ [t])) → w.grownBy w' (Value.slice vo n vc).ownBlock → wpList Try.prog ops Q rest (a.put o.dst (.slice ao' (n + 1) c')) w') :
  wpList Try.prog ops Q (o :: rest) a w := by
 obtain ⟨i0, hi, hz0, hz1, hz2⟩ := info_parts infoPl
 refine wpList_append_own w hgd s x _ ho base 57 i0 (.agg #[.int .i64 0, .int .i64 0]) 2 16 Try.underlying54 hi hz0 hz1 hz2 rfl (by decide) _ n (pls L) hs hown ⟨p, 0, none⟩ 1 1 (pls [t]) hx (by rw [pls_length]; simp) ?_ (pls_one _) (by unfold maxLen; omega) (by omega) hbase ?_
 ·intro j u hj
  have e : pls [t] = [Value.int .i64 (t.1 : Int), Value.int .i64 (t.2 : Int)] := by simp [pls]
  rw [e] at hj
  match j, hj with
  | 0, hj => simp at hj; subst hj; simpa [Addr.add] using hp
  | 1, hj => simp at hj; subst hj; simpa [Addr.add] using hp2
 ·intro v' w' h2 h3 _
  obtain ⟨ao', c', rfl⟩ := owns_shape h2
  exact h ao' c' w' (by rw [pls_append]; exact h2) h3
end Go.Proofs.Ytflohhefbbidcaa
namespace Go.Proofs.Ytflohhefbbidcaa
set_option maxRecDepth 100000
open Go.RowKit Go.Maps
open Nam Tre Mrg Stb Plc
theorem ofL_succ (l : List Pl) (ds : List Nat) (i : Nat) (h : i < l.length) : ofL (l.take (i + 1)) ds = ofL (l.take i) ds ++ (if decide ((gq l i).1 ∈ ds) = true then [gq l i] else []) := by
 unfold ofL
 rw [List.take_succ_eq_append_getElem h, List.filter_append, gq_lt l i h]
 congr 1
 rw [List.filter_cons, List.filter_nil]
theorem cell_new2 (w : World) (x y : Value) (t : TypeId) : (w.alloc (.cells #[x, y] t)).cell? ⟨w.heap.size, 0, none⟩ = some x ∧ (w.alloc (.cells #[x, y] t)).cell? ⟨w.heap.size, 1, none⟩ = some y := by
 have h := heap_alloc_new w (.cells #[x, y] t)
 constructor <;> (unfold World.cell?; rw [h]; rfl)
theorem ofL_len (l : List Pl) (ds : List Nat) : (ofL l ds).length ≤ l.length := by unfold ofL; exact List.length_filter_le _ _
theorem ofLayers_any (ao : Option Addr) (n c : Nat) (l : List Pl) (bo : Option Addr) (m mc : Nat) (d : List Pl) (w : World) (hl : Ps w ao n l) (hd : Ps w bo m d) (hn : n ≤ 100000) (hm : m ≤ 1000000) (hr : (d.map (·.1)).Pairwise (· < ·)) :
  Calls Try.prog 23 #[.slice ao n c, .slice bo m mc] w fun e w' => ∃ ao' k c', e = .returned (.slice ao' k c') ∧ w'.ownsRow w.heap.size 57 2 (.slice ao' k c') k (pls (ofL l (d.map (·.1)))) ∧ Below w.heap.size w w' := by
 have HL := hide hl
 have HD := hide hd
 have HLN := hide hl.1
 have HR := hide hr
 obtain ⟨ds, hds⟩ : ∃ ds, ds = d.map (·.1) := ⟨_, rfl⟩
 have HCA : Hid (∀ (t : Nat) W, Below w.heap.size w W → Calls Try.prog 44 #[.slice bo m mc, .int .i64 (t : Int), .func (.func 45) #[] #[]] W fun e w' => ∃ k : Nat, e = .returned (.tuple #[.int .i64 (k : Int), .bool (decide (t ∈ ds))]) ∧ Below W.heap.size W w') := fun t W hW => by
  rw [hds]
  exact pbin_any bo m mc d t W (hd.below hW) hm hr
 rw [← hds]
 clear hl hd hr hds HR HD
 go_enter Try.func23, Try.ntmps23
 go_wp2
 go_loopw [5, 7, 8, 9, 12] (fun r5 _ _ _ r12 wr => ∃ (i k : Nat) (ao' : Option Addr) (c' : Nat), r12 = .int .i64 i ∧ i ≤ n ∧ r5 = .slice ao' k c' ∧ wr.ownsRow w.heap.size 57 2 (.slice ao' k c') k (pls (ofL (l.take i) ds)) ∧ Below w.heap.size w wr) (fun _ _ _ _ r12 _ => n - (intOf r12).toNat)
 case atStart => exact ⟨0, 0, none, 0, rfl, Nat.zero_le _, rfl, World.ownsRow_nil _ _ _ _, Below.refl _ _⟩
 case round =>
  obtain ⟨i, k, ao', c', rfl, hi0, rfl, hO, hb⟩ := hrel
  have HO := hide hO
  have HB := hide hb
  have hk : k ≤ i := by
   have h1 := hO.1
   rw [pls_length] at h1
   have h2 := ofL_len (l.take i) ds
   rw [List.length_take] at h2
   omega
  clear hO hb
  by_cases hi : i < n
  ·have hdx : decide ((i : Int) < n) = true := by simpa using hi
   have hi1 : (i : Int) < n := by omega
   obtain ⟨b, off, rfl, hbl, hc⟩ := (HL.out.below HB.out).at (by omega)
   obtain ⟨c1, c2⟩ := hc i hi
   have HS := hide (ofL_succ l ds i (by rw [HLN.out]; exact hi))
   obtain ⟨f, hf⟩ : ∃ f, f = decide ((gq l i).1 ∈ ds) := ⟨_, rfl⟩
   have HCB : Hid (∀ o, Calls Try.prog 44 #[.slice bo m mc, .int .i64 ((gq l i).1 : Int), .func (.func 45) #[] #[]] (wr.alloc o) fun e w' => ∃ k : Nat, e = .returned (.tuple #[.int .i64 (k : Int), .bool f]) ∧ Below (wr.alloc o).heap.size (wr.alloc o) w') := fun o => by
    rw [hf]
    exact HCA.out _ _ (HB.out.trans (((Below.refl _ wr).alloc (Nat.le_refl _) o).mono HB.out.size))
   rw [← hf] at HS
   have hg : ((gq l i).1, (gq l i).2) = gq l i := rfl
   obtain ⟨x, hx⟩ : ∃ x, x = (gq l i).1 := ⟨_, rfl⟩
   obtain ⟨y, hy⟩ : ∃ y, y = (gq l i).2 := ⟨_, rfl⟩
   rw [← hx] at c1 HCB
   rw [← hy] at c2
   rw [← hx, ← hy] at hg
   rw [← hg] at HS
   clear hf hx hy hg hc hbl
   obtain ⟨w1, hw1⟩ : ∃ w1, w1 = wr.alloc (Obj.cells #[Value.int IntKind.i64 (x : Int), Value.int IntKind.i64 (y : Int)] 57) := ⟨_, rfl⟩
   have hbw : Below wr.heap.size wr w1 := by rw [hw1]; exact (Below.refl _ wr).alloc (Nat.le_refl _) _
   have hz : w1.heap[wr.heap.size]? = some (Obj.cells #[Value.int IntKind.i64 (x : Int), Value.int IntKind.i64 (y : Int)] 57) := by rw [hw1]; exact heap_alloc_new wr _
   have HG : Hid (∀ W, Below w1.heap.size w1 W → W.cell? ⟨wr.heap.size, 0, none⟩ = some (.int .i64 (x : Int)) ∧ W.cell? ⟨wr.heap.size, 1, none⟩ = some (.int .i64 (y : Int)) ∧ Below w.heap.size w W ∧ W.ownsRow w.heap.size 57 2 (.slice ao' k c') k (pls (ofL (l.take i) ds))) := fun W hW => by
    have h1 := (hW.block _ (heap_lt hz)).trans hz
    have hbb := hbw.trans (hW.mono hbw.size)
    refine ⟨by simp [World.cell?, h1], by simp [World.cell?, h1], HB.out.trans (hbb.mono HB.out.size), owns_below HO.out hbb⟩
   have HC2 := hide (HCB.out (Obj.cells #[Value.int IntKind.i64 (x : Int), Value.int IntKind.i64 (y : Int)] 57))
   rw [← hw1] at HC2
   clear hz hbw HCB
   cases f with
   | false =>
    go_wp2_with (go_at_call 44; rw [← hw1]; refine HC2.out.mono ?_; rintro e w2 ⟨q, rfl, hb2⟩; have HB2 := hide hb2; clear hb2)
    obtain ⟨_, _, q3, q4⟩ := HG.out _ HB2.out
    refine ⟨⟨i + 1, k, ao', c', by go_num, by omega, rfl, ?_, q3⟩, by simp [intOf]; omega⟩
    have := HS.out
    rw [if_neg (by simp), List.append_nil] at this
    rw [this]; exact q4
   | true =>
    go_wp2_with (first
     | (go_at_call 44; rw [← hw1]; refine HC2.out.mono ?_; rintro e w2 ⟨q, rfl, hb2⟩; obtain ⟨g1, g2, g3, g4⟩ := HG.out _ hb2; have HB2 := hide g3; have HO2 := hide g4; clear hb2 g3 g4)
     | (at_builtin; refine wpList_append_pl _ rfl _ _ rfl w.heap.size _ _ _ (ofL (l.take i) ds) rfl (HO2.out.alloc _) _ (x, y) rfl (cell_new2 _ _ _ _).1 (cell_new2 _ _ _ _).2 (by omega) (by have := HB2.out.size; simp; omega) ?_))
    rintro ao2 k2 w3 ho3 hg3
    have HT : Hid (w3.ownsRow w.heap.size 57 2 (.slice ao2 (k + 1) k2) (k + 1) (pls (ofL (l.take (i + 1)) ds))) := by
     have := HS.out
     rw [if_pos trivial] at this
     rw [this]; exact ho3
    have HB3 : Hid (Below w.heap.size w w3) := (HB2.out.alloc (HB2.out.size) _).grown hg3 (by have := HB2.out.size; simp; omega) (fun k e => (HO2.out.lt k e).1)
    clear ho3 hg3
    go_wp2
    exact ⟨⟨i + 1, k + 1, ao2, k2, by go_num, by omega, rfl, HT.out, HB3.out⟩, by simp [intOf]; omega⟩
  ·have hdx : decide ((i : Int) < n) = false := by simpa using hi
   obtain rfl : i = n := by omega
   have HF : Hid (l.take i = l) := List.take_of_length_le (by rw [HLN.out]; omega)
   go_wp2
   go_ret
   exact ⟨_, _, _, rfl, by have := HO.out; rw [HF.out] at this; exact this, HB.out⟩
end Go.Proofs.Ytflohhefbbidcaa
namespace Go.Proofs.Ytflohhefbbidcaa
open Nam Tre Mrg Stb Plc
def lyP (i k : Nat) : List Pl := (List.range k).map (fun j => (i, j))
theorem lyP_succ (i k : Nat) : lyP i (k + 1) = lyP i k ++ [(i, k)] := by simp [lyP, List.range_succ]
theorem lyP_length (i k : Nat) : (lyP i k).length = k := by simp [lyP]
theorem mem_lyP {i k : Nat} {p : Pl} : p ∈ lyP i k ↔ p.1 = i ∧ p.2 < k := by
 unfold lyP
 rw [List.mem_map]
 constructor
 ·rintro ⟨j, hj, rfl⟩; exact ⟨rfl, List.mem_range.1 hj⟩
 ·rintro ⟨h1, h2⟩; exact ⟨p.2, List.mem_range.2 h2, by rw [← h1]⟩
def allP (Q : List Ly) : Nat → List Pl
 | 0 => []
 | i + 1 => allP Q i ++ lyP i (gy Q i).n
theorem mem_allP {Q : List Ly} : ∀ {i : Nat} {p : Pl}, p ∈ allP Q i ↔ p.1 < i ∧ p.2 < (gy Q p.1).n
 | 0, p => by simp [allP]
 | i + 1, p => by
  rw [allP, List.mem_append, mem_allP, mem_lyP]
  constructor
  ·rintro (⟨h1, h2⟩ | ⟨h1, h2⟩)
   ·exact ⟨by omega, h2⟩
   ·exact ⟨by omega, by rw [h1]; exact h2⟩
  ·rintro ⟨h1, h2⟩
   by_cases e : p.1 < i
   ·exact .inl ⟨e, h2⟩
   ·have : p.1 = i := by omega
    exact .inr ⟨this, by rw [← this]; exact h2⟩
def cntP (Q : List Ly) : Nat → Nat
 | 0 => 0
 | i + 1 => cntP Q i + (gy Q i).n
theorem allP_length (Q : List Ly) : ∀ i, (allP Q i).length = cntP Q i
 | 0 => rfl
 | i + 1 => by rw [allP, List.length_append, lyP_length, allP_length Q i, cntP]
theorem cntP_mono (Q : List Ly) (i : Nat) : ∀ d, cntP Q i ≤ cntP Q (i + d)
 | 0 => Nat.le_refl _
 | d + 1 => by
  have := cntP_mono Q i d
  rw [show i + (d + 1) = (i + d) + 1 by omega, cntP]; omega
theorem cntP_le (Q : List Ly) {i k : Nat} (h : i < k) : cntP Q i + (gy Q i).n ≤ cntP Q k := by
 have := cntP_mono Q (i + 1) (k - (i + 1))
 rw [show i + 1 + (k - (i + 1)) = k by omega, cntP] at this
 exact this
def cdp (p : Pl) : Nat := cd p.1 p.2
theorem pa_cdp {p : Pl} (h : p.2 < 65536) : pa (cdp p) = p.1 := pa_cd h
theorem pb_cdp {p : Pl} (h : p.2 < 65536) : pb (cdp p) = p.2 := by unfold cdp pb cd; omega
theorem allP_rise {Q : List Ly} (hQ : ∀ i, (gy Q i).n ≤ 65536) : ∀ i, (allP Q i).Pairwise (fun p q => cdp p < cdp q)
 | 0 => List.Pairwise.nil
 | i + 1 => by
  rw [allP, List.pairwise_append]
  refine ⟨allP_rise hQ i, ?_, fun p hp q hq => ?_⟩
  ·unfold lyP
   rw [List.pairwise_map]
   exact List.pairwise_lt_range.imp fun {a b} h => by unfold cdp cd; simp only; omega
  ·obtain ⟨h1, h2⟩ := mem_allP.1 hp
   obtain ⟨h3, h4⟩ := mem_lyP.1 hq
   have := hQ p.1
   unfold cdp cd
   omega
def cdf (l : List Pl) (k : Nat) : Nat := cdp (gq l k)
theorem pls_pvs {l : List Pl} (h : ∀ p ∈ l, p.2 < 65536) : pls l = pvs l.length (cdf l) := by
 apply List.ext_getElem?
 intro k
 by_cases hk : k < l.length * 2
 ·obtain ⟨q, hq⟩ : ∃ q, k = q * 2 ∨ k = q * 2 + 1 := ⟨k / 2, by omega⟩
  rcases hq with rfl | rfl
  ·have hqn : q < l.length := by omega
   have hm : gq l q ∈ l := by rw [gq_lt l q hqn]; exact List.getElem_mem _
   rw [(pls_get l q hqn).1, (pvs_get _ _ q hqn).1]
   unfold cdf; rw [pa_cdp (h _ hm)]
  ·have hqn : q < l.length := by omega
   have hm : gq l q ∈ l := by rw [gq_lt l q hqn]; exact List.getElem_mem _
   rw [(pls_get l q hqn).2, (pvs_get _ _ q hqn).2]
   unfold cdf; rw [pb_cdp (h _ hm)]
 ·rw [List.getElem?_eq_none (by rw [pls_length]; omega), List.getElem?_eq_none (by rw [pvs_length]; omega)]
def plsD (n : Nat) (D : Nat → Nat) : List Pl := (List.range n).map (fun k => (pa (D k), pb (D k)))
theorem plsD_length (n : Nat) (D : Nat → Nat) : (plsD n D).length = n := by simp [plsD]
theorem gq_plsD {n : Nat} {D : Nat → Nat} {k : Nat} (h : k < n) : gq (plsD n D) k = (pa (D k), pb (D k)) := by
 rw [gq_lt _ _ (by rw [plsD_length]; exact h)]; simp [plsD]
theorem cdf_inj_in {l : List Pl} (h : ∀ p ∈ l, p.2 < 65536) {x : Nat} : In (cdf l) 0 l.length x ↔ (pa x, pb x) ∈ l := by
 constructor
 ·rintro ⟨k, _, h2, h3⟩
  have hm : gq l k ∈ l := by rw [gq_lt l k h2]; exact List.getElem_mem _
  have e1 := pa_cdp (h _ hm)
  have e2 := pb_cdp (h _ hm)
  unfold cdf at h3
  rw [h3] at e1 e2
  rw [e1, e2]; exact hm
 ·intro hm
  obtain ⟨k, hk, e⟩ := List.getElem_of_mem hm
  refine ⟨k, Nat.zero_le _, hk, ?_⟩
  unfold cdf
  rw [gq_lt l k hk, e]
  exact cd_pab x
end Go.Proofs.Ytflohhefbbidcaa
namespace Go.Proofs.Ytflohhefbbidcaa
set_option maxRecDepth 100000
open Go.RowKit Go.Maps
open Nam Tre Mrg
theorem gl_nds (L : List (Nv × Nod)) (i : Nat) (h : i < L.length) : (nds L)[i]'(by rw [nds_length]; exact h) = (gl L i).2 := by rw [gl_lt L i h]; simp [nds]
end Go.Proofs.Ytflohhefbbidcaa

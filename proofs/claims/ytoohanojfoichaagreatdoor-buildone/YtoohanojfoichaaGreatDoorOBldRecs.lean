import Derived.Test.YtoohanojfoichaaGreatDoorOJBldList
import Derived.Test.YtoohanojfoichaaGreatDoorOTabIDs
set_option linter.unusedVariables false
namespace Go.Proofs.YtoohanojfoichaaGreatDoor
open Go.RowKit Go.Maps
open Lz (g)
open Crc (ent)
open Frm Mtr Tre Nam Tab Bld
theorem putN_len (wide : Int) (l : List Int) : (putN wide l).1.length ≤ 4 * l.length := by
 unfold putN
 split
 ·exact pn_length wide l
 ·simp
set_option maxRecDepth 100000 in
theorem numbers_any (tb : Nat) (a : Option Addr) (n c : Nat) (l : List Int) (wide : Int) (w : World) (hT : Tb w tb ent) (htb : tb < w.heap.size) (h : Zs w a n l) (hn : n ≤ 10000) (hl : ∀ x ∈ l, In64 x) (hw : In64 wide) :
  Calls Tryz.prog 20 #[.pointer (some ⟨tb, 0, none⟩), .slice a n c, .int .i64 wide] w fun r w' => ∃ ao cc, r = .returned (.slice ao (done ent (putN wide l).1).length cc) ∧ Fresh w w' ao (done ent (putN wide l).1).length cc (done ent (putN wide l).1) := by
 have HP := hide (PutNums_any a n c l wide w h hn hl hw)
 have hlen := putN_len wide l
 have hll := h.1
 have HT := hide hT
 obtain ⟨A, hA⟩ : ∃ A, A = putN wide l := ⟨_, rfl⟩
 rw [← hA] at HP hlen ⊢
 have hAl : A.1.length ≤ 100000 := by omega
 obtain ⟨dl, hdl⟩ : ∃ dl, (done ent A.1).length = dl := ⟨_, rfl⟩
 rw [hdl]
 have HDl := hide hdl
 clear h hT hA hlen hll hdl
 go_enter Tryz.func20, Tryz.ntmps20
 go_wp2_with fail
 refine HP.out.mono ?_
 rintro r w1 ⟨ao, c1, rfl, hN⟩
 have HN := hide hN
 clear hN HP
 have HNw := hide (metaNew_any tb w1)
 generalize hal : A.1.length = al at *
 generalize A.2 = a2 at *
 go_wp2_with fail
 refine HNw.out.mono ?_
 rintro r w2 ⟨rfl, hM2, hb2, hs2⟩
 obtain ⟨p, hp⟩ : ∃ p, p = w1.heap.size := ⟨_, rfl⟩
 rw [← hp] at hM2 ⊢
 have b02 : Below w.heap.size w w2 := HN.out.bel.trans (hb2.mono HN.out.bel.size)
 have hT2 := HT.out.below b02 htb
 have htb2 : tb < w2.heap.size := Nat.lt_of_lt_of_le htb b02.size
 have HAd := hide (Add_any p tb al c1 (fun k => k = p) ao ent [] A.1 w2 (by simpa [Mtr.fr, Mtr.rest] using hM2) hT2 htb2 (fun e => by have := HN.out.bel.size; omega) small_ent (HN.out.bs.below hb2) HN.out.nil (by simp) (by omega))
 have HB02 := hide b02
 have HPg : Hid (w.heap.size ≤ p) := by rw [hp]; exact HN.out.bel.size
 rw [List.nil_append] at HAd
 clear hM2 hb2 hs2 hT2 b02 HNw hp
 go_wp2_with fail
 refine HAd.out.mono ?_
 rintro r w3 ⟨rfl, O3, hM3, hF3, hG3⟩
 have b03 : Below w.heap.size w w3 := HB02.out.trans (hF3.below _ HB02.out.size (fun k (hk : k = p) => by rw [hk]; exact HPg.out))
 have HDn := hide (metaDone_any p tb O3 ent A.1 w3 hM3 (HT.out.below b03 htb) (Nat.lt_of_lt_of_le htb b03.size) small_ent (by omega))
 have HB03 := hide b03
 rw [HDl.out] at HDn
 clear hM3 hF3 hG3 b03 HAd
 go_wp2_with fail
 refine HDn.out.mono ?_
 rintro r w4 ⟨ao4, c4, rfl, hF4⟩
 have HX := hide (hF4.from HB03.out)
 clear hF4 HDn
 go_wp2
 go_ret
 exact ⟨_, _, rfl, HX.out⟩
set_option maxRecDepth 100000 in
theorem onceInto_any (px : Nat) (w : World) :
  Calls Tryz.prog 44 #[.pointer (some ⟨px, 0, none⟩)] w fun r w' => r = .returned (.func (.func 90) #[] #[.pointer (some ⟨w.heap.size + 2, 0, none⟩), .pointer (some ⟨w.heap.size, 0, none⟩)]) ∧ Below w.heap.size w w' ∧ w'.heap.size = w.heap.size + 3 ∧
   w'.heap[w.heap.size + 2]? = some (.cells #[.map (some (w.heap.size + 1))] 129 (0, 0)) ∧ w'.heap[w.heap.size]? = some (.cells #[.pointer (some ⟨px, 0, none⟩)] 57 (0, 0)) ∧ MpD w' (w.heap.size + 1) [] := by
 have mk := Dat.make
 go_enter Tryz.func44, Tryz.ntmps44
 go_wp2
 go_ret
 have b1 : Below w.heap.size w (w.alloc (.cells #[.pointer (some ⟨px, 0, none⟩)] 57)) := (Below.refl _ w).alloc (Nat.le_refl _) _
 have b2 := b1.alloc b1.size (.map #[] 0)
 have b3 := b2.alloc b2.size (.cells #[.map (some (w.heap.size + 1))] 129)
 refine ⟨rfl, b3, by simp, heap_new (by simp), ?_, ?_⟩
 ·exact (Below.heap_alloc _ _ _ (by simp; omega)).trans ((Below.heap_alloc _ _ _ (by simp)).trans (heap_new (by simp)))
 ·have h1 := MpD.new (w.alloc (.cells #[.pointer (some ⟨px, 0, none⟩)] 57))
  have e : (w.alloc (.cells #[.pointer (some ⟨px, 0, none⟩)] 57)).heap.size = w.heap.size + 1 := by simp
  rw [e] at h1
  exact h1.same (Below.heap_alloc _ _ _ (by simp))
def Bld.OwnN (l : List Nod) (own : List Int) : Prop := own.Pairwise (· < ·) ∧ ∀ x, x ∈ own ↔ ∃ n ∈ l, x = n.uid ∨ x = n.gid
theorem own_of {L : List (Nv × Nod)} {R : List Int} (hw : Wf L) (hr : ∀ p ∈ L, p.2.uid = p.1.uid ∧ p.2.gid = p.1.gid) (h : OwnersOf L R) : OwnN (nds L) R := by
 refine ⟨h.1, fun x => ?_⟩
 rw [h.2 x]
 unfold us nds
 constructor
 ·intro hx
  obtain ⟨y, hy, rfl⟩ := List.mem_map.1 hx
  obtain ⟨p, hp, hy⟩ := List.mem_flatMap.1 hy
  refine ⟨p.2, List.mem_map.2 ⟨p, hp, rfl⟩, ?_⟩
  simp only [List.mem_cons, List.not_mem_nil, or_false] at hy
  rcases hy with rfl | rfl
  ·rw [i64_val (hw p hp).1, (hr p hp).1]; exact .inl rfl
  ·rw [i64_val (hw p hp).2, (hr p hp).2]; exact .inr rfl
 ·rintro ⟨n, hn, hx⟩
  obtain ⟨p, hp, rfl⟩ := List.mem_map.1 hn
  rcases hx with rfl | rfl
  ·exact List.mem_map.2 ⟨i64 p.1.uid, List.mem_flatMap.2 ⟨p, hp, by simp⟩, by rw [i64_val (hw p hp).1, (hr p hp).1]⟩
  ·exact List.mem_map.2 ⟨i64 p.1.gid, List.mem_flatMap.2 ⟨p, hp, by simp⟩, by rw [i64_val (hw p hp).2, (hr p hp).2]⟩
theorem nodup_le : ∀ (xs ys : List Int), xs.Nodup → (∀ x ∈ xs, x ∈ ys) → xs.length ≤ ys.length
 | [], _, _, _ => Nat.zero_le _
 | x :: xs, ys, hnd, hs => by
  rw [List.nodup_cons] at hnd
  have hx : x ∈ ys := hs x (List.mem_cons_self ..)
  have h1 := nodup_le xs (ys.erase x) hnd.2 (fun y hy => (List.mem_erase_of_ne (fun (e : y = x) => hnd.1 (by rw [← e]; exact hy))).2 (hs y (List.mem_cons_of_mem _ hy)))
  rw [List.length_erase_of_mem hx] at h1
  have h2 : 0 < ys.length := List.length_pos_of_mem hx
  rw [List.length_cons]; omega
theorem own_len {l : List Nod} {own : List Int} (h : OwnN l own) : own.length ≤ 2 * l.length := by
 have hd : own.Nodup := h.1.imp (fun hx => by omega)
 have hs : ∀ x ∈ own, x ∈ l.flatMap (fun n => [n.uid, n.gid]) := fun x hx => by
  obtain ⟨n, hn, e⟩ := (h.2 x).1 hx
  exact List.mem_flatMap.2 ⟨n, hn, by simpa using e⟩
 have h1 := nodup_le _ _ hd hs
 have h2 : (l.flatMap (fun n => [n.uid, n.gid])).length = 2 * l.length := by
  clear h hd hs h1
  induction l with
  | nil => rfl
  | cons n l ih => rw [List.flatMap_cons, List.length_append, ih]; simp; omega
 omega
structure Tn (L : List (Nv × Nod)) : Prop where
 pos : 0 < L.length
 n40 : L.length ≤ 40
 ino : ∀ i, i < L.length → (Lit.int .i64 (gn (nds L) i).ino).wf = true
 uno : Uno (nds L)
 nod : ((nds L).map Nod.names).Nodup
 can : CanP L
 may : ∀ n ∈ nds L, Tre.may n = true
 deep : ∀ n ∈ nds L, n.names.length ≤ 16
 long : ∀ n ∈ nds L, ∀ s ∈ n.names, s.size ≤ 255
def RAns (a : Option Addr) (n c tb fb : Nat) (L : List (Nv × Nod)) (fm : Fm) (w : World) (e : Ending) (w' : World) : Prop :=
 ∃ (x : Cx) (O : Nat → Prop), e = .returned (.pointer (some ⟨x.rp, 0, none⟩)) ∧ x.L = L ∧ x.fm = fm ∧ x.n = n ∧ x.tb = tb ∧ OwnN (nds L) x.own ∧ Sta x w ∧ RS x w w' O ws0 ∧ (∀ k, O k → w.heap.size ≤ k) ∧ Below w.heap.size w w'
set_option maxRecDepth 100000 in
set_option maxHeartbeats 1000000 in
theorem newRecords_any (a : Option Addr) (n c tb fb : Nat) (L : List (Nv × Nod)) (fm : Fm) (w : World) (hN : Ns w a n L) (hc : n ≤ c) (hcm : c ≤ 9223372036854775807) (hT : Tb w tb ent) (htb : tb < w.heap.size) (hF : MpF w fb fm) (ht : Tn L) :
  Calls Tryz.prog 16 #[.pointer (some ⟨tb, 0, none⟩), .slice a n c, .map (some fb)] w (RAns a n c tb fb L fm w) := by
 have hl := hN.1
 have hwf : ∀ p ∈ L, (0 ≤ p.2.uid ∧ p.2.uid ≤ 65535) ∧ (0 ≤ p.2.gid ∧ p.2.gid ≤ 65535) := fun p hp => by
  have h1 := ht.may p.2 (List.mem_map.2 ⟨p, hp, rfl⟩)
  unfold Tre.may at h1
  simp only [Bool.and_eq_true] at h1
  have h2 := h1.1.1.2
  unfold attrOk at h2
  simp only [decide_eq_true_eq] at h2
  exact h2.2
 have hWf : Wf L := fun p hp => by
  have h1 := hwf p hp
  have h2 := hN.2.1 p hp
  rw [h2.uid, h2.gid] at h1
  exact ⟨WalkArith.wf_i64 (by omega), WalkArith.wf_i64 (by omega)⟩
 have HID := hide (fun (w' : World) (h' : Below w.heap.size w w') => IDs_any a n c L w' (hN.below h') (by have := ht.n40; omega) hWf)
 have HN := hide hN
 have HT := hide hT
 have HF := hide hF
 have Ht := hide ht
 have HWf := hide hWf
 have Hwf := hide hwf
 have mk : ∀ w' : World, (Instr.makeMap 59 none).run Tryz.prog w' = .ok (.map (some w'.heap.size)) (w'.alloc (.map #[] 0)) := fun w' => by simp [Instr.makeMap, Result.andThen]
 have HNew := hide (metaNew_any tb)
 clear hN hT hF ht hwf hWf
 go_enter Tryz.func16, Tryz.ntmps16
 go_wp2_with fail
 refine (HNew.out w).mono ?_
 rintro r w1 ⟨rfl, hM1, hb1, hs1⟩
 obtain ⟨px, hpx⟩ : ∃ px, px = w.heap.size := ⟨_, rfl⟩
 rw [← hpx] at hM1 ⊢
 have HM1 := hide hM1
 have HB1 := hide hb1
 have HPx := hide hpx
 clear hM1 hb1 hpx hs1
 go_wp2_with fail
 refine (HID.out w1 HB1.out).mono ?_
 rintro r w2 ⟨v, R, rfl, hO2, hR2, hb2⟩
 obtain ⟨oa, oc, rfl⟩ := owns_shape hO2
 have HO2 := hide hO2
 have HR2 := hide hR2
 have HB2 := hide hb2
 generalize hRl : R.length = rl at *
 have HRl := hide hRl
 clear hO2 hR2 hb2 HID hRl
 go_wp2_with fail
 refine (HNew.out w2).mono ?_
 rintro r w3 ⟨rfl, hM3, hb3, hs3⟩
 obtain ⟨pi, hpi⟩ : ∃ pi, pi = w2.heap.size := ⟨_, rfl⟩
 rw [← hpi] at hM3 ⊢
 have HM3 := hide hM3
 have HB3 := hide hb3
 have HPi := hide hpi
 have HS3 := hide hs3
 clear hM3 hb3 hpi hs3
 go_wp2_with fail
 refine (HNew.out w3).mono ?_
 rintro r w4 ⟨rfl, hM4, hb4, hs4⟩
 obtain ⟨pd, hpd⟩ : ∃ pd, pd = w3.heap.size := ⟨_, rfl⟩
 rw [← hpd] at hM4 ⊢
 have HM4 := hide hM4
 have HB4 := hide hb4
 have HPd := hide hpd
 clear hM4 hb4 hpd hs4
 have HOn := hide (onceInto_any px w4)
 go_wp2_with fail
 refine HOn.out.mono ?_
 rintro r w5 ⟨rfl, hb5, hs5, k1, k2, k3⟩
 obtain ⟨b1, hb1⟩ : ∃ b1, b1 = w4.heap.size + 2 := ⟨_, rfl⟩
 obtain ⟨b2, hb2⟩ : ∃ b2, b2 = w4.heap.size := ⟨_, rfl⟩
 obtain ⟨mx, hmx⟩ : ∃ mx, mx = w4.heap.size + 1 := ⟨_, rfl⟩
 rw [← hb1, ← hmx] at k1
 rw [← hb2] at k2
 rw [← hmx] at k3
 rw [← hb1, ← hb2]
 have K1 := hide k1
 have K2 := hide k2
 have K3 := hide k3
 have HB5 := hide hb5
 have HEq : Hid (b1 = w4.heap.size + 2 ∧ b2 = w4.heap.size ∧ mx = w4.heap.size + 1 ∧ w5.heap.size = w4.heap.size + 3) := ⟨hb1, hb2, hmx, hs5⟩
 clear k1 k2 k3 hb5 hs5 hb1 hb2 hmx HOn
 go_wp2
 go_ret
 obtain ⟨e1, e2, e3, e4⟩ := HEq.out
 have f1 := HPx.out
 have f2 := HPi.out
 have f3 := HPd.out
 have z1 := HB1.out.size
 have z2 := HB2.out.size
 have z3 := HS3.out
 have z4 := HB4.out.size
 have hp1 := HM1.out.lt.1
 have hp3 := HM3.out.lt.1
 have hp4 := HM4.out.lt.1
 obtain ⟨t1, t2, t3⟩ := two_boxes w5 (.map #[] 0) (.cells (rcv ⟨a, n, c, fb, oa, rl, oc, pi, pd, px, w5.heap.size, mx, b1, b2, w5.heap.size + 1, tb, L, R, fm⟩) 61)
 obtain ⟨w6, hw6⟩ : ∃ w6, w6 = (w5.alloc (.map #[] 0)).alloc (.cells (rcv ⟨a, n, c, fb, oa, rl, oc, pi, pd, px, w5.heap.size, mx, b1, b2, w5.heap.size + 1, tb, L, R, fm⟩) 61) := ⟨_, rfl⟩
 have hMr : MpR w6 w5.heap.size (nds L) [] := (MpR.new w5 (nds L)).same (by rw [hw6]; exact Below.heap_alloc _ _ _ (by simp))
 rw [← hw6] at t1 t2 t3
 have eW : (w5.alloc (.map #[] 0)).alloc (Obj.cells #[.slice a n c, .map (some fb), .slice oa rl oc, .pointer (some ⟨pi, 0, none⟩), .pointer (some ⟨pd, 0, none⟩), .pointer (some ⟨px, 0, none⟩), .func (.func 90) #[] #[.pointer (some ⟨b1, 0, none⟩), .pointer (some ⟨b2, 0, none⟩)], .map (some w5.heap.size)] 61) = w6 := by rw [hw6]; rfl
 rw [eW]
 have hRn := own_of HWf.out (fun p hp => ⟨(HN.out.2.1 p hp).uid, (HN.out.2.1 p hp).gid⟩) HR2.out
 have hRln := own_len hRn
 rw [nds_length] at hRln
 have hR64 : ∀ y ∈ R, In64 y := fun y hy => by
  obtain ⟨m, hm, hx⟩ := (hRn.2 y).1 hy
  obtain ⟨p, hp, rfl⟩ := List.mem_map.1 hm
  have := Hwf.out p hp
  rcases hx with rfl | rfl <;> exact ⟨by omega, by omega⟩
 have b46 : Below w4.heap.size w4 w6 := HB5.out.trans (t1.mono HB5.out.size)
 have b36 : Below w3.heap.size w3 w6 := HB4.out.trans (b46.mono HB4.out.size)
 have b26 : Below w2.heap.size w2 w6 := HB3.out.trans (b36.mono HB3.out.size)
 have b16 : Below w1.heap.size w1 w6 := HB2.out.trans (b26.mono HB2.out.size)
 have b06 : Below w.heap.size w w6 := HB1.out.trans (b16.mono HB1.out.size)
 have hO6 := owns_below HO2.out b26
 have hcap := Dir.cap_own hO6
 have hob : ∀ a', oa = some a' → w1.heap.size ≤ a'.block ∧ a'.block < w2.heap.size ∧ (∃ cur, w2.heap[a'.block]? = some (.cells cur 3 (0, 0))) := fun a' ha => by
  have hk : (Value.slice oa rl oc).ownBlock = some a'.block := by rw [ha]; rfl
  exact ⟨(HO2.out.lt _ hk).1, (HO2.out.lt _ hk).2, owns_obj HO2.out hk⟩
 refine ⟨⟨a, n, c, fb, oa, rl, oc, pi, pd, px, w5.heap.size, mx, b1, b2, w5.heap.size + 1, tb, L, R, fm⟩, Ou ⟨a, n, c, fb, oa, rl, oc, pi, pd, px, w5.heap.size, mx, b1, b2, w5.heap.size + 1, tb, L, R, fm⟩ (fun k => k = pi) (fun k => k = pd) (fun k => k = px), rfl, rfl, rfl, rfl, rfl, hRn, ?_, ⟨_, _, _, rfl, ?_⟩, ?_, ?_⟩
 ·exact ⟨HN.out, hc, hcm, by have := Ht.out.n40; show n ≤ 40; omega, HF.out, HT.out, htb, fun i (hi : i < n) => Ht.out.ino i (by omega), Ht.out.uno, Ht.out.nod, Ht.out.can, Ht.out.may, Ht.out.deep, Ht.out.long, hRn.1, fun m hm => ⟨(hRn.2 _).2 ⟨m, hm, .inl rfl⟩, (hRn.2 _).2 ⟨m, hm, .inr rfl⟩⟩, HRl.out, hcap.1, hcap.2.1, by have h1 := Ht.out.n40; have h2 := HRl.out; show rl ≤ 80; omega, hR64⟩
 ·have nst : ∀ k, w.heap.size ≤ k → k ≠ w5.heap.size + 1 → k ≠ b1 → k ≠ b2 → (∀ a', oa = some a' → k ≠ a'.block) → ¬ Stc ⟨a, n, c, fb, oa, rl, oc, pi, pd, px, w5.heap.size, mx, b1, b2, w5.heap.size + 1, tb, L, R, fm⟩ w k := by
   rintro k h0 h1 h2 h3 h4 (hk | hk | hk | hk | ⟨a', ha, hk⟩)
   ·omega
   ·exact h1 hk
   ·exact h2 hk
   ·exact h3 hk
   ·exact h4 a' ha hk
  have g1 : ∀ a', oa = some a' → px ≠ a'.block ∧ pi ≠ a'.block ∧ pd ≠ a'.block ∧ w5.heap.size ≠ a'.block ∧ mx ≠ a'.block := fun a' ha => by
   obtain ⟨h1, h2, _⟩ := hob a' ha
   exact ⟨by omega, by omega, by omega, by omega, by omega⟩
  refine ⟨b06, t3, (t1.block _ (heap_lt K1.out)).trans K1.out, (t1.block _ (heap_lt K2.out)).trans K2.out, Zs.of hO6, fun a' ha => ?_, ?_, ?_, ?_, hMr, K3.out.same (t1.block _ K3.out.lt), ?_, ?_, ?_, ?_, ?_, ?_⟩
  ·have := (hob a' ha).2.1; have := b26.size; omega
  ·exact HM3.out.below b36
  ·exact HM4.out.below b46
  ·exact HM1.out.below b16
  ·rintro k rfl
   exact ⟨nst _ (by omega) (by omega) (by omega) (by omega) (fun a' ha => (g1 a' ha).2.1), fun (h : k = pd) => by omega, fun (h : k = px) => by omega, by show k ≠ w5.heap.size; omega, by show k ≠ mx; omega⟩
  ·rintro k rfl
   exact ⟨nst _ (by omega) (by omega) (by omega) (by omega) (fun a' ha => (g1 a' ha).2.2.1), fun (h : k = px) => by omega, by show k ≠ w5.heap.size; omega, by show k ≠ mx; omega⟩
  ·rintro k rfl
   exact ⟨nst _ (by omega) (by omega) (by omega) (by omega) (fun a' ha => (g1 a' ha).1), by show k ≠ w5.heap.size; omega, by show k ≠ mx; omega⟩
  ·exact nst w5.heap.size (by omega) (by omega) (by omega) (by omega) (fun a' ha => (g1 a' ha).2.2.2.1)
  ·exact nst mx (by omega) (by omega) (by omega) (by omega) (fun a' ha => (g1 a' ha).2.2.2.2)
  ·show w5.heap.size ≠ mx; omega
 ·rintro k (hk | hk | hk | hk | hk)
  ·have : k = pi := hk; omega
  ·have : k = pd := hk; omega
  ·have : k = px := hk; omega
  ·have : k = w5.heap.size := hk; omega
  ·have : k = mx := hk; omega
 ·exact b06
end Go.Proofs.YtoohanojfoichaaGreatDoor

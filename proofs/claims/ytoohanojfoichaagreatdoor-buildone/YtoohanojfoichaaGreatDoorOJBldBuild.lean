import Derived.Test.YtoohanojfoichaaGreatDoorOBldRecs
import Derived.Test.YtoohanojfoichaaGreatDoorOBldCont
import Derived.Test.YtoohanojfoichaaGreatDoorOSupTake2
import Derived.Test.YtoohanojfoichaaGreatDoorOTreOpen
set_option linter.unusedVariables false
namespace Go.Proofs.YtoohanojfoichaaGreatDoor
open Go.RowKit Go.Maps
open Lz (g)
open Crc (ent)
open Frm Mtr Tre Nam Tab Bld
namespace Bld
def bk (l : List Nod) : List Int × List Int := plc (cont l l.length).b (cont l l.length).s.1 (cont l l.length).b.length
def wq (l : List Nod) (own : List Int) : Ws × Nat := wr l own (cont l l.length).m 17 0 ws0
def y1 (l : List Nod) : List Int := (bk l).1
def y2 (l : List Nod) (own : List Int) : List Int := done ent (wq l own).1.I
def y3 (l : List Nod) (own : List Int) : List Int := done ent (wq l own).1.D
def y4 (l : List Nod) : List Int := done ent (putN 4 (bk l).2).1
def y5 (own : List Int) : List Int := done ent (putN 2 own).1
def y6 (l : List Nod) (own : List Int) : List Int := done ent (wq l own).1.X
def sb0 (l : List Nod) (own : List Int) : Sup.Sb := ⟨0, ((wq l own).1.R.length : Nat), 0, 0, 0, 0, 0, (own.length : Nat), ((cont l l.length).b.length : Nat), ((wq l own).2 : Nat)⟩
def isz (l : List Nod) (own : List Int) : Nat := 64 + ((y1 l).length + (y2 l own).length + (y3 l own).length + (y4 l).length + (y5 own).length + (y6 l own).length)
def isb (l : List Nod) (own : List Int) : Sup.Sb := sbl (sb0 l own) (y1 l).length (y2 l own).length (y3 l own).length (y4 l).length (y5 own).length (y6 l own).length
def im (l : List Nod) (own : List Int) : List Int := fst64 (isb l own) ++ (y1 l ++ (y2 l own ++ (y3 l own ++ (y4 l ++ (y5 own ++ y6 l own)))))
end Bld
theorem tn_of {L L' : List (Nv × Nod)} (h0 : check (nds L) = 0) (hc : IsCanon (nds L) (nds L')) (hn : L.length ≤ 40) : Tn L' := by
 have hF := canF h0 hc
 obtain ⟨k1, k2, k3, k4, k5, k6, k7, k8⟩ := check_zero (canon_check h0 hc)
 have hlen : L'.length = L.length := by have := hF.len; rw [nds_length, nds_length] at this; exact this
 have hpos : 0 < L'.length := by have := hF.pos; rw [nds_length] at this; exact this
 refine ⟨hpos, by omega, fun i hi => ?_, fun i j hi hj e hk => ?_, k4, canP hF, fun n hn => List.all_eq_true.1 k7 n hn, fun n hn => ?_, fun n hn s hs => ?_⟩
 ·have h1 := hF.ino i (by rw [nds_length]; exact hi)
  have h2 := hF.top i (by rw [nds_length]; omega)
  exact WalkArith.wf_i64 (by omega)
 ·rcases Nat.lt_trichotomy i j with c | c | c
  ·have := List.pairwise_iff_getElem.1 k8 i j hi hj c
   rw [← gn_lt _ _ hi, ← gn_lt _ _ hj] at this
   obtain ⟨h1, h2⟩ := this e
   exact absurd (((alike_iff _ _).1 h2).1 ▸ hk) h1
  ·exact c
  ·have := List.pairwise_iff_getElem.1 k8 j i hj hi c
   rw [← gn_lt _ _ hi, ← gn_lt _ _ hj] at this
   exact absurd hk (this e.symm).1
 ·have := List.any_eq_false.1 k3 n hn
  unfold deep at this
  simpa using this
 ·have h1 := fv_zero _ (wrong_zero _ k2 n hn) s hs
  have h2 := (valid_zero h1).1
  rw [toList_length] at h2
  exact h2
theorem may_data {n : Nod} (h : Tre.may n = true) : n.data.length ≤ 4096 := by
 unfold Tre.may at h
 simp only [Bool.and_eq_true] at h
 have h1 := h.1.1.1
 unfold kdOk at h1
 split at h1
 ·simp only [Bool.and_eq_true, decide_eq_true_eq] at h1; omega
 ·split at h1
  ·simp only [Bool.and_eq_true, decide_eq_true_eq] at h1; omega
  ·split at h1
   ·simp only [Bool.and_eq_true, decide_eq_true_eq] at h1; omega
   ·simp at h1
theorem load_sb {w : World} {b t : Nat} {cs : Array Value} {fr : Nat × Nat} (h : w.heap[b]? = some (.cells cs t fr)) (hs : cs.size = 10) : (loadVar 35 ⟨b, 0, none⟩).run Tryz.prog w = .ok (.agg cs) w :=
 run_loadVar_row w b t 35 cs fr _ h Tryz.underlying35 rfl (by rw [hs]; exact infoSb)
theorem plc_in (B : Frg.Bl) (hk : Frg.Ok B) (t : List Int) : ∀ k, k ≤ B.length → ∀ y ∈ (plc B t k).2, 0 ≤ y ∧ y ≤ ((64 + t.length + 135 * k : Nat) : Int)
 | 0, _, y, hy => by simp [Bld.plc] at hy
 | k + 1, h, y, hy => by
  rw [Bld.plc] at hy
  simp only [List.mem_append, List.mem_singleton] at hy
  rcases hy with hy | rfl
  ·have := plc_in B hk t k (by omega) y hy; omega
  ·have := (plc_len B hk t k (by omega)).1; omega
theorem done_le (z : List Int) : (done ent z).length ≤ 135 * ((z.length + 127) / 128) := fr_length ent z _
def BAns (L : List (Nv × Nod)) (w : World) (e : Ending) (w' : World) : Prop :=
  (check (nds L) ≠ 0 ∧ e = .returned (.tuple #[.slice none 0 0, .int .i64 (check (nds L))]) ∧ Below w.heap.size w w') ∨
  (check (nds L) = 0 ∧ ∃ l own, IsCanon (nds L) l ∧ OwnN l own ∧ Below w.heap.size w w' ∧
    ((1048576 < isz l own ∧ e = .returned (.tuple #[.slice none 0 0, .int .i64 3])) ∨
     (isz l own ≤ 1048576 ∧ ∃ ib, e = .returned (.tuple #[.slice (some ⟨ib, 0, none⟩) (isz l own) (isz l own), .int .i64 0]) ∧ w.heap.size ≤ ib ∧ w'.heap[ib]? = some (.cells (bv (im l own)).toArray 5 (0, 0)) ∧ Bytes (im l own))))
set_option maxRecDepth 100000 in
set_option maxHeartbeats 4000000 in
theorem Build_any (a : Option Addr) (n c : Nat) (L : List (Nv × Nod)) (w : World) (hN : Ns w a n L) (hc : n ≤ c) (hcm : c ≤ 9223372036854775807) (hn : n ≤ 40) (hW : Wid w) :
  Calls Tryz.prog 7 #[.slice a n c] w (BAns L w) := by
 have hl := hN.1
 by_cases h0 : check (nds L) = 0
 ·have HC := hide (Canon_ok a n c L w hN hc hcm h0)
  have HW := hide hW
  have H0 := hide h0
  clear hN h0 hW
  go_enter Tryz.func7, Tryz.ntmps7
  go_wp2_with fail
  refine HC.out.mono ?_
  rintro r w1 ⟨blk, L', rfl, hO1, hG1, hI1, hb1⟩
  have hN1 : Ns w1 (some ⟨blk, 0, none⟩) n L' := (sh_of_owns hO1).ns (fun p hp => (hG1 p hp).rep)
  have hl1 := hN1.1
  have ht := tn_of H0.out hI1 (by omega)
  have HN1 := hide hN1
  have HTn := hide ht
  have HI1 := hide hI1
  have HB1 := hide hb1
  clear hO1 hG1 hI1 hb1 hN1 ht HC
  go_wp2_with fail
  refine (New_any w1).mono ?_
  rintro r w2 ⟨rfl, hb2⟩
  obtain ⟨C, hC⟩ : ∃ C, C = tab ent := ⟨_, rfl⟩
  rw [← hC]
  have HCt := hide hC
  have HB2 := hide hb2
  clear hC hb2
  go_wp2_with (refine wpList_store_table rfl _ _ rfl ent C HCt.out rfl rfl _ (by simp) ?_; intro w3 ht3 hT3 hlt3 hb3)
  obtain ⟨tb, htb⟩ : ∃ tb, tb = w2.heap.size := ⟨_, rfl⟩
  rw [← htb] at hT3 hlt3 ⊢
  have b13 : Below w1.heap.size w1 w3 := HB2.out.trans (hb3.mono HB2.out.size)
  have HT3 := hide hT3
  have HB13 := hide b13
  clear ht3 hT3 hb3 HCt b13 htb HB2
  have HCo := hide (cont_any (some ⟨blk, 0, none⟩) n n tb L' w3 (HN1.out.below HB13.out) HT3.out hlt3 hn (fun p hp => (may_data (HTn.out.may p.2 (List.mem_map.2 ⟨p, hp, rfl⟩)))) (fun p hp => by
   obtain ⟨j, hj, rfl⟩ := List.getElem_of_mem hp
   have := HTn.out.ino j hj
   rw [gn_nds L' j hj, gl_lt L' j hj] at this
   exact this))
  unfold CAns at HCo
  obtain ⟨l, hle⟩ : ∃ l, l = nds L' := ⟨_, rfl⟩
  rw [← hle] at HCo
  have eb : plc (cont l l.length).b (cont l l.length).s.1 (cont l l.length).b.length = bk l := rfl
  rw [eb] at HCo
  have hCI := cont_inv l l.length
  have hpl := plc_len (cont l l.length).b hCI.ok (cont l l.length).s.1 (cont l l.length).b.length (Nat.le_refl _)
  rw [eb] at hpl
  have hll : l.length = n := by rw [hle, nds_length]; exact hl1
  have hbw : sm (bw l) l.length ≤ 4320 * l.length := sm_const l.length (fun k hk => by
   have := may_data (HTn.out.may (gn l k) (by rw [gn_lt _ _ hk, ← hle]; exact List.getElem_mem hk))
   unfold bw; omega)
  have hbl : (cont l l.length).b.length ≤ 40 := by have := hCI.b; omega
  have hy1 : (bk l).1.length ≤ 400000 := by have := hCI.s1; omega
  have hy12 := hpl.2
  have HBk := hide hbl
  have HY1 := hide hy1
  have HY12 := hide hy12
  have HLe := hide hle
  have HLl := hide hll
  have HBw := hide hbw
  clear eb hpl hCI hbw hbl hy1 hy12 hle hll
  go_wp2_with fail
  refine HCo.out.mono ?_
  rintro r w4 ⟨bo, bc, po, pc, fb, rfl, hB4, hnil4, hZ4, hF4, hb4⟩
  obtain ⟨yl, hyl⟩ : ∃ yl, yl = (bk l).1.length := ⟨_, rfl⟩
  obtain ⟨bl, hbl⟩ : ∃ bl, bl = (cont l l.length).b.length := ⟨_, rfl⟩
  rw [← hyl] at hB4
  rw [← hbl] at hZ4
  rw [← hyl, ← hbl]
  have HYl := hide hyl
  have HBl := hide hbl
  have b14 : Below w1.heap.size w1 w4 := HB13.out.trans (hb4.mono HB13.out.size)
  obtain ⟨w5, hw5⟩ : ∃ w5, w5 = w4.alloc (.cells #[.slice bo yl bc, .slice po bl pc, .map (some fb)] 52) := ⟨_, rfl⟩
  have hb5 : Below w4.heap.size w4 w5 := by rw [hw5]; exact (Below.refl _ w4).alloc (Nat.le_refl _) _
  have hp5 : w5.heap[w4.heap.size]? = some (.cells #[.slice bo yl bc, .slice po bl pc, .map (some fb)] 52 (0, 0)) := by rw [hw5]; exact heap_alloc_new _ _
  have b15 : Below w1.heap.size w1 w5 := b14.trans (hb5.mono b14.size)
  have hT5 : Tb w5 tb ent := (HT3.out.below hb4 hlt3).below hb5 (Nat.lt_of_lt_of_le hlt3 hb4.size)
  have hlt5 : tb < w5.heap.size := Nat.lt_of_lt_of_le hlt3 (Nat.le_trans hb4.size hb5.size)
  have HRc := hide (newRecords_any (some ⟨blk, 0, none⟩) n n tb fb L' (cont l l.length).m w5 (HN1.out.below b15) (Nat.le_refl _) (by omega) hT5 hlt5 (hF4.same (hb5.block _ hF4.lt)) HTn.out)
  have HB5 := hide (hB4.below hb5)
  have HZ5 := hide (hZ4.below hb5)
  have Hnil := hide hnil4
  have HB15 := hide b15
  have HT5 := hide hT5
  have HP5 := hide hp5
  have e2c : w5.cell? ⟨w4.heap.size, 2, none⟩ = some (.map (some fb)) := by simp [World.cell?, hp5]
  have HE5 : Hid (w4.alloc (.cells #[.slice bo yl bc, .slice po bl pc, .map (some fb)] 52) = w5) := hw5.symm
  obtain ⟨cb, hcb⟩ : ∃ cb, cb = w4.heap.size := ⟨_, rfl⟩
  have HCb := hide hcb
  clear hB4 hnil4 hZ4 hF4 hb4 hyl hbl b14 hw5 hb5 hp5 b15 hT5 hcb HCo HT3 HB13 HN1 hlt3
  go_upto_region 6 with fail
  rw [HE5.out]
  rw [← HCb.out] at e2c HP5 ⊢
  clear HE5 HCb
  go_wp2_with fail
  refine HRc.out.mono ?_
  rintro r w6 ⟨x, O, rfl, hxL, hxf, hxn, hxt, hxo, hSt, hRS, hOg, hb6⟩
  have HWr := hide (write_any x w5 hSt 17 0 O ws0 w6 (by rw [hxn]; have := HTn.out.pos; omega) hRS (wi0 _) (by omega))
  unfold WAns at HWr
  obtain ⟨own, hown⟩ : ∃ own, own = x.own := ⟨_, rfl⟩
  have eq : wr (nds x.L) x.own x.fm 17 0 ws0 = wq l own := by unfold wq; rw [hxL, hxf, ← HLe.out, hown]
  rw [eq] at HWr
  have hWI := wr_inv (l := nds x.L) (own := x.own) (fm := x.fm) hSt.uno 17 0 ws0 (by rw [nds_length, hSt.ns.1, hxn]; have := HTn.out.pos; omega) (wi0 _)
  rw [eq] at hWI
  have hIb : (wq l own).1.I.length ≤ 100000 := by have := hWI.bI; have := hSt.i_sum; omega
  have hDb : (wq l own).1.D.length ≤ 100000 := by have := hWI.bD hSt.nod; have := hSt.names_sum; omega
  have hXb : (wq l own).1.X.length ≤ 100000 := by have := hWI.bX; have := hSt.x_sum; omega
  have HRv := hide hWI.Rv
  have HOwn : Hid (OwnN l own) := by rw [hown, HLe.out]; exact hxo
  have HSt := hide hSt
  have HOe := hide hown
  clear hxL hxf hxo hSt hRS hOg hb6 hown eq hWI HRc
  obtain ⟨Q, hQ⟩ : ∃ Q, Q = wq l own := ⟨_, rfl⟩
  rw [← hQ] at HWr hIb hDb hXb HRv
  have HQ := hide hQ
  clear hQ e2c
  go_wp2_with fail
  refine HWr.out.mono ?_
  rintro r w7 ⟨rfl, O7, hR7, hF7, hG7⟩
  have hb7 := hR7.bel
  have HR7 := hide hR7
  have HB57 := hide hb7
  have hp7 := (hb7.block _ (heap_lt HP5.out)).trans HP5.out
  have HP7 := hide hp7
  have HLk : Hid (∀ wX, Below w7.heap.size w7 wX → wX.cell? ⟨x.rp, 7, none⟩ = some (.map (some x.mr)) ∧ wX.cell? ⟨x.rp, 2, none⟩ = some (.slice x.oa x.on x.oc) ∧ wX.cell? ⟨cb, 1, none⟩ = some (.slice po bl pc) ∧ (Builtin.len_ #[59] 3 #[.map (some x.mr)]).run Tryz.prog wX = .ok (.int .i64 (Q.1.R.length : Int)) wX) := fun wX hX => by
   have hRX := HR7.out.below hX
   have hpX := (hX.block _ (heap_lt HP7.out)).trans HP7.out
   refine ⟨by simp [World.cell?, hRX.rc, rcv], by simp [World.cell?, hRX.rc, rcv], by simp [World.cell?, hpX], ?_⟩
   obtain ⟨oi, od, ox, rfl, hRst⟩ := hRX
   exact hRst.mr.len 3
  clear hR7 hF7 hG7 hb7 hp7 HWr
  go_wp2_with fail
  have HD0 : Hid (Below w7.heap.size w7 w7.drew) := drewN_below w7 1
  have HD1 : Hid (∀ o, Below w7.heap.size w7 (w7.alloc o).drew) := fun o => ((Below.refl _ w7).alloc (Nat.le_refl _) o).trans (drewN_below _ 1)
  generalize hRl : Q.1.R.length = Rl at *
  go_region_held3 (fun wX => wX.cell? ⟨x.rp, 7, none⟩ = some (.map (some x.mr)) ∧ wX.cell? ⟨x.rp, 2, none⟩ = some (.slice x.oa x.on x.oc) ∧ wX.cell? ⟨cb, 1, none⟩ = some (.slice po bl pc) ∧ (Builtin.len_ #[59] 3 #[.map (some x.mr)]).run Tryz.prog wX = .ok (.int .i64 (Rl : Int)) wX) (exact HLk.out _ (by first | exact HD0.out | exact HD1.out _)) (fail)
  rename_i hHd
  clear hHd HLk HD0
  obtain ⟨SB, hSB⟩ : ∃ SB : Sup.Sb, SB = ⟨0, (Rl : Int), 0, 0, 0, 0, 0, (x.on : Int), (bl : Int), (Q.2 : Int)⟩ := ⟨_, rfl⟩
  obtain ⟨w8, hw8⟩ : ∃ w8, w8 = (w7.alloc (.cells (sbv SB) 35)).drew := ⟨_, rfl⟩
  have e8 : (w7.alloc (Obj.cells #[.int .i64 0, .int .i64 (Rl : Int), .int .i64 0, .int .i64 0, .int .i64 0, .int .i64 0, .int .i64 0, .int .i64 (x.on : Int), .int .i64 (bl : Int), .int .i64 (Q.2 : Int)] 35)).drew = w8 := by rw [hw8, hSB]; rfl
  rw [e8]
  have hb8 : Below w7.heap.size w7 w8 := by rw [hw8]; exact HD1.out _
  have hk8 : w8.heap[w7.heap.size]? = some (.cells (sbv SB) 35 (0, 0)) := by rw [hw8]; exact heap_alloc_new _ _
  obtain ⟨sk, hsk⟩ : ∃ sk, sk = w7.heap.size := ⟨_, rfl⟩
  rw [← hsk] at hk8 ⊢
  have hR8 := HR7.out.below hb8
  have hp8 := (hb8.block _ (heap_lt HP7.out)).trans HP7.out
  have b58 : Below w5.heap.size w5 w8 := HB57.out.trans (hb8.mono HB57.out.size)
  have HSk : Hid (∀ wX, Below w8.heap.size w8 wX → wX.heap[sk]? = some (.cells (sbv SB) 35 (0, 0))) := fun wX hX => (hX.block _ (heap_lt hk8)).trans hk8
  have HLd : Hid (∀ wX, Below w8.heap.size w8 wX → wX.cell? ⟨x.rp, 3, none⟩ = some (.pointer (some ⟨x.pi, 0, none⟩)) ∧ wX.cell? ⟨x.rp, 4, none⟩ = some (.pointer (some ⟨x.pd, 0, none⟩)) ∧ wX.cell? ⟨x.rp, 5, none⟩ = some (.pointer (some ⟨x.px, 0, none⟩)) ∧ wX.cell? ⟨x.rp, 2, none⟩ = some (.slice x.oa x.on x.oc) ∧ wX.cell? ⟨cb, 0, none⟩ = some (.slice bo yl bc) ∧ wX.cell? ⟨cb, 1, none⟩ = some (.slice po bl pc)) := fun wX hX => by
   have hRX := hR8.below hX
   have hpX := (hX.block _ (heap_lt hp8)).trans hp8
   exact ⟨by simp [World.cell?, hRX.rc, rcv], by simp [World.cell?, hRX.rc, rcv], by simp [World.cell?, hRX.rc, rcv], by simp [World.cell?, hRX.rc, rcv], by simp [World.cell?, hpX], by simp [World.cell?, hpX]⟩
  have b0s : Below w.heap.size w w5 := HB1.out.trans (HB15.out.mono HB1.out.size)
  obtain ⟨zA, hzA⟩ : ∃ z, z = y2 l own := ⟨_, rfl⟩
  obtain ⟨zB, hzB⟩ : ∃ z, z = y3 l own := ⟨_, rfl⟩
  obtain ⟨zC, hzC⟩ : ∃ z, z = y4 l := ⟨_, rfl⟩
  obtain ⟨zD, hzD⟩ : ∃ z, z = y5 own := ⟨_, rfl⟩
  obtain ⟨zE, hzE⟩ : ∃ z, z = y6 l own := ⟨_, rfl⟩
  obtain ⟨nA, hnA⟩ : ∃ k, k = zA.length := ⟨_, rfl⟩
  obtain ⟨nB, hnB⟩ : ∃ k, k = zB.length := ⟨_, rfl⟩
  obtain ⟨nC, hnC⟩ : ∃ k, k = zC.length := ⟨_, rfl⟩
  obtain ⟨nD, hnD⟩ : ∃ k, k = zD.length := ⟨_, rfl⟩
  obtain ⟨nE, hnE⟩ : ∃ k, k = zE.length := ⟨_, rfl⟩
  have HA : Hid (∀ wX, Below w8.heap.size w8 wX → Calls Tryz.prog 19 #[.pointer (some ⟨x.pi, 0, none⟩)] wX fun r w' => ∃ ao c, r = .returned (.slice ao nA c) ∧ Bs w' ao nA zA ∧ Below wX.heap.size wX w') := fun wX hX => by
   obtain ⟨oi, od, ox, e, hRst⟩ := hR8.below hX
   obtain ⟨t1, t2⟩ := hRst.tb HSt.out
   refine (metaDone_any x.pi x.tb oi ent Q.1.I wX hRst.wi t1 t2 small_ent hIb).mono ?_
   rintro r w' ⟨ao, c, rfl, hF⟩
   have ez : done ent Q.1.I = zA := by rw [hzA, HQ.out]; rfl
   rw [ez, ← hnA] at hF ⊢
   exact ⟨ao, c, rfl, hF.bs, hF.bel⟩
  have HB : Hid (∀ wX, Below w8.heap.size w8 wX → Calls Tryz.prog 19 #[.pointer (some ⟨x.pd, 0, none⟩)] wX fun r w' => ∃ ao c, r = .returned (.slice ao nB c) ∧ Bs w' ao nB zB ∧ Below wX.heap.size wX w') := fun wX hX => by
   obtain ⟨oi, od, ox, e, hRst⟩ := hR8.below hX
   obtain ⟨t1, t2⟩ := hRst.tb HSt.out
   refine (metaDone_any x.pd x.tb od ent Q.1.D wX hRst.wd t1 t2 small_ent hDb).mono ?_
   rintro r w' ⟨ao, c, rfl, hF⟩
   have ez : done ent Q.1.D = zB := by rw [hzB, HQ.out]; rfl
   rw [ez, ← hnB] at hF ⊢
   exact ⟨ao, c, rfl, hF.bs, hF.bel⟩
  have HE : Hid (∀ wX, Below w8.heap.size w8 wX → Calls Tryz.prog 19 #[.pointer (some ⟨x.px, 0, none⟩)] wX fun r w' => ∃ ao c, r = .returned (.slice ao nE c) ∧ Bs w' ao nE zE ∧ Below wX.heap.size wX w') := fun wX hX => by
   obtain ⟨oi, od, ox, e, hRst⟩ := hR8.below hX
   obtain ⟨t1, t2⟩ := hRst.tb HSt.out
   refine (metaDone_any x.px x.tb ox ent Q.1.X wX hRst.wx t1 t2 small_ent hXb).mono ?_
   rintro r w' ⟨ao, c, rfl, hF⟩
   have ez : done ent Q.1.X = zE := by rw [hzE, HQ.out]; rfl
   rw [ez, ← hnE] at hF ⊢
   exact ⟨ao, c, rfl, hF.bs, hF.bel⟩
  have h64 : ∀ y ∈ (bk l).2, In64 y := fun y hy => by
   have hCI := cont_inv l l.length
   have := plc_in (cont l l.length).b hCI.ok (cont l l.length).s.1 (cont l l.length).b.length (Nat.le_refl _) y hy
   have h2 := hCI.s1
   have h3 := HBw.out
   have h4 := hCI.b
   have h5 := HLl.out
   exact ⟨by omega, by omega⟩
  have HC : Hid (∀ wX, Below w8.heap.size w8 wX → Calls Tryz.prog 20 #[.pointer (some ⟨tb, 0, none⟩), .slice po bl pc, .int .i64 4] wX fun r w' => ∃ ao c, r = .returned (.slice ao nC c) ∧ Bs w' ao nC zC ∧ Below wX.heap.size wX w') := fun wX hX => by
   have b5X := b58.trans (hX.mono b58.size)
   refine (numbers_any tb po bl pc (bk l).2 4 wX (HT5.out.below b5X hlt5) (Nat.lt_of_lt_of_le hlt5 b5X.size) (HZ5.out.below b5X) (by have := HBk.out; have := HBl.out; omega) h64 ⟨by omega, by omega⟩).mono ?_
   rintro r w' ⟨ao, c, rfl, hF⟩
   have ez : done ent (putN 4 (bk l).2).1 = zC := by rw [hzC]; rfl
   rw [ez, ← hnC] at hF ⊢
   exact ⟨ao, c, rfl, hF.bs, hF.bel⟩
  have HD : Hid (∀ wX, Below w8.heap.size w8 wX → Calls Tryz.prog 20 #[.pointer (some ⟨tb, 0, none⟩), .slice x.oa x.on x.oc, .int .i64 2] wX fun r w' => ∃ ao c, r = .returned (.slice ao nD c) ∧ Bs w' ao nD zD ∧ Below wX.heap.size wX w') := fun wX hX => by
   have b5X := b58.trans (hX.mono b58.size)
   have hz : Zs wX x.oa x.on x.own := by obtain ⟨oi, od, ox, e, hRst⟩ := hR8.below hX; exact hRst.ow
   refine (numbers_any tb x.oa x.on x.oc x.own 2 wX (HT5.out.below b5X hlt5) (Nat.lt_of_lt_of_le hlt5 b5X.size) hz (by have := HSt.out.on8; omega) HSt.out.i64 ⟨by omega, by omega⟩).mono ?_
   rintro r w' ⟨ao, c, rfl, hF⟩
   have ez : done ent (putN 2 x.own).1 = zD := by rw [hzD, HOe.out]; rfl
   rw [ez, ← hnD] at hF ⊢
   exact ⟨ao, c, rfl, hF.bs, hF.bel⟩
  have HJn : Hid (∀ wX, Below w8.heap.size w8 wX → ∀ oA oB oC oD oE cA cB cC cD cE, Bs wX oA nA zA → Bs wX oB nB zB → Bs wX oC nC zC → Bs wX oD nD zD → Bs wX oE nE zE → Calls Tryz.prog 18 #[.pointer (some ⟨tb, 0, none⟩), .agg (sbv SB), .agg #[.slice bo yl bc, .slice oA nA cA, .slice oB nB cB, .slice oC nC cC, .slice oD nD cD, .slice oE nE cE]] wX (JAns SB (y1 l) zA zB zC zD zE wX)) := fun wX hX oA oB oC oD oE cA cB cC cD cE bA bB bC bD bE => by
   have b5X := b58.trans (hX.mono b58.size)
   have b0X := b0s.trans (b5X.mono b0s.size)
   have g1 := done_le Q.1.I
   have g2 := done_le Q.1.D
   have g3 := done_le Q.1.X
   have g4 := done_le (putN 4 (bk l).2).1
   have g5 := done_le (putN 2 own).1
   have g6 := putN_len 4 (bk l).2
   have g7 := putN_len 2 own
   have g8 := own_len HOwn.out
   have g9 := HLl.out
   have g10 := HBk.out
   have g11 := HY12.out
   have a1 : nA = (done ent Q.1.I).length := by rw [hnA, hzA, HQ.out]; rfl
   have a2 : nB = (done ent Q.1.D).length := by rw [hnB, hzB, HQ.out]; rfl
   have a3 : nE = (done ent Q.1.X).length := by rw [hnE, hzE, HQ.out]; rfl
   have a4 : nC = (done ent (putN 4 (bk l).2).1).length := by rw [hnC, hzC]; rfl
   have a5 : nD = (done ent (putN 2 own).1).length := by rw [hnD, hzD]; rfl
   exact join_any tb SB bo oA oB oC oD oE yl nA nB nC nD nE bc cA cB cC cD cE (y1 l) zA zB zC zD zE wX (HT5.out.below b5X hlt5) (Nat.lt_of_lt_of_le hlt5 b5X.size) (HW.out.below b0X HW.out.pos) (HB5.out.below b5X) bA bB bC bD bE (by have := HY1.out; have := HYl.out; omega) (by omega) (by omega) (by omega) (by omega) (by omega)
  have HFin : Hid (∀ wX, Below w8.heap.size w8 wX → ∀ W2 r, JAns SB (y1 l) zA zB zC zD zE wX r W2 → ∃ rv, r = .returned rv ∧ (Below w8.heap.size w8 W2 ∧ BAns L w (.returned rv) W2) ∧ ∃ v1 v2, rv = .tuple #[v1, v2]) := fun wX hX W2 r hJ => by
   have b5X := b58.trans (hX.mono b58.size)
   have b0X := b0s.trans (b5X.mono b0s.size)
   have hS : SB = sb0 l own := by
    rw [hSB]; unfold sb0
    rw [← HQ.out, hRl, ← HBl.out, HOe.out, HSt.out.onl]
   have hc : IsCanon (nds L) l := by rw [HLe.out]; exact HI1.out
   have hsz : 64 + ((y1 l).length + zA.length + zB.length + zC.length + zD.length + zE.length) = isz l own := by rw [hzA, hzB, hzC, hzD, hzE]; rfl
   unfold JAns at hJ
   rw [hsz] at hJ
   rcases hJ with ⟨h1, rfl, hb⟩ | ⟨h1, ib, rfl, hib, hh, hBy, hb⟩
   ·exact ⟨_, rfl, ⟨hX.trans (hb.mono hX.size), .inr ⟨H0.out, l, own, hc, HOwn.out, b0X.trans (hb.mono b0X.size), .inl ⟨h1, rfl⟩⟩⟩, _, _, rfl⟩
   ·refine ⟨_, rfl, ⟨hX.trans (hb.mono hX.size), .inr ⟨H0.out, l, own, hc, HOwn.out, b0X.trans (hb.mono b0X.size), .inr ⟨h1, ib, rfl, Nat.le_trans b0X.size hib, ?_, ?_⟩⟩⟩, _, _, rfl⟩
    ·rw [hh, hS, hzA, hzB, hzC, hzD, hzE]
     rfl
    ·rw [hS, hzA, hzB, hzC, hzD, hzE] at hBy
     exact hBy
  clear hSB hw8 e8 hb8 hk8 hsk hR8 hp8 b58 hzA hzB hzC hzD hzE hnA hnB hnC hnD hnE h64 b0s hRl HD1 HR7 HB57 HP7 HP5 HZ5
  go_wp2_with fail
  refine wp_region_held_drew (S := fun wX => Below w8.heap.size w8 wX) (by kernel_rfl) (Below.refl _ _).drew (fun hHeld => ?_)
  refine wpAnyH_take (i := 0) (oi := ⟨some 43, _, _, _, _, _⟩) (v := .agg (sbv SB)) rfl (by kernel_rfl) (by kernel_rfl) (by kernel_rfl) (fun _ _ _ h => h) (yieldsIf_load_row (by rfl) _ _ rfl sk rfl (sbv SB) (fun w' h' => load_sb (HSk.out w' h') rfl)) (by assumption) ?_
  try simp only [Act.put, List.setIfInBounds_toArray, List.set_cons_zero, List.set_cons_succ]
  refine wpAnyH_take (i := 1) (oi := ⟨some 44, _, _, _, _, _⟩) (v := ?_) rfl (by kernel_rfl) (by kernel_rfl) (by kernel_rfl) (fun _ _ _ h => h) (Or.inl ⟨by rfl, ?_⟩) (by assumption) ?_
  rotate_left
  ·(intro w hSw; go_simp; try with_reducible rfl)
  try simp only [Act.put, List.setIfInBounds_toArray, List.set_cons_zero, List.set_cons_succ]
  refine wpAnyH_take (i := 2) (oi := ⟨some 45, _, _, _, _, _⟩) (v := ?_) rfl (by kernel_rfl) (by kernel_rfl) (by kernel_rfl) (fun _ _ _ h => h) (Or.inl ⟨by rfl, ?_⟩) (by assumption) ?_
  rotate_left
  ·(intro w hSw; obtain ⟨r3, r4, r5, r2, s0, s1⟩ := HLd.out w hSw; go_simp; try with_reducible rfl)
  try simp only [Act.put, List.setIfInBounds_toArray, List.set_cons_zero, List.set_cons_succ]
  refine wpAnyH_take (i := 3) (oi := ⟨some 46, _, _, _, _, _⟩) (v := ?_) rfl (by kernel_rfl) (by kernel_rfl) (by kernel_rfl) (fun _ _ _ h => h) (Or.inl ⟨by rfl, ?_⟩) (by assumption) ?_
  rotate_left
  ·(intro w hSw; go_simp; try with_reducible rfl)
  try simp only [Act.put, List.setIfInBounds_toArray, List.set_cons_zero, List.set_cons_succ]
  refine wpAnyH_take (i := 4) (oi := ⟨some 47, _, _, _, _, _⟩) (v := ?_) rfl (by kernel_rfl) (by kernel_rfl) (by kernel_rfl) (fun _ _ _ h => h) (Or.inl ⟨by rfl, ?_⟩) (by assumption) ?_
  rotate_left
  ·(intro w hSw; go_simp; try with_reducible rfl)
  try simp only [Act.put, List.setIfInBounds_toArray, List.set_cons_zero, List.set_cons_succ]
  refine wpAnyH_take (i := 5) (oi := ⟨some 48, _, _, _, _, _⟩) (v := ?_) rfl (by kernel_rfl) (by kernel_rfl) (by kernel_rfl) (fun _ _ _ h => h) (Or.inl ⟨by rfl, ?_⟩) (by assumption) ?_
  rotate_left
  ·(intro w hSw; go_simp; try with_reducible rfl)
  try simp only [Act.put, List.setIfInBounds_toArray, List.set_cons_zero, List.set_cons_succ]
  refine wpAnyH_take (i := 6) (oi := ⟨some 49, _, _, _, _, _⟩) (v := ?_) rfl (by kernel_rfl) (by kernel_rfl) (by kernel_rfl) (fun _ _ _ h => h) (Or.inl ⟨by rfl, ?_⟩) (by assumption) ?_
  rotate_left
  ·(intro w hSw; obtain ⟨r3, r4, r5, r2, s0, s1⟩ := HLd.out w hSw; go_simp; try with_reducible rfl)
  try simp only [Act.put, List.setIfInBounds_toArray, List.set_cons_zero, List.set_cons_succ]
  refine wpAnyH_take (i := 8) (oi := ⟨some 51, _, _, _, _, _⟩) (v := ?_) rfl (by kernel_rfl) (by kernel_rfl) (by kernel_rfl) (fun _ _ _ h => h) (Or.inl ⟨by rfl, ?_⟩) (by assumption) ?_
  rotate_left
  ·(intro w hSw; go_simp; try with_reducible rfl)
  try simp only [Act.put, List.setIfInBounds_toArray, List.set_cons_zero, List.set_cons_succ]
  refine wpAnyH_take (i := 9) (oi := ⟨some 52, _, _, _, _, _⟩) (v := ?_) rfl (by kernel_rfl) (by kernel_rfl) (by kernel_rfl) (fun _ _ _ h => h) (Or.inl ⟨by rfl, ?_⟩) (by assumption) ?_
  rotate_left
  ·(intro w hSw; go_simp; try with_reducible rfl)
  try simp only [Act.put, List.setIfInBounds_toArray, List.set_cons_zero, List.set_cons_succ]
  refine wpAnyH_take (i := 10) (oi := ⟨some 53, _, _, _, _, _⟩) (v := ?_) rfl (by kernel_rfl) (by kernel_rfl) (by kernel_rfl) (fun _ _ _ h => h) (Or.inl ⟨by rfl, ?_⟩) (by assumption) ?_
  rotate_left
  ·(intro w hSw; go_simp; try with_reducible rfl)
  try simp only [Act.put, List.setIfInBounds_toArray, List.set_cons_zero, List.set_cons_succ]
  refine wpAnyH_take (i := 11) (oi := ⟨some 54, _, _, _, _, _⟩) (v := ?_) rfl (by kernel_rfl) (by kernel_rfl) (by kernel_rfl) (fun _ _ _ h => h) (Or.inl ⟨by rfl, ?_⟩) (by assumption) ?_
  rotate_left
  ·(intro w hSw; obtain ⟨r3, r4, r5, r2, s0, s1⟩ := HLd.out w hSw; go_simp; try with_reducible rfl)
  try simp only [Act.put, List.setIfInBounds_toArray, List.set_cons_zero, List.set_cons_succ]
  refine wpAnyH_take (i := 13) (oi := ⟨some 56, _, _, _, _, _⟩) (v := ?_) rfl (by kernel_rfl) (by kernel_rfl) (by kernel_rfl) (fun _ _ _ h => h) (Or.inl ⟨by rfl, ?_⟩) (by assumption) ?_
  rotate_left
  ·(intro w hSw; go_simp; try with_reducible rfl)
  try simp only [Act.put, List.setIfInBounds_toArray, List.set_cons_zero, List.set_cons_succ]
  refine wpAnyH_take (i := 14) (oi := ⟨some 57, _, _, _, _, _⟩) (v := ?_) rfl (by kernel_rfl) (by kernel_rfl) (by kernel_rfl) (fun _ _ _ h => h) (Or.inl ⟨by rfl, ?_⟩) (by assumption) ?_
  rotate_left
  ·(intro w hSw; obtain ⟨r3, r4, r5, r2, s0, s1⟩ := HLd.out w hSw; go_simp; try with_reducible rfl)
  try simp only [Act.put, List.setIfInBounds_toArray, List.set_cons_zero, List.set_cons_succ]
  refine wpAnyH_take (i := 16) (oi := ⟨some 59, _, _, _, _, _⟩) (v := ?_) rfl (by kernel_rfl) (by kernel_rfl) (by kernel_rfl) (fun _ _ _ h => h) (Or.inl ⟨by rfl, ?_⟩) (by assumption) ?_
  rotate_left
  ·(intro w hSw; go_simp; try with_reducible rfl)
  try simp only [Act.put, List.setIfInBounds_toArray, List.set_cons_zero, List.set_cons_succ]
  refine wpAnyH_take (i := 17) (oi := ⟨some 60, _, _, _, _, _⟩) (v := ?_) rfl (by kernel_rfl) (by kernel_rfl) (by kernel_rfl) (fun _ _ _ h => h) (Or.inl ⟨by rfl, ?_⟩) (by assumption) ?_
  rotate_left
  ·(intro w hSw; go_simp; try with_reducible rfl)
  try simp only [Act.put, List.setIfInBounds_toArray, List.set_cons_zero, List.set_cons_succ]
  refine wpAnyH_take (i := 18) (oi := ⟨some 61, _, _, _, _, _⟩) (v := ?_) rfl (by kernel_rfl) (by kernel_rfl) (by kernel_rfl) (fun _ _ _ h => h) (Or.inl ⟨by rfl, ?_⟩) (by assumption) ?_
  rotate_left
  ·(intro w hSw; go_simp; try with_reducible rfl)
  try simp only [Act.put, List.setIfInBounds_toArray, List.set_cons_zero, List.set_cons_succ]
  refine wpAnyH_take (i := 19) (oi := ⟨some 62, _, _, _, _, _⟩) (v := ?_) rfl (by kernel_rfl) (by kernel_rfl) (by kernel_rfl) (fun _ _ _ h => h) (Or.inl ⟨by rfl, ?_⟩) (by assumption) ?_
  rotate_left
  ·(intro w hSw; obtain ⟨r3, r4, r5, r2, s0, s1⟩ := HLd.out w hSw; go_simp; try with_reducible rfl)
  try simp only [Act.put, List.setIfInBounds_toArray, List.set_cons_zero, List.set_cons_succ]
  refine wpAnyH_take (i := 21) (oi := ⟨some 64, _, _, _, _, _⟩) (v := ?_) rfl (by kernel_rfl) (by kernel_rfl) (by kernel_rfl) (fun _ _ _ h => h) (Or.inl ⟨by rfl, ?_⟩) (by assumption) ?_
  rotate_left
  ·(intro w hSw; go_simp; try with_reducible rfl)
  try simp only [Act.put, List.setIfInBounds_toArray, List.set_cons_zero, List.set_cons_succ]
  refine wpAnyH_take (i := 22) (oi := ⟨some 65, _, _, _, _, _⟩) (v := ?_) rfl (by kernel_rfl) (by kernel_rfl) (by kernel_rfl) (fun _ _ _ h => h) (Or.inl ⟨by rfl, ?_⟩) (by assumption) ?_
  rotate_left
  ·(intro w hSw; go_simp; try with_reducible rfl)
  try simp only [Act.put, List.setIfInBounds_toArray, List.set_cons_zero, List.set_cons_succ]
  refine wpAnyH_take (i := 23) (oi := ⟨some 66, _, _, _, _, _⟩) (v := ?_) rfl (by kernel_rfl) (by kernel_rfl) (by kernel_rfl) (fun _ _ _ h => h) (Or.inl ⟨by rfl, ?_⟩) (by assumption) ?_
  rotate_left
  ·(intro w hSw; go_simp; try with_reducible rfl)
  try simp only [Act.put, List.setIfInBounds_toArray, List.set_cons_zero, List.set_cons_succ]
  refine wpAnyH_take (i := 24) (oi := ⟨some 67, _, _, _, _, _⟩) (v := ?_) rfl (by kernel_rfl) (by kernel_rfl) (by kernel_rfl) (fun _ _ _ h => h) (Or.inl ⟨by rfl, ?_⟩) (by assumption) ?_
  rotate_left
  ·(intro w hSw; obtain ⟨r3, r4, r5, r2, s0, s1⟩ := HLd.out w hSw; go_simp; try with_reducible rfl)
  try simp only [Act.put, List.setIfInBounds_toArray, List.set_cons_zero, List.set_cons_succ]
  refine wpAnyH_ready (rs := [7]) (by kernel_rfl) (by simp) ?_
  refine AllReadyH.cons (o := ⟨some 50, _, _, _, _, _⟩) rfl (fun K hK => ?_) AllReadyH.nil
  go_simp
  refine (HA.out _ hHeld).mono ?_
  rintro r WA ⟨oA, cA, rfl, f1, f2⟩
  have hb2 : Below w8.heap.size w8 WA := hHeld.trans (f2.mono hHeld.size)
  have bA := f1
  refine hK.out _ _ hb2 (fun _ => ?_)
  clear hK K f1 f2
  have hHeld := hb2
  clear hb2
  try simp only [Act.put, List.setIfInBounds_toArray, List.set_cons_zero, List.set_cons_succ]
  refine wpAnyH_ready (rs := [12]) (by kernel_rfl) (by simp) ?_
  refine AllReadyH.cons (o := ⟨some 55, _, _, _, _, _⟩) rfl (fun K hK => ?_) AllReadyH.nil
  go_simp
  refine (HB.out _ hHeld).mono ?_
  rintro r WB ⟨oB, cB, rfl, f1, f2⟩
  have hb2 : Below w8.heap.size w8 WB := hHeld.trans (f2.mono hHeld.size)
  have bA := bA.below f2
  have bB := f1
  refine hK.out _ _ hb2 (fun _ => ?_)
  clear hK K f1 f2
  have hHeld := hb2
  clear hb2
  try simp only [Act.put, List.setIfInBounds_toArray, List.set_cons_zero, List.set_cons_succ]
  refine wpAnyH_ready (rs := [15]) (by kernel_rfl) (by simp) ?_
  refine AllReadyH.cons (o := ⟨some 58, _, _, _, _, _⟩) rfl (fun K hK => ?_) AllReadyH.nil
  go_simp
  refine (HC.out _ hHeld).mono ?_
  rintro r WC ⟨oC, cC, rfl, f1, f2⟩
  have hb2 : Below w8.heap.size w8 WC := hHeld.trans (f2.mono hHeld.size)
  have bA := bA.below f2
  have bB := bB.below f2
  have bC := f1
  refine hK.out _ _ hb2 (fun _ => ?_)
  clear hK K f1 f2
  have hHeld := hb2
  clear hb2
  try simp only [Act.put, List.setIfInBounds_toArray, List.set_cons_zero, List.set_cons_succ]
  refine wpAnyH_ready (rs := [20]) (by kernel_rfl) (by simp) ?_
  refine AllReadyH.cons (o := ⟨some 63, _, _, _, _, _⟩) rfl (fun K hK => ?_) AllReadyH.nil
  go_simp
  refine (HD.out _ hHeld).mono ?_
  rintro r WD ⟨oD, cD, rfl, f1, f2⟩
  have hb2 : Below w8.heap.size w8 WD := hHeld.trans (f2.mono hHeld.size)
  have bA := bA.below f2
  have bB := bB.below f2
  have bC := bC.below f2
  have bD := f1
  refine hK.out _ _ hb2 (fun _ => ?_)
  clear hK K f1 f2
  have hHeld := hb2
  clear hb2
  try simp only [Act.put, List.setIfInBounds_toArray, List.set_cons_zero, List.set_cons_succ]
  refine wpAnyH_ready (rs := [25]) (by kernel_rfl) (by simp) ?_
  refine AllReadyH.cons (o := ⟨some 68, _, _, _, _, _⟩) rfl (fun K hK => ?_) AllReadyH.nil
  go_simp
  refine (HE.out _ hHeld).mono ?_
  rintro r WE ⟨oE, cE, rfl, f1, f2⟩
  have hb2 : Below w8.heap.size w8 WE := hHeld.trans (f2.mono hHeld.size)
  have bA := bA.below f2
  have bB := bB.below f2
  have bC := bC.below f2
  have bD := bD.below f2
  have bE := f1
  refine hK.out _ _ hb2 (fun _ => ?_)
  clear hK K f1 f2
  have hHeld := hb2
  clear hb2
  try simp only [Act.put, List.setIfInBounds_toArray, List.set_cons_zero, List.set_cons_succ]
  refine wpAnyH_take (i := 26) (oi := ⟨some 69, _, _, _, _, _⟩) (v := ?_) rfl (by kernel_rfl) (by kernel_rfl) (by kernel_rfl) (fun _ _ _ h => h) (Or.inl ⟨by rfl, ?_⟩) (by assumption) ?_
  rotate_left
  ·(intro w hSw; go_simp; try with_reducible rfl)
  try simp only [Act.put, List.setIfInBounds_toArray, List.set_cons_zero, List.set_cons_succ]
  refine wpAnyH_ready (rs := [27]) (by kernel_rfl) (by simp) ?_
  refine AllReadyH.cons (o := ⟨some 70, _, _, _, _, _⟩) rfl (fun K hK => ?_) AllReadyH.nil
  go_simp
  refine (HJn.out WE hHeld oA oB oC oD oE cA cB cC cD cE bA bB bC bD bE).mono ?_
  rintro r W2 hJ
  obtain ⟨rv, rfl, hfin, f2⟩ := HFin.out WE hHeld W2 r hJ
  obtain ⟨v1, v2, rfl⟩ := f2
  refine hK.out _ _ hfin.1 (fun hHeld => ?_)
  clear hK K
  try simp only [Act.put, List.setIfInBounds_toArray, List.set_cons_zero, List.set_cons_succ]
  refine wpAnyH_take (i := 28) (oi := ⟨some 71, _, _, _, _, _⟩) (v := ?_) rfl (by kernel_rfl) (by kernel_rfl) (by kernel_rfl) (fun _ _ _ h => h) (Or.inl ⟨by rfl, ?_⟩) (by assumption) ?_
  rotate_left
  ·(intro w hSw; go_simp; try with_reducible rfl)
  try simp only [Act.put, List.setIfInBounds_toArray, List.set_cons_zero, List.set_cons_succ]
  refine wpAnyH_take (i := 29) (oi := ⟨some 72, _, _, _, _, _⟩) (v := ?_) rfl (by kernel_rfl) (by kernel_rfl) (by kernel_rfl) (fun _ _ _ h => h) (Or.inl ⟨by rfl, ?_⟩) (by assumption) ?_
  rotate_left
  ·(intro w hSw; go_simp; try with_reducible rfl)
  try simp only [Act.put, List.setIfInBounds_toArray, List.set_cons_zero, List.set_cons_succ]
  refine wpAnyH_take (i := 30) (oi := ⟨some 2, _, _, _, _, _⟩) (v := ?_) rfl (by kernel_rfl) (by kernel_rfl) (by kernel_rfl) (fun _ _ _ h => h) (Or.inl ⟨by rfl, ?_⟩) (by assumption) ?_
  rotate_left
  ·(intro w hSw; go_simp; try with_reducible rfl)
  try simp only [Act.put, List.setIfInBounds_toArray, List.set_cons_zero, List.set_cons_succ]
  refine wpAnyH_take (i := 31) (oi := ⟨some 3, _, _, _, _, _⟩) (v := ?_) rfl (by kernel_rfl) (by kernel_rfl) (by kernel_rfl) (fun _ _ _ h => h) (Or.inl ⟨by rfl, ?_⟩) (by assumption) ?_
  rotate_left
  ·(intro w hSw; go_simp; try with_reducible rfl)
  try simp only [Act.put, List.setIfInBounds_toArray, List.set_cons_zero, List.set_cons_succ]
  refine wpAnyH_done (by kernel_rfl) ?_ _
  go_wp2
  go_ret2
  exact hfin.2
 ·have HC := hide (Canon_no a n c L w hN hc hcm (check (nds L)) rfl h0)
  have e1 : (check (nds L) == 0) = false := by simpa using h0
  have H0 := hide h0
  unfold BAns
  generalize check (nds L) = z at *
  clear hN h0 hW
  go_enter Tryz.func7, Tryz.ntmps7
  go_wp2_with fail
  refine HC.out.mono ?_
  rintro r w1 ⟨rfl, hb1⟩
  have HB := hide hb1
  clear hb1 HC
  go_wp2
  go_ret2
  exact .inl ⟨H0.out, rfl, HB.out⟩
end Go.Proofs.YtoohanojfoichaaGreatDoor
namespace Go.Proofs.YtoohanojfoichaaGreatDoor.Bld
open Lz (g)
open Crc (ent)
open Frm Mtr Tre Nam Tab
theorem asc_one : ∀ (a b : List Int), a.Pairwise (· < ·) → b.Pairwise (· < ·) → (∀ x, x ∈ a ↔ x ∈ b) → a = b
 | [], [], _, _, _ => rfl
 | [], y :: b, _, _, h => by have := (h y).2 (List.mem_cons_self ..); simp at this
 | x :: a, [], _, _, h => by have := (h x).1 (List.mem_cons_self ..); simp at this
 | x :: a, y :: b, ha, hb, h => by
  rw [List.pairwise_cons] at ha hb
  have e : x = y := by
   have h1 := (h x).1 (List.mem_cons_self ..)
   have h2 := (h y).2 (List.mem_cons_self ..)
   rcases List.mem_cons.1 h1 with h1 | h1
   ·exact h1
   ·rcases List.mem_cons.1 h2 with h2 | h2
    ·exact h2.symm
    ·have := hb.1 x h1; have := ha.1 y h2; omega
  subst e
  rw [asc_one a b ha.2 hb.2 fun z => ?_]
  constructor
  ·intro hz
   rcases List.mem_cons.1 ((h z).1 (List.mem_cons_of_mem _ hz)) with e | e
   ·have := ha.1 z hz; omega
   ·exact e
  ·intro hz
   rcases List.mem_cons.1 ((h z).2 (List.mem_cons_of_mem _ hz)) with e | e
   ·have := hb.1 z hz; omega
   ·exact e
theorem own_one {l : List Nod} {a b : List Int} (ha : OwnN l a) (hb : OwnN l b) : a = b := asc_one a b ha.1 hb.1 fun x => (ha.2 x).trans (hb.2 x).symm
structure Tl (l : List Nod) : Prop where
 pos : 0 < l.length
 n40 : l.length ≤ 40
 uno : Uno l
 nod : (l.map Nod.names).Nodup
 may : ∀ n ∈ l, Tre.may n = true
 long : ∀ n ∈ l, ∀ s ∈ n.names, s.size ≤ 255
theorem Tl.of {l r : List Nod} (h0 : check l = 0) (hc : IsCanon l r) (hn : l.length ≤ 40) : Tl r := by
 have hF := canF h0 hc
 obtain ⟨k1, k2, k3, k4, k5, k6, k7, k8⟩ := check_zero (canon_check h0 hc)
 refine ⟨hF.pos, by rw [hF.len]; exact hn, fun i j hi hj e hk => ?_, k4, fun n hn => List.all_eq_true.1 k7 n hn, fun n hn s hs => ?_⟩
 ·rcases Nat.lt_trichotomy i j with c | c | c
  ·have := List.pairwise_iff_getElem.1 k8 i j hi hj c
   rw [← gn_lt _ _ hi, ← gn_lt _ _ hj] at this
   obtain ⟨h1, h2⟩ := this e
   exact absurd (((alike_iff _ _).1 h2).1 ▸ hk) h1
  ·exact c
  ·have := List.pairwise_iff_getElem.1 k8 j i hj hi c
   rw [← gn_lt _ _ hi, ← gn_lt _ _ hj] at this
   exact absurd hk (this e.symm).1
 ·have h1 := fv_zero _ (wrong_zero _ k2 n hn) s hs
  have h2 := (valid_zero h1).1
  rw [toList_length] at h2
  exact h2
section
variable {l : List Nod} {own : List Int}
theorem Tl.wi (h : Tl l) (own : List Int) : WI l (wq l own).1 := wr_inv h.uno 17 0 ws0 h.pos (wi0 l)
theorem wq_mem (l : List Nod) (own : List Int) : (0, (wq l own).2) ∈ (wq l own).1.R := by
 have e : lkR l ws0.R (gn l 0).ino = none := rfl
 unfold wq
 rw [wr_none e]
 unfold fin
 simp
theorem Tl.nwle (h : Tl l) : ∀ k, k < l.length → nw l k ≤ 261 := fun k hk => by
 unfold Bld.nw
 rw [gn_lt _ k hk]
 by_cases hn : l[k].names = []
 ·rw [hn]; show 6 + 0 ≤ 261; omega
 ·have hp : 0 < l[k].names.length := List.length_pos_iff.2 hn
  have := h.long _ (List.getElem_mem hk) (gs l[k].names (l[k].names.length - 1)) (by
   unfold gs
   rw [List.getD_eq_getElem?_getD, List.getElem?_eq_getElem (by omega)]
   exact List.getElem_mem _)
  omega
theorem Tl.sums (h : Tl l) : sm (nw l) l.length ≤ 261 * l.length ∧ sm (iw l) l.length ≤ 222 * l.length ∧ sm (xw l) l.length ≤ 1937 * l.length ∧ sm (bw l) l.length ≤ 4320 * l.length := by
 refine ⟨sm_const _ h.nwle, sm_const _ fun k hk => ?_, sm_const _ fun k hk => ?_, sm_const _ fun k hk => ?_⟩
 ·have := (may_parts (h.may (gn l k) (by rw [gn_lt _ _ hk]; exact List.getElem_mem hk))).1
  unfold iw; omega
 ·have := (may_parts (h.may (gn l k) (by rw [gn_lt _ _ hk]; exact List.getElem_mem hk))).2
  unfold xw; split <;> omega
 ·have := may_data (h.may (gn l k) (by rw [gn_lt _ _ hk]; exact List.getElem_mem hk))
  unfold bw; omega
theorem Tl.size (h : Tl l) (ho : OwnN l own) : isz l own ≤ 400000 := by
 have hn := h.n40
 obtain ⟨s1, s2, s3, s4⟩ := h.sums
 have hw := h.wi own
 have g1 := done_le (wq l own).1.I
 have g2 := done_le (wq l own).1.D
 have g3 := done_le (wq l own).1.X
 have g4 := done_le (putN 4 (bk l).2).1
 have g5 := done_le (putN 2 own).1
 have g6 := putN_len 4 (bk l).2
 have g7 := putN_len 2 own
 have g8 := own_len ho
 have hCI := cont_inv l l.length
 have hpl := plc_len (cont l l.length).b hCI.ok (cont l l.length).s.1 (cont l l.length).b.length (Nat.le_refl _)
 have g9 := hCI.b
 have g10 := hCI.s1
 have g11 := hw.bI
 have g12 := hw.bD h.nod
 have g13 := hw.bX
 unfold isz y1 y2 y3 y4 y5 y6
 unfold bk at *
 omega
theorem Tl.ok (h : Tl l) (ho : OwnN l own) : (isb l own).ok := by
 have hn := h.n40
 have hz := h.size ho
 obtain ⟨s1, s2, s3, s4⟩ := h.sums
 have hw := h.wi own
 have hm := wq_mem l own
 have hr := hw.Rv _ hm
 have hI := hw.bI
 have hR := hw.bR
 have hR1 : 0 < (wq l own).1.R.length := List.length_pos_of_mem hm
 have ho1 := own_len ho
 have ho2 : 0 < own.length := by
  have h0 : l[0]'h.pos ∈ l := List.getElem_mem h.pos
  exact List.length_pos_of_mem ((ho.2 _).2 ⟨_, h0, .inl rfl⟩)
 have hb := (cont_inv l l.length).b
 unfold isz at hz
 refine ⟨?_, ?_, ?_, ?_, ?_⟩
 ·unfold isb sbl Sup.Sb.sorted; simp only []; omega
 ·unfold isb sbl sb0; simp only []; omega
 ·unfold isb sbl sb0; simp only []; omega
 ·unfold isb sbl sb0; simp only []; omega
 ·unfold isb sbl sb0; simp only []; omega
theorem im_length (l : List Nod) (own : List Int) : (im l own).length = isz l own := by
 unfold im isz
 simp only [List.length_append, fst64_length]
 omega
theorem Tl.good (h : Tl l) (ho : OwnN l own) : Sup.good ent (im l own) ∧ Sup.sbOf (im l own) = isb l own := by
 have hk := h.ok ho
 have e : im l own = Sup.put ent (isb l own) ++ (y1 l ++ (y2 l own ++ (y3 l own ++ (y4 l ++ (y5 own ++ y6 l own))))) := by unfold im fst64; rw [if_pos (Sup.may_iff.2 hk)]
 have hs : (isb l own).size = 64 + ((y1 l ++ (y2 l own ++ (y3 l own ++ (y4 l ++ (y5 own ++ y6 l own)))) : List Int).length : Int) := by
  unfold isb sbl
  simp only [List.length_append]
  omega
 rw [e]
 exact ⟨Sup.good_put hk _ hs, Sup.sbOf_put hk _⟩
end
end Go.Proofs.YtoohanojfoichaaGreatDoor.Bld
namespace Go.Proofs.YtoohanojfoichaaGreatDoor
open Go.RowKit Go.Maps
open Lz (g)
open Crc (ent)
open Frm Mtr Tre Nam Tab Bld
def BAn (L : List (Nv × Nod)) (w : World) (e : Ending) (w' : World) : Prop :=
 Below w.heap.size w w' ∧ ((check (nds L) ≠ 0 ∧ e = .returned (.tuple #[.slice none 0 0, .int .i64 (check (nds L))])) ∨
 (check (nds L) = 0 ∧ ∃ l own ib, IsCanon (nds L) l ∧ OwnN l own ∧ Tl l ∧ e = .returned (.tuple #[.slice (some ⟨ib, 0, none⟩) (isz l own) (isz l own), .int .i64 0]) ∧ w.heap.size ≤ ib ∧ Bs w' (some ⟨ib, 0, none⟩) (isz l own) (im l own)))
theorem bs_bv {w : World} {b : Nat} {z : List Int} {t : TypeId} {fz : Nat × Nat} (hb : Bytes z) (h : w.heap[b]? = some (.cells (bv z).toArray t fz)) (n : Nat) (hn : z.length = n) : Bs w (some ⟨b, 0, none⟩) n z := by
 refine ⟨hn, hb.g, .inr ⟨b, 0, rfl, heap_lt h, fun i hi => ?_⟩⟩
 simp [World.cell?, h, bv, g, hi]
theorem Build_few (a : Option Addr) (n c : Nat) (L : List (Nv × Nod)) (w : World) (hN : Ns w a n L) (hc : n ≤ c) (hcm : c ≤ 9223372036854775807) (hn : n ≤ 40) (hW : Wid w) :
  Calls Tryz.prog 7 #[.slice a n c] w (BAn L w) := by
 refine (Build_any a n c L w hN hc hcm hn hW).mono ?_
 rintro e w' (⟨h1, h2, h3⟩ | ⟨h0, l, own, hc, ho, hb, hx⟩)
 ·exact ⟨h3, .inl ⟨h1, h2⟩⟩
 ·have ht : Tl l := Tl.of h0 hc (by rw [nds_length, hN.1]; exact hn)
  rcases hx with ⟨hx, _⟩ | ⟨_, ib, he, hib, hh, hby⟩
  ·have := ht.size ho; omega
  ·exact ⟨hb, .inr ⟨h0, l, own, ib, hc, ho, ht, he, hib, bs_bv hby hh _ (im_length l own)⟩⟩
def Bld.n1 : Nod := ⟨[], 1, 1, 0, 0, 0, [], ⟨#[]⟩, [], false⟩
def Bld.v1 : Nv := ⟨none, 0, 0, 1, 1, 0, 0, 0, none, 0, 0, ⟨#[]⟩, none, 0, 0, false⟩
theorem Bld.n1_check : check [n1] = 0 := by decide +kernel
theorem Bld.n1_canon {l : List Nod} (h : IsCanon [n1] l) : l = [n1] := by
 obtain ⟨s, hp, _, rfl⟩ := h
 rw [List.perm_singleton.1 hp]
 rfl
theorem Bld.n1_rep (w : World) : Rep w v1 n1 :=
 ⟨⟨rfl, .inl rfl⟩, Nat.le_refl _, by decide, fun _ => rfl, rfl, by decide, rfl, rfl, rfl, rfl, ⟨rfl, fun i => by simp [g, n1], .inl rfl⟩, Nat.le_refl _, by decide, fun _ => rfl, rfl, by decide, ⟨rfl, .inl rfl⟩, Nat.le_refl _, by decide, fun _ => rfl, rfl⟩
theorem Bld.n1_isb {own : List Int} (ho : OwnN [n1] own) (ht : Tl [n1]) : (isb [n1] own).inodes = 1 ∧ (isb [n1] own).ids = 1 ∧ (isb [n1] own).frags = 0 ∧ (isb [n1] own).inodeAt = 64 := by
 have e : own = [0] := own_one ho ⟨by simp, fun x => by simp [n1]⟩
 have h1 := (ht.wi own).bR
 have h2 : 0 < (wq [n1] own).1.R.length := List.length_pos_of_mem (wq_mem [n1] own)
 have h3 : (cont [n1] [n1].length).b = [] := rfl
 have h4 : y1 [n1] = [] := rfl
 rw [List.length_singleton] at h1
 unfold isb sbl sb0
 refine ⟨?_, ?_, ?_, ?_⟩
 ·show (((wq [n1] own).1.R.length : Nat) : Int) = 1; omega
 ·show ((own.length : Nat) : Int) = 1; rw [e]; rfl
 ·show ((((cont [n1] [n1].length).b.length : Nat)) : Int) = 0; rw [h3]; rfl
 ·show ((64 + (y1 [n1]).length : Nat) : Int) = 64; rw [h4]; rfl
set_option maxRecDepth 100000 in
set_option maxHeartbeats 1000000 in
theorem shown_any (w : World) (hW : Wid w) : Calls Tryz.prog 5 #[] w fun e w' => e = .returned (.bool true) ∧ Below w.heap.size w w' := by
 obtain ⟨wA, hwA⟩ : ∃ wA, wA = w.alloc (.cells v1.cells 48) := ⟨_, rfl⟩
 have hbA : Below w.heap.size w wA := by rw [hwA]; exact (Below.refl _ w).alloc (Nat.le_refl _) _
 have hpA : wA.heap[w.heap.size]? = some (.cells v1.cells 48 (0, 0)) := by rw [hwA]; exact heap_alloc_new _ _
 have hNs : Ns wA (some ⟨w.heap.size, 0, none⟩) 1 [(v1, n1)] := by
  refine ⟨rfl, fun p hp => ?_, .inr ⟨w.heap.size, 0, rfl, heap_lt hpA, fun i hi => ?_⟩⟩
  ·rw [List.mem_singleton.1 hp]; exact n1_rep wA
  ·obtain rfl : i = 0 := by omega
   obtain ⟨_, b0, b1, b2, b3, b4, b5, b6, b7, b8, b9⟩ := (show Bk wA w.heap.size v1 from hpA).box
   exact ⟨b0, b1, b2, b3, b4, b5, b6, b7, b8, b9⟩
 have HBd := hide (Build_few (some ⟨w.heap.size, 0, none⟩) 1 1 [(v1, n1)] wA hNs (Nat.le_refl _) (by omega) (by omega) (hW.below hbA hW.pos))
 have HbA := hide hbA
 have HW := hide hW
 have HE : Hid (w.alloc (Obj.cells #[.slice none 0 0, .int .i64 1, .int .i64 1, .int .i64 0, .int .i64 0, .int .i64 0, .slice none 0 0, .string ⟨#[]⟩, .slice none 0 0, .bool false] 48) = wA) := hwA.symm
 clear hwA hbA hpA hNs hW
 go_enter Tryz.func5, Tryz.ntmps5
 go_wp2_with fail
 rw [HE.out]
 refine HBd.out.mono ?_
 rintro r w1 ⟨hb1, ⟨h, _⟩ | ⟨h0, l, own, ib, hc, ho, ht, rfl, hib, hB⟩⟩
 ·exact absurd n1_check h
 have hl : l = [n1] := n1_canon hc
 subst hl
 obtain ⟨hg, hs⟩ := ht.good ho
 obtain ⟨i1, i2, i3, i4⟩ := n1_isb ho ht
 have hz := ht.size ho
 generalize isz [n1] own = sz at *
 generalize im [n1] own = I at *
 have HG := hide hg
 have HS := hide hs
 have HB := hide hB
 have HB1 : Hid (Below w.heap.size w w1) := HbA.out.trans (hb1.mono HbA.out.size)
 generalize isb [n1] own = SB at *
 clear hg hs hB hb1 hc ho ht h0 HBd HE hib
 go_wp2_with fail
 refine (New_any w1).mono ?_
 rintro r w2 ⟨rfl, hb2⟩
 obtain ⟨C, hC⟩ : ∃ C, C = tab ent := ⟨_, rfl⟩
 rw [← hC]
 have HCt := hide hC
 have HB2 := hide hb2
 clear hC hb2
 go_wp2_with (refine wpList_store_table rfl _ _ rfl ent C HCt.out rfl rfl _ (by simp) ?_; intro w3 ht3 hT3 hlt3 hb3)
 have b13 : Below w1.heap.size w1 w3 := HB2.out.trans (hb3.mono HB2.out.size)
 have b03 : Below w.heap.size w w3 := HB1.out.trans (b13.mono HB1.out.size)
 have HTk := hide (sTake_any w2.heap.size sz sz ent (some ⟨ib, 0, none⟩) I w3 small_ent hT3 hlt3 (HW.out.below b03 HW.out.pos) (HB.out.below b13) (by omega))
 have HB03 := hide b03
 clear ht3 hT3 hb3 b13 b03 HCt HB2
 refine HTk.out.mono ?_
 rintro r w4 ⟨⟨_, rfl⟩ | ⟨hng, _⟩, hb4⟩
 ·rw [HS.out]
  have HB04 : Hid (Below w.heap.size w w4) := HB03.out.trans (hb4.mono HB03.out.size)
  clear hb4 HTk HG HS HB
  unfold sbv
  rw [i1, i2, i3, i4]
  clear i1 i2 i3 i4
  go_wp2
  go_ret
  exact ⟨rfl, HB04.out.alloc HB04.out.size _⟩
 ·exact absurd HG.out hng
end Go.Proofs.YtoohanojfoichaaGreatDoor
namespace Go.Proofs.YtoohanojfoichaaGreatDoor.Bld
open Lz (g)
open Crc (ent)
open Frm Mtr Tre Nam Tab
theorem fr_le (T : Nat → Nat) (z : List Int) (j : Nat) : ∀ d, (fr T z j).length ≤ (fr T z (j + d)).length
 | 0 => Nat.le_refl _
 | d + 1 => by
  have h1 := fr_le T z j d
  have h2 := fr_lt T z (j + d)
  rw [← Nat.add_assoc]; omega
theorem rfn_lt (z y : List Int) (h : y ≠ []) : rfn z < rfn (z ++ y) := by
 have hp : 0 < y.length := List.length_pos_iff.2 h
 have e0 := fr_append ent z y (z.length / 128) (by omega)
 unfold rfn
 rw [List.length_append, ← e0]
 by_cases c : (z.length + y.length) / 128 = z.length / 128
 ·rw [c]; omega
 ·have h1 := fr_lt ent (z ++ y) (z.length / 128)
  have h2 := fr_le ent (z ++ y) (z.length / 128 + 1) ((z.length + y.length) / 128 - (z.length / 128 + 1))
  rw [show z.length / 128 + 1 + ((z.length + y.length) / 128 - (z.length / 128 + 1)) = (z.length + y.length) / 128 by omega] at h2
  omega
theorem rfn_inj {a a' u u' : List Int} (e : a ++ u = a' ++ u') (h : rfn a = rfn a') : a = a' := by
 rcases List.append_eq_append_iff.1 e with ⟨c, h1, _⟩ | ⟨c, h1, _⟩
 ·by_cases hc : c = []
  ·rw [h1, hc, List.append_nil]
  ·have := rfn_lt a c hc
   rw [← h1] at this; omega
 ·by_cases hc : c = []
  ·rw [h1, hc, List.append_nil]
  ·have := rfn_lt a' c hc
   rw [← h1] at this; omega
def At (z y : List Int) (r : Nat) : Prop := ∃ a b, z = a ++ (y ++ b) ∧ r = rfn a
theorem At.app {z y : List Int} {r : Nat} (h : At z y r) (u : List Int) : At (z ++ u) y r := by
 obtain ⟨a, b, rfl, rfl⟩ := h
 exact ⟨a, b ++ u, by simp, rfl⟩
theorem At.new (z y : List Int) : At (z ++ y) y (rfn z) := ⟨z, [], by simp, rfl⟩
theorem At.one {z y y' : List Int} {r : Nat} (h : At z y r) (h' : At z y' r) : ∃ b b', y ++ b = y' ++ b' := by
 obtain ⟨a, b, e, hr⟩ := h
 obtain ⟨a', b', e', hr'⟩ := h'
 have ha : a = a' := rfn_inj (e.symm.trans e') (hr.symm.trans hr')
 subst ha
 exact ⟨b, b', List.append_cancel_left (e.symm.trans e')⟩
structure Tq (l : List Nod) : Prop where
 tl : Tl l
 deep : ∀ n ∈ l, n.names.length ≤ 16
 same : ∀ i j, i < l.length → j < l.length → (gn l i).ino = (gn l j).ino → alike (gn l i) (gn l j) = true
 val : ∀ n ∈ l, ∀ s ∈ n.names, valid s.toList = 0
 ord : ∀ i j, i < j → j < l.length → less (nm (gn l i).names) (nm (gn l j).names) = true
 root : (gn l 0).names = []
 par : ∀ i, i < l.length → (gn l i).names ≠ [] → ∃ k, k < i ∧ (gn l k).names = (gn l i).names.dropLast ∧ (gn l k).kind = 1
theorem gn_mem {l : List Nod} {i : Nat} (h : i < l.length) : gn l i ∈ l := by rw [gn_lt l i h]; exact List.getElem_mem h
theorem Tq.of {l r : List Nod} (h0 : check l = 0) (hc : IsCanon l r) (hn : l.length ≤ 40) : Tq r := by
 have hF := canF h0 hc
 obtain ⟨k1, k2, k3, k4, k5, k6, k7, k8⟩ := check_zero (canon_check h0 hc)
 refine ⟨Tl.of h0 hc hn, fun n hn => ?_, fun i j hi hj e => ?_, fun n hn => fv_zero _ (wrong_zero _ k2 n hn), ?_, hF.root, hF.par⟩
 ·have := List.any_eq_false.1 k3 n hn
  unfold Tre.deep at this
  simpa using this
 ·rcases Nat.lt_trichotomy i j with c | c | c
  ·have := List.pairwise_iff_getElem.1 k8 i j hi hj c
   rw [← gn_lt _ _ hi, ← gn_lt _ _ hj] at this
   exact (this e).2
  ·rw [c]; exact alike_refl _
  ·have := List.pairwise_iff_getElem.1 k8 j i hj hi c
   rw [← gn_lt _ _ hi, ← gn_lt _ _ hj] at this
   exact alike_symm (this e.symm).2
 ·intro i j hij
  induction j with
  | zero => omega
  | succ j ih =>
   intro hj
   have hs := hF.ord (j + 1) (by omega) hj
   rw [show j + 1 - 1 = j by omega] at hs
   rcases Nat.lt_or_ge i j with c | c
   ·exact less_trans _ _ _ (ih c (by omega)) hs
   ·obtain rfl : i = j := by omega
    exact hs
section
variable {l : List Nod} {own : List Int} {fm : Fm}
theorem Tq.kinds (h : Tq l) {i : Nat} (hi : i < l.length) : (gn l i).kind = 1 ∨ (gn l i).kind = 2 ∨ (gn l i).kind = 3 := by
 have hm := h.tl.may _ (gn_mem hi)
 unfold Tre.may at hm
 simp only [Bool.and_eq_true] at hm
 have h1 := hm.1.1.1
 unfold kdOk at h1
 by_cases k1 : (gn l i).kind = 1
 ·exact .inl k1
 ·by_cases k2 : (gn l i).kind = 2
  ·exact .inr (.inl k2)
  ·by_cases k3 : (gn l i).kind = 3
   ·exact .inr (.inr k3)
   ·rw [if_neg k1, if_neg k2, if_neg k3] at h1; cases h1
theorem kid_names {k : List ByteArray} {j : Nat} (h : kidN l k j = true) : (gn l j).names = k ++ [gs (gn l j).names k.length] := by
 obtain ⟨h1, h2⟩ := kidN_iff.1 h
 have e := List.take_append_drop k.length (gn l j).names
 rw [h2] at e
 have hd : (gn l j).names.drop k.length = [gs (gn l j).names k.length] := by
  rw [List.drop_eq_getElem_cons (by omega), gs_lt _ _ (by omega), List.drop_eq_nil_of_le (by omega)]
 rw [hd] at e
 exact e.symm
theorem kids_less (h : Tq l) {k : List ByteArray} {i j : Nat} (hij : i < j) (hj : j < l.length) (h1 : kidN l k i = true) (h2 : kidN l k j = true) : Op.bytesLess (gs (gn l i).names k.length).toList (gs (gn l j).names k.length).toList = true := by
 have ho := h.ord i j hij hj
 rw [kid_names h1, kid_names h2, nm_append, nm_append, less_pre] at ho
 generalize gs (gn l i).names k.length = a at ho
 generalize gs (gn l j).names k.length = b at ho
 have e : less (nm [a]) (nm [b]) = Op.bytesLess a.toList b.toList := by
  show less [a.toList] [b.toList] = _
  unfold less
  by_cases hab : a.toList = b.toList
  ·simp [hab, less, bless_irrefl]
  ·simp [hab]
 rwa [e] at ho
theorem rise_of : ∀ (L : List Dir.Ent) (s : ByteArray), (∀ E ∈ L, Dir.ok E = true) → (∀ E ∈ L, Op.bytesLess s.toList E.name.toList = true) → L.Pairwise (fun a b => Op.bytesLess a.name.toList b.name.toList = true) → Dir.rise s L = true
 | [], _, _, _, _ => rfl
 | E :: L, s, h1, h2, h3 => by
  rw [List.pairwise_cons] at h3
  rw [Dir.rise_cons, Dir.nx, h2 E (List.mem_cons_self ..), h1 E (List.mem_cons_self ..)]
  simp only [Bool.and_self, Bool.true_and]
  exact rise_of L E.name (fun x hx => h1 x (List.mem_cons_of_mem _ hx)) h3.1 h3.2
theorem may_of {L : List Dir.Ent} (h1 : ∀ E ∈ L, Dir.ok E = true) (h2 : L.Pairwise (fun a b => Op.bytesLess a.name.toList b.name.toList = true)) : Dir.may L = true := by
 refine rise_of L _ h1 (fun E hE => ?_) h2
 have h3 := h1 E hE
 rw [← Dir.nx_em, Dir.nx] at h3
 simp only [Bool.and_eq_true] at h3
 exact h3.1
def entsOf (l : List Nod) (R : List (Nat × Nat)) (i : Nat) : List Dir.Ent := (kidsN l (gn l i).names).map fun j => ent1 l (gn l i).names.length j ((lkR l R (gn l j).ino).getD 0)
theorem kidsN_asc (l : List Nod) (k : List ByteArray) : (kidsN l k).Pairwise (· < ·) := by
 unfold kidsN
 exact List.Pairwise.filter _ List.pairwise_lt_range
theorem ents_may (h : Tq l) {R : List (Nat × Nat)} {i : Nat} (hr : ∀ j ∈ kidsN l (gn l i).names, (lkR l R (gn l j).ino).getD 0 ≤ 4294967295) : Dir.may (entsOf l R i) = true := by
 refine may_of (fun E hE => ?_) ?_
 ·unfold entsOf at hE
  obtain ⟨j, hj, rfl⟩ := List.mem_map.1 hE
  have h1 := hr j hj
  obtain ⟨hj1, hj2⟩ := kidsN_mem.1 hj
  have hk := h.kinds hj1
  rw [Dir.ok_iff]
  unfold ent1
  refine ⟨?_, by simp only []; omega, by simp only []; omega, by simp only []; omega⟩
  refine h.val _ (gn_mem hj1) _ ?_
  have := (kidN_iff.1 hj2).1
  rw [gs_lt _ _ (by omega)]
  exact List.getElem_mem _
 ·unfold entsOf
  rw [List.pairwise_map]
  have ha := kidsN_asc l (gn l i).names
  refine List.Pairwise.imp_of_mem (fun {a b} hma hmb hab => ?_) ha
  exact kids_less h hab (kidsN_mem.1 hmb).1 (kidsN_mem.1 hma).2 (kidsN_mem.1 hmb).2
def HO (l : List Nod) (fm : Fm) (s : Ws) (i : Nat) (q : Ino.Rec) : Prop :=
 ((gn l i).kind = 1 ∧ ∃ r : Nat, q = { rec0 with start := (r : Nat), size := ((Dir.putB (entsOf l s.R i)).length : Nat) } ∧ Dir.may (entsOf l s.R i) = true ∧ At s.D (Dir.putB (entsOf l s.R i)) r ∧ ∀ j ∈ kidsN l (gn l i).names, (lkR l s.R (gn l j).ino).isSome = true) ∨
 ((gn l i).kind = 2 ∧ q = { rec0 with start := ((flOf l fm i).start : Nat), size := ((gn l i).data.length : Nat), frag := ((flOf l fm i).frag : Nat), off := ((flOf l fm i).off : Nat) }) ∨
 ((gn l i).kind = 3 ∧ q = { rec0 with target := (gn l i).target })
def HX (s : Ws) (xs : List (ByteArray × List Int)) (x : Nat) : Prop := (xs = [] ∧ x = 0) ∨ (xs ≠ [] ∧ xsOk xs = true ∧ ∃ r : Nat, x = r + 1 ∧ At s.X (xsB xs.length xs) r)
def HR (l : List Nod) (own : List Int) (fm : Fm) (s : Ws) (p : Nat × Nat) : Prop :=
 ∃ q x, HO l fm s p.1 q ∧ HX s (gn l p.1).xs x ∧ (hd l own p.1 x q).may = true ∧ At s.I (Ino.putB (hd l own p.1 x q)) p.2
structure WH (l : List Nod) (own : List Int) (fm : Fm) (s : Ws) : Prop where
 r : ∀ p ∈ s.R, HR l own fm s p
 a : ∀ p ∈ s.A, At s.X p.1 p.2
 asc : s.R.Pairwise (fun p q => p.2 < q.2)
 lt : ∀ p ∈ s.R, p.2 < rfn s.I
theorem wh0 (l : List Nod) (own : List Int) (fm : Fm) : WH l own fm ws0 := ⟨fun p h => by simp [ws0] at h, fun p h => by simp [ws0] at h, List.Pairwise.nil, fun p h => by simp [ws0] at h⟩
structure Ext (s s' : Ws) : Prop where
 I : ∃ u, s'.I = s.I ++ u
 D : ∃ u, s'.D = s.D ++ u
 X : ∃ u, s'.X = s.X ++ u
 R : ∃ u, s'.R = s.R ++ u
theorem Ext.refl (s : Ws) : Ext s s := ⟨⟨[], by simp⟩, ⟨[], by simp⟩, ⟨[], by simp⟩, ⟨[], by simp⟩⟩
theorem Ext.trans {a b c : Ws} (h : Ext a b) (k : Ext b c) : Ext a c := by
 obtain ⟨⟨u1, h1⟩, ⟨u2, h2⟩, ⟨u3, h3⟩, ⟨u4, h4⟩⟩ := h
 obtain ⟨⟨v1, k1⟩, ⟨v2, k2⟩, ⟨v3, k3⟩, ⟨v4, k4⟩⟩ := k
 exact ⟨⟨u1 ++ v1, by rw [k1, h1, List.append_assoc]⟩, ⟨u2 ++ v2, by rw [k2, h2, List.append_assoc]⟩, ⟨u3 ++ v3, by rw [k3, h3, List.append_assoc]⟩, ⟨u4 ++ v4, by rw [k4, h4, List.append_assoc]⟩⟩
theorem Ext.lk {s s' : Ws} (h : Ext s s') {x : Int} {r : Nat} (k : lkR l s.R x = some r) : lkR l s'.R x = some r := by
 obtain ⟨u, hu⟩ := h.R
 rw [hu]
 unfold lkR at k ⊢
 rw [List.find?_append]
 cases hf : s.R.find? (fun p => decide ((gn l p.1).ino = x)) with
 | none => rw [hf] at k; simp at k
 | some p => rw [hf] at k; simpa using k
theorem Ext.ents {s s' : Ws} (h : Ext s s') {i : Nat} (k : ∀ j ∈ kidsN l (gn l i).names, (lkR l s.R (gn l j).ino).isSome = true) : entsOf l s'.R i = entsOf l s.R i := by
 unfold entsOf
 refine List.map_congr_left fun j hj => ?_
 obtain ⟨r, hr⟩ := Option.isSome_iff_exists.1 (k j hj)
 rw [hr, h.lk hr]
theorem HR.ext {s s' : Ws} (h : Ext s s') {p : Nat × Nat} (k : HR l own fm s p) : HR l own fm s' p := by
 obtain ⟨q, x, h1, h2, h3, h4⟩ := k
 obtain ⟨u1, e1⟩ := h.I
 obtain ⟨u2, e2⟩ := h.D
 obtain ⟨u3, e3⟩ := h.X
 refine ⟨q, x, ?_, ?_, h3, by rw [e1]; exact h4.app _⟩
 ·rcases h1 with ⟨k1, r, k2, k3, k4, k5⟩ | h1 | h1
  ·have ee := h.ents k5
   refine .inl ⟨k1, r, by rw [ee]; exact k2, by rw [ee]; exact k3, by rw [ee, e2]; exact k4.app _, fun j hj => ?_⟩
   obtain ⟨r, hr⟩ := Option.isSome_iff_exists.1 (k5 j hj)
   rw [h.lk hr]; rfl
  ·exact .inr (.inl h1)
  ·exact .inr (.inr h1)
 ·rcases h2 with h2 | ⟨k1, k2, r, k3, k4⟩
  ·exact .inl h2
  ·exact .inr ⟨k1, k2, r, k3, by rw [e3]; exact k4.app _⟩
theorem xat_has {s : Ws} (h : WH l own fm s) (xs : List (ByteArray × List Int)) (hx : xsOk xs = true) : WH l own fm (xat s xs).1 ∧ Ext s (xat s xs).1 ∧ HX (xat s xs).1 xs (xat s xs).2 := by
 by_cases h0 : xs.length = 0
 ·rw [xat_nil h0]
  exact ⟨h, Ext.refl s, .inl ⟨List.eq_nil_of_length_eq_zero h0, rfl⟩⟩
 ·have hne : xs ≠ [] := fun e => h0 (by rw [e]; rfl)
  have hp : (putX xs).1 = xsB xs.length xs := by unfold putX; rw [if_pos ⟨hne, hx⟩]
  cases hl : Dat.look s.A (putX xs).1 with
  | some r =>
   rw [xat_some h0 hl]
   have := h.a _ (Dat.look_mem hl)
   rw [hp] at this
   exact ⟨h, Ext.refl s, .inr ⟨hne, hx, r, rfl, this⟩⟩
  | none =>
   rw [xat_none h0 hl]
   have hE : Ext s { s with X := s.X ++ (putX xs).1, A := s.A ++ [((putX xs).1, rfn s.X)] } := ⟨⟨[], by simp⟩, ⟨[], by simp⟩, ⟨_, rfl⟩, ⟨[], by simp⟩⟩
   refine ⟨⟨fun p hp => (h.r p hp).ext hE, fun p hp => ?_, h.asc, h.lt⟩, hE, .inr ⟨hne, hx, _, rfl, ?_⟩⟩
   ·simp only [List.mem_append, List.mem_singleton] at hp
    rcases hp with hp | rfl
    ·exact (h.a p hp).app _
    ·exact At.new _ _
   ·rw [← hp]; exact At.new _ _
theorem kids_has {wr : Nat → Ws → Ws × Nat} {p : Nat} : ∀ (js : List Nat) (s : Ws) (es : List Dir.Ent), (∀ j ∈ js, ∀ s, WI l s → WH l own fm s → WI l (wr j s).1 ∧ WH l own fm (wr j s).1 ∧ Ext s (wr j s).1 ∧ lkR l (wr j s).1.R (gn l j).ino = some (wr j s).2) → WI l s → WH l own fm s →
  WI l (kids l wr p js (s, es)).1 ∧ WH l own fm (kids l wr p js (s, es)).1 ∧ Ext s (kids l wr p js (s, es)).1 ∧ (kids l wr p js (s, es)).2 = es ++ js.map (fun j => ent1 l p j ((lkR l (kids l wr p js (s, es)).1.R (gn l j).ino).getD 0)) ∧ ∀ j ∈ js, (lkR l (kids l wr p js (s, es)).1.R (gn l j).ino).isSome = true
 | [], s, es, _, hi, h => ⟨hi, h, Ext.refl s, by simp [kids], fun j hj => by simp at hj⟩
 | j :: js, s, es, hw, hi, h => by
  obtain ⟨a1, a2, a3, a4⟩ := hw j (List.mem_cons_self ..) s hi h
  obtain ⟨b1, b2, b3, b4, b5⟩ := kids_has js (wr j s).1 (es ++ [ent1 l p j (wr j s).2]) (fun k hk => hw k (List.mem_cons_of_mem _ hk)) a1 a2
  rw [kids]
  have e := b3.lk a4
  refine ⟨b1, b2, a3.trans b3, ?_, fun k hk => ?_⟩
  ·rw [b4, List.map_cons, e]; simp
  ·rcases List.mem_cons.1 hk with rfl | hk
   ·rw [e]; rfl
   ·exact b5 k hk
end
end Go.Proofs.YtoohanojfoichaaGreatDoor.Bld
namespace Go.Proofs.YtoohanojfoichaaGreatDoor.Bld
open Lz (g)
open Crc (ent)
open Frm Mtr Tre Nam Tab
def TH (B : Frg.Bl) (t : List Int) (n o : Nat) : Prop := (t = [] ∧ n = 0 ∧ o = 0) ∨ (t ≠ [] ∧ Frg.Has B t n o)
structure FI (l : List Nod) (c : Cs) (k : Nat) : Prop where
 ok : Dat.Ok 64 c.s
 m : ∀ x fl, lkF c.m x = some fl → ∃ j, j < k ∧ (gn l j).ino = x ∧ (gn l j).kind = 2 ∧ Dat.Has c.s (Dat.run ent (gn l j).data) fl.start ∧ TH c.b (Dat.tl (gn l j).data) fl.frag fl.off
 all : ∀ j, j < k → (gn l j).kind = 2 → (lkF c.m (gn l j).ino).isSome = true
theorem th_add (B : Frg.Bl) (z : List Int) : TH (Frg.add B (Dat.tl z)).1 (Dat.tl z) (Frg.add B (Dat.tl z)).2.1 (Frg.add B (Dat.tl z)).2.2 := by
 have hl := Dat.tl_length z
 by_cases h : Dat.tl z = []
 ·rw [Frg.add_bad (by rw [h]; exact .inl (by simp))]
  exact .inl ⟨h, rfl, rfl⟩
 ·have hp : 0 < (Dat.tl z).length := List.length_pos_iff.2 h
  exact .inr ⟨h, Frg.has_add (by omega)⟩
theorem TH.on {B : Frg.Bl} {t : List Int} {n o : Nat} (h : TH B t n o) (z : List Int) : TH (Frg.add B z).1 t n o := by
 rcases h with h | ⟨h1, h2⟩
 ·exact .inl h
 ·exact .inr ⟨h1, Frg.has_on h2 z⟩
theorem cont_has (l : List Nod) : ∀ k, FI l (cont l k) k
 | 0 => ⟨Dat.ok_nil 64, fun x fl h => by simp [cont, cs0, lkF] at h, fun j hj => by omega⟩
 | k + 1 => by
  have h := cont_has l k
  rw [cont]
  unfold cstep
  by_cases hc : (gn l k).kind ≠ 2 ∨ (lkF (cont l k).m (gn l k).ino).isSome = true
  ·rw [if_pos hc]
   refine ⟨h.ok, fun x fl hx => ?_, fun j hj hk => ?_⟩
   ·obtain ⟨j, a1, a2⟩ := h.m x fl hx
    exact ⟨j, by omega, a2⟩
   ·rcases Nat.lt_or_ge j k with c | c
    ·exact h.all j c hk
    ·obtain rfl : j = k := by omega
     rcases hc with hc | hc
     ·exact absurd hk hc
     ·exact hc
  ·rw [if_neg hc]
   have hk2 : (gn l k).kind = 2 := Decidable.not_not.1 (not_or.1 hc).1
   have hn : lkF (cont l k).m (gn l k).ino = none := by
    cases e : lkF (cont l k).m (gn l k).ino with
    | none => rfl
    | some a => exact absurd (by rw [e]; rfl) (not_or.1 hc).2
   refine ⟨h.ok.add _, fun x fl hx => ?_, fun j hj hk => ?_⟩
   ·simp only [] at hx ⊢
    by_cases e : x = (gn l k).ino
    ·subst e
     rw [lkF_none hn] at hx
     simp only [Option.some.injEq] at hx
     subst hx
     exact ⟨k, by omega, rfl, hk2, Dat.has_add 64 _ _, th_add _ _⟩
    ·rw [lkF_other e] at hx
     obtain ⟨j, a1, a2, a3, a4, a5⟩ := h.m x fl hx
     exact ⟨j, by omega, a2, a3, a4.on 64 _, a5.on _⟩
   ·simp only []
    by_cases e : (gn l j).ino = (gn l k).ino
    ·rw [e, lkF_none hn]; rfl
    ·rw [lkF_other e]
     rcases Nat.lt_or_ge j k with c | c
     ·exact h.all j c hk
     ·obtain rfl : j = k := by omega
      exact absurd rfl e
section
variable {l : List Nod} {own : List Int}
abbrev fmOf (l : List Nod) : Fm := (cont l l.length).m
theorem file_has (h : Tq l) {i : Nat} (hi : i < l.length) (hk : (gn l i).kind = 2) :
  Dat.Has (cont l l.length).s (Dat.run ent (gn l i).data) (flOf l (fmOf l) i).start ∧ TH (cont l l.length).b (Dat.tl (gn l i).data) (flOf l (fmOf l) i).frag (flOf l (fmOf l) i).off := by
 have hF := cont_has l l.length
 obtain ⟨fl, hfl⟩ := Option.isSome_iff_exists.1 (hF.all i hi hk)
 obtain ⟨j, a1, a2, a3, a4, a5⟩ := hF.m _ _ hfl
 have hd : (gn l j).data = (gn l i).data := ((alike_iff _ _).1 (h.same j i a1 hi a2)).2.2.2.2.1
 have e : flOf l (fmOf l) i = fl := by unfold flOf fmOf; rw [hfl]; rfl
 rw [e, ← hd]
 exact ⟨a4, a5⟩
theorem file_bounds (h : Tq l) {i : Nat} (hi : i < l.length) (hk : (gn l i).kind = 2) :
  (flOf l (fmOf l) i).start ≤ 200000 ∧ (flOf l (fmOf l) i).frag ≤ 40 ∧ (flOf l (fmOf l) i).off ≤ 127 ∧ (((gn l i).data.length % 128 = 0 ∧ (flOf l (fmOf l) i).frag = 0 ∧ (flOf l (fmOf l) i).off = 0) ∨ ((gn l i).data.length % 128 ≠ 0 ∧ (flOf l (fmOf l) i).frag ≠ 0)) := by
 obtain ⟨h1, h2⟩ := file_has h hi hk
 have hCI := cont_inv l l.length
 have hn := h.tl.n40
 obtain ⟨s1, s2, s3, s4⟩ := h.tl.sums
 have hs1 := hCI.s1
 have hb := hCI.b
 have htl := Dat.tl_length (gn l i).data
 refine ⟨?_, ?_⟩
 ·rcases h1.at (cont_has l l.length).ok with ⟨_, e⟩ | ⟨A, Z, e1, e2⟩
  ·omega
  ·have := congrArg List.length e1
   rw [List.length_append] at this
   omega
 ·rcases h2 with ⟨e, e1, e2⟩ | ⟨e, h1, b, hb1, hb2, hb3⟩
  ·rw [e, List.length_nil] at htl
   exact ⟨by omega, by omega, .inl ⟨htl.symm, e1, e2⟩⟩
  ·have hlt := (List.getElem?_eq_some_iff.1 hb1).1
   have hp : 0 < (Dat.tl (gn l i).data).length := List.length_pos_iff.2 e
   have := hCI.ok b (List.mem_of_getElem? hb1)
   exact ⟨by omega, by omega, .inr ⟨by omega, by omega⟩⟩
theorem lnk_sm (l : List Nod) (i : Nat) : lnk l i = sm (fun k => if ((gn l k).ino == (gn l i).ino) = true then 1 else 0) l.length := by
 have e : l = (List.range l.length).map (gn l) := by
  refine List.ext_getElem (by simp) fun j h1 h2 => ?_
  simp only [List.getElem_map, List.getElem_range]
  rw [gn_lt l j h1]
 have h := sum_filter (fun _ => 1) (fun k => (gn l k).ino == (gn l i).ino) l.length
 rw [len_sum] at h
 rw [← h]
 unfold lnk
 conv => lhs; arg 1; arg 2; rw [e]
 rw [List.filter_map, List.length_map]
 rfl
theorem lnk_bd (h : Tq l) {i : Nat} (hi : i < l.length) : 1 ≤ lnk l i ∧ lnk l i ≤ 40 ∧ ((gn l i).kind = 1 → lnk l i = 1) := by
 have h1 : 1 ≤ lnk l i := by
  unfold lnk
  exact List.length_pos_of_mem (List.mem_filter.2 ⟨gn_mem hi, by simp⟩)
 have h2 : lnk l i ≤ l.length := by unfold lnk; exact List.length_filter_le _ _
 have := h.tl.n40
 refine ⟨h1, by omega, fun hk => ?_⟩
 have h3 : lnk l i ≤ 1 := by
  rw [lnk_sm]
  refine sm_one _ fun a b ha hb pa pb => ?_
  have ea : (gn l i).ino = (gn l a).ino := by simpa using (beq_iff_eq.1 pa).symm
  have eb : (gn l i).ino = (gn l b).ino := by simpa using (beq_iff_eq.1 pb).symm
  rw [← h.tl.uno i a hi ha ea hk, ← h.tl.uno i b hi hb eb hk]
 omega
theorem idx_bd (h : Tq l) (ho : OwnN l own) (x : Int) : own.idxOf x ≤ 80 := by
 have h1 := own_len ho
 have h2 := h.tl.n40
 have h3 := List.idxOf_le_length (a := x) (l := own)
 omega
theorem nz_of {t : ByteArray} (h : (t.toList.any (· == 0)) = false) : Ino.nz t = true := by
 unfold Ino.nz
 rw [decide_eq_true_iff]
 intro x hx e
 unfold Cur.sb at hx
 obtain ⟨b, hb, rfl⟩ := List.mem_map.1 hx
 rw [ByteArray.toList_eq] at h
 have := List.any_eq_false.1 h b hb
 simp only [beq_iff_eq] at this
 exact this (by apply UInt8.toNat_inj.1; simpa using e)
theorem hd_may (h : Tq l) (ho : OwnN l own) {i x : Nat} (hi : i < l.length) (hx : x ≤ 4294967295) {s : Ws} {q : Ino.Rec} (hq : HO l (fmOf l) s i q) (hb : (gn l i).kind = 1 → q.start ≤ 4294967295 ∧ q.size ≤ 1048576) : (hd l own i x q).may = true := by
 obtain ⟨l1, l2, l3⟩ := lnk_bd h hi
 have hu := idx_bd h ho (gn l i).uid
 have hg := idx_bd h ho (gn l i).gid
 have hm := h.tl.may _ (gn_mem hi)
 have hm' := hm
 unfold Tre.may at hm
 simp only [Bool.and_eq_true] at hm
 obtain ⟨⟨⟨m1, m2⟩, m3⟩, m4⟩ := hm
 unfold attrOk at m2
 rw [decide_eq_true_iff] at m2
 have hH : (hd l own i x q).headOk = true := by
  unfold Ino.Rec.headOk hd Ino.inn
  simp only [Bool.and_eq_true, decide_eq_true_eq]
  omega
 unfold Ino.Rec.may
 rw [hH, Bool.true_and]
 unfold Ino.Rec.ownOk
 rcases hq with ⟨hk, r, rfl, _⟩ | ⟨hk, rfl⟩ | ⟨hk, rfl⟩
 ·have h1 := hb hk
  have h2 := l3 hk
  rw [if_pos (show (hd l own i x _).kind = 1 from hk)]
  unfold Ino.Rec.dirOk hd rec0 Ino.inn
  simp only [Bool.and_eq_true, decide_eq_true_eq, beq_iff_eq] at h1 ⊢
  refine ⟨⟨⟨⟨⟨by omega, by omega⟩, by omega⟩, trivial⟩, trivial⟩, Ino.emp_iff.2 rfl⟩
 ·have h1 := file_bounds h hi hk
  have h2 := may_data hm'
  rw [if_neg (show ¬ (hd l own i x _).kind = 1 from fun e => by have : (gn l i).kind = 1 := e; omega), if_pos (show (hd l own i x _).kind = 2 from hk)]
  unfold Ino.Rec.fileOk hd rec0 Ino.inn
  simp only [Bool.and_eq_true, decide_eq_true_eq, beq_iff_eq, Bool.or_eq_true, bne_iff_ne]
  have ht : (((gn l i).data.length : Nat) : Int).tmod 128 = (((gn l i).data.length % 128 : Nat) : Int) := by
   rw [Int.tmod_eq_emod_of_nonneg (by omega)]; omega
  refine ⟨⟨⟨⟨⟨⟨by omega, by omega⟩, by omega⟩, ?_⟩, by omega⟩, ?_⟩, Ino.emp_iff.2 rfl⟩
  ·rw [ht]
   rcases h1.2.2.2 with ⟨a, b, c⟩ | ⟨a, b⟩
   ·rw [a, b]
   ·rw [bne_iff_ne.2 (show (((gn l i).data.length % 128 : Nat) : Int) ≠ 0 by omega), bne_iff_ne.2 (show ((flOf l (fmOf l) i).frag : Int) ≠ 0 by omega)]
  ·omega
 ·rw [if_neg (show ¬ (hd l own i x _).kind = 1 from fun e => by have : (gn l i).kind = 1 := e; omega), if_neg (show ¬ (hd l own i x _).kind = 2 from fun e => by have : (gn l i).kind = 2 := e; omega), if_pos (show (hd l own i x _).kind = 3 from hk)]
  unfold kdOk at m1
  rw [if_neg (by omega), if_neg (by omega), if_pos hk] at m1
  unfold txt at m1
  simp only [Bool.and_eq_true, decide_eq_true_eq, Bool.not_eq_true'] at m1
  obtain ⟨_, ⟨t1, t2⟩, t3⟩ := m1
  have hp : 0 < (gn l i).target.toList.length := List.length_pos_iff.2 t1
  rw [toList_length] at t2 hp
  unfold Ino.Rec.linkOk hd rec0 Ino.inn
  simp only [Bool.and_eq_true, decide_eq_true_eq, beq_iff_eq]
  exact ⟨⟨⟨⟨⟨by omega, nz_of t3⟩, trivial⟩, trivial⟩, trivial⟩, trivial⟩
theorem lkR_in {R : List (Nat × Nat)} {x : Int} {r : Nat} (h : lkR l R x = some r) : ∃ i, (i, r) ∈ R ∧ (gn l i).ino = x := by
 unfold lkR at h
 cases hf : R.find? (fun p => decide ((gn l p.1).ino = x)) with
 | none => rw [hf] at h; simp at h
 | some p =>
  rw [hf] at h
  have h1 := List.find?_some hf
  have h2 := List.mem_of_find?_eq_some hf
  simp at h h1
  exact ⟨p.1, by rw [← h]; exact h2, h1⟩
theorem HO.ext {fm : Fm} {s s' : Ws} (h : Ext s s') {i : Nat} {q : Ino.Rec} (k : HO l fm s i q) : HO l fm s' i q := by
 obtain ⟨u2, e2⟩ := h.D
 rcases k with ⟨k1, r, k2, k3, k4, k5⟩ | h1 | h1
 ·have ee := h.ents k5
  refine .inl ⟨k1, r, by rw [ee]; exact k2, by rw [ee]; exact k3, by rw [ee, e2]; exact k4.app _, fun j hj => ?_⟩
  obtain ⟨r, hr⟩ := Option.isSome_iff_exists.1 (k5 j hj)
  rw [h.lk hr]; rfl
 ·exact .inr (.inl h1)
 ·exact .inr (.inr h1)
theorem HX.ext {s s' : Ws} (h : Ext s s') {xs : List (ByteArray × List Int)} {x : Nat} (k : HX s xs x) : HX s' xs x := by
 obtain ⟨u3, e3⟩ := h.X
 rcases k with h2 | ⟨k1, k2, r, k3, k4⟩
 ·exact .inl h2
 ·exact .inr ⟨k1, k2, r, k3, by rw [e3]; exact k4.app _⟩
theorem okd_has (h : Tq l) {f i : Nat} {s : Ws} (hi : i < l.length)
  (hw : ∀ j ∈ kidsN l (gn l i).names, ∀ s, WI l s → WH l own (fmOf l) s → WI l (wr l own (fmOf l) f j s).1 ∧ WH l own (fmOf l) (wr l own (fmOf l) f j s).1 ∧ Ext s (wr l own (fmOf l) f j s).1 ∧ lkR l (wr l own (fmOf l) f j s).1.R (gn l j).ino = some (wr l own (fmOf l) f j s).2)
  (hI : WI l s) (hH : WH l own (fmOf l) s) :
  WH l own (fmOf l) (okd l (fmOf l) (wr l own (fmOf l) f) i s).1 ∧ Ext s (okd l (fmOf l) (wr l own (fmOf l) f) i s).1 ∧ HO l (fmOf l) (okd l (fmOf l) (wr l own (fmOf l) f) i s).1 i (okd l (fmOf l) (wr l own (fmOf l) f) i s).2 ∧ ((gn l i).kind = 1 → (okd l (fmOf l) (wr l own (fmOf l) f) i s).2.start ≤ 4294967295 ∧ (okd l (fmOf l) (wr l own (fmOf l) f) i s).2.size ≤ 1048576) := by
 have hk := h.kinds hi
 have hn := h.tl.n40
 obtain ⟨s1, s2, s3, s4⟩ := h.tl.sums
 unfold okd
 by_cases k1 : (gn l i).kind = 1
 ·rw [if_pos k1]
  obtain ⟨b1, b2, b3, b4, b5⟩ := kids_has (p := (gn l i).names.length) (kidsN l (gn l i).names) s [] hw hI hH
  have hdl := dp_len l (wr l own (fmOf l) f) (gn l i).names.length (kidsN l (gn l i).names) (s, []) (fun j hj => (kidN_iff.1 (kidsN_mem.1 hj).2).1)
  rw [Dir.putB_nil, List.length_nil, Nat.zero_add] at hdl
  generalize kids l (wr l own (fmOf l) f) (gn l i).names.length (kidsN l (gn l i).names) (s, []) = t at *
  rw [List.nil_append] at b4
  have eE : t.2 = entsOf l t.1.R i := b4
  have hrv : ∀ j ∈ kidsN l (gn l i).names, (lkR l t.1.R (gn l j).ino).getD 0 ≤ 4294967295 := fun j hj => by
   obtain ⟨r, hr⟩ := Option.isSome_iff_exists.1 (b5 j hj)
   obtain ⟨i', hm, _⟩ := lkR_in hr
   have h1 := b1.Rv _ hm
   have h2 := b1.bI
   rw [hr]
   simp only [Option.getD_some]
   simp only [] at h1
   omega
  have hmay := ents_may h hrv
  have edp : dp t.2 = Dir.putB (entsOf l t.1.R i) := by unfold dp; rw [eE, if_pos hmay]
  rw [edp]
  have hE : Ext t.1 { t.1 with D := t.1.D ++ Dir.putB (entsOf l t.1.R i) } := ⟨⟨[], by simp⟩, ⟨_, rfl⟩, ⟨[], by simp⟩, ⟨[], by simp⟩⟩
  refine ⟨⟨fun p hp => (b2.r p hp).ext hE, b2.a, b2.asc, b2.lt⟩, b3.trans hE, .inl ⟨k1, rfn t.1.D, rfl, hmay, At.new _ _, b5⟩, fun _ => ?_⟩
  have h1 := rfn_le t.1.D
  have h2 := b1.bD h.tl.nod
  have h3 := dw_le h.tl.nod hi
  have h4 : (Dir.putB (entsOf l t.1.R i)).length = dw l i := by rw [← eE, hdl, dw, if_pos k1]
  show ((rfn t.1.D : Nat) : Int) ≤ 4294967295 ∧ (((Dir.putB (entsOf l t.1.R i)).length : Nat) : Int) ≤ 1048576
  rw [h4]
  omega
 ·rw [if_neg k1]
  by_cases k2 : (gn l i).kind = 2
  ·rw [if_pos k2]
   exact ⟨hH, Ext.refl s, .inr (.inl ⟨k2, rfl⟩), fun e => absurd e k1⟩
  ·rw [if_neg k2]
   exact ⟨hH, Ext.refl s, .inr (.inr ⟨by omega, rfl⟩), fun e => absurd e k1⟩
theorem wr_has (h : Tq l) (ho : OwnN l own) : ∀ (f i : Nat) (s : Ws), i < l.length → 17 ≤ f + (gn l i).names.length → WI l s → WH l own (fmOf l) s →
  WI l (wr l own (fmOf l) f i s).1 ∧ WH l own (fmOf l) (wr l own (fmOf l) f i s).1 ∧ Ext s (wr l own (fmOf l) f i s).1 ∧ lkR l (wr l own (fmOf l) f i s).1.R (gn l i).ino = some (wr l own (fmOf l) f i s).2
 | 0, i, s, hi, hf, hI, hH => by have := h.deep _ (gn_mem hi); omega
 | f + 1, i, s, hi, hf, hI, hH => by
  have hI2 := wr_inv (own := own) (fm := fmOf l) h.tl.uno (f + 1) i s hi hI
  refine ⟨hI2, ?_⟩
  clear hI2
  cases e : lkR l s.R (gn l i).ino with
  | some r => rw [wr_some e]; exact ⟨hH, Ext.refl s, e⟩
  | none =>
   rw [wr_none e]
   have hw : ∀ j ∈ kidsN l (gn l i).names, ∀ s, WI l s → WH l own (fmOf l) s → WI l (wr l own (fmOf l) f j s).1 ∧ WH l own (fmOf l) (wr l own (fmOf l) f j s).1 ∧ Ext s (wr l own (fmOf l) f j s).1 ∧ lkR l (wr l own (fmOf l) f j s).1.R (gn l j).ino = some (wr l own (fmOf l) f j s).2 := fun j hj s h1 h2 => by
    obtain ⟨hj1, hj2⟩ := kidsN_mem.1 hj
    have := (kidN_iff.1 hj2).1
    exact wr_has h ho f j s hj1 (by omega) h1 h2
   obtain ⟨c1, c2, c3, c4⟩ := okd_has h hi hw hI hH
   obtain ⟨d1, _⟩ := okd_inv (fm := fmOf l) (wr := wr l own (fmOf l) f) (i := i) (fun j hj s hs => wr_inv h.tl.uno f j s (kidsN_mem.1 hj).1 hs) hI
   have hno := okd_none (own := own) (fm := fmOf l) h.tl.uno (f := f) hi e
   clear hw
   generalize okd l (fmOf l) (wr l own (fmOf l) f) i s = Q at *
   have hxs : xsOk (gn l i).xs = true := by
    have hm := h.tl.may _ (gn_mem hi)
    unfold Tre.may at hm
    simp only [Bool.and_eq_true] at hm
    exact hm.1.2
   obtain ⟨a1, a2, a3⟩ := xat_has c1 (gn l i).xs hxs
   obtain ⟨e1, e2, e3⟩ := xat_R Q.1 (gn l i).xs
   have hxb : (xat Q.1 (gn l i).xs).2 ≤ 4294967295 := by
    have hn := h.tl.n40
    obtain ⟨s1, s2, s3, s4⟩ := h.tl.sums
    have hX := d1.bX
    by_cases h0 : (gn l i).xs.length = 0
    ·rw [xat_nil h0]; exact Nat.zero_le _
    ·rw [xat_once h0]
     have := once_v d1.Av (putX (gn l i).xs).1
     simp only []
     omega
   have hHO := c3.ext a2
   have hmay := hd_may h ho hi hxb hHO c4
   unfold fin
   generalize hS : (xat Q.1 (gn l i).xs).1 = S at *
   generalize (xat Q.1 (gn l i).xs).2 = x at *
   have eip : ip (hd l own i x Q.2) = Ino.putB (hd l own i x Q.2) := by unfold ip; rw [if_pos hmay]
   rw [eip]
   have hne : Ino.putB (hd l own i x Q.2) ≠ [] := fun e => by
    have := (Ino.putB_least hmay).1
    rw [e] at this; simp at this
   have hlt := rfn_lt S.I _ hne
   have hE : Ext S { S with I := S.I ++ Ino.putB (hd l own i x Q.2), R := S.R ++ [(i, rfn S.I)] } := ⟨⟨_, rfl⟩, ⟨[], by simp⟩, ⟨[], by simp⟩, ⟨_, rfl⟩⟩
   refine ⟨⟨fun p hp => ?_, a1.a, ?_, fun p hp => ?_⟩, (c2.trans a2).trans hE, ?_⟩
   ·simp only [List.mem_append, List.mem_singleton] at hp
    rcases hp with hp | rfl
    ·exact (a1.r p hp).ext hE
    ·exact ⟨Q.2, x, hHO.ext hE, a3.ext hE, hmay, At.new _ _⟩
   ·simp only []
    rw [List.pairwise_append]
    refine ⟨a1.asc, by simp, fun p hp q hq => ?_⟩
    rw [List.mem_singleton.1 hq]
    exact a1.lt p hp
   ·simp only [List.mem_append, List.mem_singleton] at hp ⊢
    rcases hp with hp | rfl
    ·exact Nat.lt_trans (a1.lt p hp) hlt
    ·exact hlt
   ·simp only []
    refine lkR_at ?_
    rw [e1]; exact hno
end
end Go.Proofs.YtoohanojfoichaaGreatDoor.Bld
namespace Go.Proofs.YtoohanojfoichaaGreatDoor.Bld
open Lz (g)
open Crc (ent)
open Frm Mtr Tre Nam Tab
theorem fr_cons (T : Nat → Nat) (z : List Int) : ∀ k, fr T z (k + 1) = put T (blk z 0) ++ fr T (z.drop 128) k
 | 0 => by simp [fr]
 | k + 1 => by
  rw [fr_succ, fr_cons T z k, fr_succ, List.append_assoc]
  have e : blk (z.drop 128) k = blk z (k + 1) := by unfold blk; rw [List.drop_drop]; congr 2; omega
  rw [e]
theorem done_cons (T : Nat → Nat) {z : List Int} (h : z ≠ []) : done T z = put T (z.take 128) ++ done T (z.drop 128) := by
 have hp : 0 < z.length := List.length_pos_iff.2 h
 unfold done
 rw [show (z.length + 127) / 128 = ((z.drop 128).length + 127) / 128 + 1 by rw [List.length_drop]; omega, fr_cons]
 simp [blk]
theorem done_inj : ∀ (n : Nat) (z y : List Int), z.length ≤ n → done ent z = done ent y → z = y
 | 0, z, y, hn, e => by
  obtain rfl : z = [] := List.eq_nil_of_length_eq_zero (by omega)
  by_cases hy : y = []
  ·exact hy.symm
  ·rw [done_cons ent hy] at e
   have h1 := congrArg List.length e
   have h2 := (put_length (T := ent) (b := y.take 128) (by simp; omega)).1
   rw [List.length_append] at h1
   have : (done ent ([] : List Int)).length = 0 := rfl
   omega
 | n + 1, z, y, hn, e => by
  by_cases hz : z = []
  ·subst hz; exact done_inj 0 [] y (Nat.le_refl _) e
  ·by_cases hy : y = []
   ·subst hy; exact (done_inj 0 [] z (Nat.le_refl _) e.symm).symm
   ·have hp : 0 < z.length := List.length_pos_iff.2 hz
    rw [done_cons ent hz, done_cons ent hy] at e
    have h1 := (take_put small_ent (b := z.take 128) (by simp; omega) [] (done ent (z.drop 128))).1
    have h2 := (take_put small_ent (b := y.take 128) (by simp; omega) [] (done ent (y.drop 128))).1
    rw [List.nil_append] at h1 h2
    rw [e, h2] at h1
    have e1 : y.take 128 = z.take 128 := congrArg Prod.fst h1
    rw [e1] at e
    have e2 := done_inj n (z.drop 128) (y.drop 128) (by rw [List.length_drop]; omega) (List.append_cancel_left e)
    rw [← List.take_append_drop 128 z, ← List.take_append_drop 128 y, e1, e2]
def bw' (w : Nat) (R : List Int) : List Int := R.flatMap (Cur.by' w)
theorem putN_is (w : Nat) (hw : w = 2 ∨ w = 4) {R : List Int} (h : ∀ x ∈ R, 0 ≤ x ∧ x < 256 ^ w) : (putN w R).1 = bw' w R := by
 have key : ∀ (R : List Int) (zs : List Int), (∀ x ∈ R, 0 ≤ x ∧ x < 256 ^ w) → R.foldl (fun s x => Cur.wNum x (w : Int) s) (zs, 0) = (zs ++ bw' w R, 0) := by
  intro R
  induction R with
  | nil => intro zs _; simp [bw']
  | cons x r ih =>
   intro zs h
   have hx := h x (List.mem_cons_self ..)
   rw [List.foldl_cons, wNum_ok zs w w x rfl (by omega) (by omega) hx.1 hx.2, ih _ (fun y hy => h y (List.mem_cons_of_mem _ hy))]
   simp [bw']
 unfold putN
 rw [if_pos (by omega)]
 have := key R [] h
 unfold pn
 rw [this]; simp
theorem bw_inj (w : Nat) (hw : 0 < w) : ∀ (R Q : List Int), (∀ x ∈ R, 0 ≤ x ∧ x < 256 ^ w) → (∀ x ∈ Q, 0 ≤ x ∧ x < 256 ^ w) → bw' w R = bw' w Q → R = Q
 | [], [], _, _, _ => rfl
 | [], y :: Q, _, _, e => by
  have := congrArg List.length e
  simp only [bw', List.flatMap_nil, List.flatMap_cons, List.length_nil, List.length_append, by_length] at this
  omega
 | x :: R, [], _, _, e => by
  have := congrArg List.length e
  simp only [bw', List.flatMap_nil, List.flatMap_cons, List.length_nil, List.length_append, by_length] at this
  omega
 | x :: R, y :: Q, h, k, e => by
  simp only [bw', List.flatMap_cons] at e
  obtain ⟨e1, e2⟩ := List.append_inj e (by rw [by_length, by_length])
  have hx := h x (List.mem_cons_self ..)
  have hy := k y (List.mem_cons_self ..)
  have e3 : x = y := by rw [← Cur.le_by w x hx.1 hx.2, ← Cur.le_by w y hy.1 hy.2, e1]
  rw [e3, bw_inj w hw R Q (fun z hz => h z (List.mem_cons_of_mem _ hz)) (fun z hz => k z (List.mem_cons_of_mem _ hz)) e2]
theorem rec_inj {a b : Ino.Rec} (ha : a.may = true) (hb : b.may = true) {u v : List Int} (e : Ino.putB a ++ u = Ino.putB b ++ v) : a = b := by
 have la := (Ino.putB_least ha).1
 have lb := (Ino.putB_least hb).1
 have ht : (Ino.putB a).take 14 = (Ino.putB b).take 14 := by
  have := congrArg (List.take 14) e
  rwa [List.take_append_of_le_length (by omega), List.take_append_of_le_length (by omega)] at this
 have hl : (Ino.putB a).length = (Ino.putB b).length := by rw [Ino.putB_long ha, Ino.putB_long hb, Ino.long_take ht]
 have e1 := (List.append_inj e hl).1
 rw [← (Ino.read_put ha).1, ← (Ino.read_put hb).1, e1]
theorem sb_inj {s t : ByteArray} (h : Cur.sb s = Cur.sb t) : s = t := by rw [← Ino.str_sb s, ← Ino.str_sb t, h]
theorem xs_inj : ∀ (xs ys : List (ByteArray × List Int)) (u v : List Int), xs.length = ys.length → xs.flatMap xB ++ u = ys.flatMap xB ++ v → xs = ys
 | [], [], _, _, _, _ => rfl
 | [], y :: ys, _, _, h, _ => by simp at h
 | x :: xs, [], _, _, h, _ => by simp at h
 | x :: xs, y :: ys, u, v, h, e => by
  simp only [List.flatMap_cons, xB, List.cons_append, List.append_assoc, List.cons.injEq] at e
  obtain ⟨e1, e2⟩ := e
  obtain ⟨e3, e4⟩ := List.append_inj e2 (by rw [sb_length, sb_length]; omega)
  simp only [List.cons.injEq] at e4
  obtain ⟨e5, e6⟩ := e4
  obtain ⟨e7, e8⟩ := List.append_inj e6 (by omega)
  rw [xs_inj xs ys u v (by simpa using h) e8, Prod.ext (sb_inj e3) e7]
theorem xsB_inj {xs ys : List (ByteArray × List Int)} {u v : List Int} (e : xsB xs.length xs ++ u = xsB ys.length ys ++ v) : xs = ys := by
 simp only [xsB, List.cons_append, List.cons.injEq] at e
 exact xs_inj xs ys u v (by omega) e.2
theorem frag_has {L : Frg.Bl} {z A Y : List Int} {n o : Nat} (hk : Frg.Ok L) (h : Frg.Has L z n o) : Frg.rd ent (A ++ (Frg.frs ent L L.length ++ Y)) (Frg.plc ent A L L.length) n o z.length = (z, 0) := by
 obtain ⟨h1, b, hb, h2, h3⟩ := h
 obtain ⟨hlt, hbe⟩ := List.getElem?_eq_some_iff.1 hb
 have hob := hk b (by rw [← hbe]; exact List.getElem_mem _)
 obtain ⟨Z, hZ⟩ := Frg.frs_split ent L (n - 1) hlt
 have hp : g (Frg.plc ent A L L.length) ((n : Int) - 1).toNat = (((A ++ Frg.frs ent L (n - 1)).length : Nat) : Int) := by
  rw [show ((n : Int) - 1).toNat = n - 1 by omega, Frg.plc_at _ _ _ _ _ hlt, List.length_append]
 have ht : take ent (A ++ (Frg.frs ent L L.length ++ Y)) (g (Frg.plc ent A L L.length) ((n : Int) - 1).toNat) = (b, (((A ++ Frg.frs ent L (n - 1)).length + (put ent b).length : Nat) : Int), 0) := by
  rw [hp, hZ, List.append_assoc, List.append_assoc, ← List.append_assoc A, hbe]
  exact (take_put small_ent hob.2 (A ++ Frg.frs ent L (n - 1)) (Z ++ Y)).1
 have hc1 : ¬ ((n : Int) < 1 ∨ ((Frg.plc ent A L L.length).length : Int) < (n : Int) ∨ (o : Int) < 0 ∨ (z.length : Int) < 0) := by
  rw [Frg.plc_length]; omega
 rw [Frg.rd_ok hc1 (by rw [ht]; simp only []; omega), ht]
 simp only [Int.toNat_natCast]
 rw [h3]
theorem plc_is (B : Frg.Bl) (F s : List Int) (hF : F.length = 64) : ∀ k, k ≤ B.length → (plc B s k).1 = s ++ Frg.frs ent B k ∧ (plc B s k).2 = Frg.plc ent (F ++ s) B k
 | 0, _ => ⟨by simp [plc, Frg.frs], by simp [plc, Frg.plc]⟩
 | k + 1, h => by
  obtain ⟨h1, h2⟩ := plc_is B F s hF k (by omega)
  rw [plc]
  simp only []
  rw [h1, h2, Frg.plc_succ, Frg.frs_succ ent B k (by omega)]
  refine ⟨?_, ?_⟩
  ·rw [List.append_assoc, List.getD_eq_getElem?_getD, List.getElem?_eq_getElem (by omega)]; rfl
  ·congr 2
   rw [List.length_append, List.length_append, hF]
   omega
def datOf (X P : List Int) (r : Ino.Rec) : List Int := (Dat.rd ent X r.start r.size 0 r.size).1 ++ if r.size % 128 = 0 then [] else (Frg.rd ent X P r.frag r.off (r.size % 128)).1
section
variable {l : List Nod} {own : List Int}
theorem dat_is (h : Tq l) {i : Nat} (hi : i < l.length) (hk : (gn l i).kind = 2) {F Y : List Int} (hF : F.length = 64) {r : Ino.Rec} (h1 : r.start = ((flOf l (fmOf l) i).start : Nat)) (h2 : r.size = ((gn l i).data.length : Nat)) (h3 : r.frag = ((flOf l (fmOf l) i).frag : Nat)) (h4 : r.off = ((flOf l (fmOf l) i).off : Nat)) :
  datOf (F ++ (y1 l ++ Y)) (bk l).2 r = (gn l i).data := by
 obtain ⟨hd, ht⟩ := file_has h hi hk
 obtain ⟨e1, e2⟩ := plc_is (cont l l.length).b F (cont l l.length).s.1 hF (cont l l.length).b.length (Nat.le_refl _)
 have hle := may_data (h.tl.may _ (gn_mem hi))
 have hCI := cont_inv l l.length
 have ey : y1 l = (cont l l.length).s.1 ++ Frg.frs ent (cont l l.length).b (cont l l.length).b.length := e1
 have eb : (bk l).2 = Frg.plc ent (F ++ (cont l l.length).s.1) (cont l l.length).b (cont l l.length).b.length := e2
 rw [ey, eb]
 unfold datOf
 rw [h1, h2, h3, h4]
 generalize (gn l i).data = z at *
 generalize flOf l (fmOf l) i = fl at *
 have hwt : z = Dat.wh z ++ Dat.tl z := by unfold Dat.wh Dat.tl; rw [List.take_append_drop]
 have hA : (Dat.rd ent (F ++ ((cont l l.length).s.1 ++ Frg.frs ent (cont l l.length).b (cont l l.length).b.length ++ Y)) (fl.start : Nat) (z.length : Nat) 0 (z.length : Nat)).1 = Dat.wh z := by
  rcases hd.at (cont_has l l.length).ok with ⟨e, _⟩ | ⟨A, Z, e, es⟩
  ·have h0 := (Dat.run_nil ent z).1 e
   have := Dat.rd_none (T := ent) (z := F ++ ((cont l l.length).s.1 ++ Frg.frs ent (cont l l.length).b (cont l l.length).b.length ++ Y)) (start := (fl.start : Nat)) (size := z.length) (off := 0) (n := z.length) hle (.inr (by omega))
   simp only [Int.ofNat_zero] at this
   rw [this]
   unfold Dat.wh
   rw [h0]; rfl
  ·have hr := Dat.rd_run small_ent z (F ++ A) (Z ++ (Frg.frs ent (cont l l.length).b (cont l l.length).b.length ++ Y)) 0 z.length hle
   rw [List.length_append, hF, ← es] at hr
   have ee : F ++ ((cont l l.length).s.1 ++ Frg.frs ent (cont l l.length).b (cont l l.length).b.length ++ Y) = F ++ A ++ (Dat.run ent z ++ (Z ++ (Frg.frs ent (cont l l.length).b (cont l l.length).b.length ++ Y))) := by rw [e]; simp
   rw [ee]
   rw [show ((0 : Nat) : Int) = 0 from rfl] at hr
   rw [hr]
   simp only [List.drop_zero]
   exact List.take_of_length_le (by rw [Dat.wh_length]; omega)
 rw [hA]
 have htl := Dat.tl_length z
 rcases ht with ⟨e, _⟩ | ⟨e, ht⟩
 ·rw [e, List.length_nil] at htl
  rw [if_pos (by omega), List.append_nil]
  conv => rhs; rw [hwt, e, List.append_nil]
 ·have hp : 0 < (Dat.tl z).length := List.length_pos_iff.2 e
  rw [if_neg (by omega)]
  have hr := frag_has (A := F ++ (cont l l.length).s.1) (Y := Y) hCI.ok ht
  rw [htl] at hr
  have ee : F ++ ((cont l l.length).s.1 ++ Frg.frs ent (cont l l.length).b (cont l l.length).b.length ++ Y) = F ++ (cont l l.length).s.1 ++ (Frg.frs ent (cont l l.length).b (cont l l.length).b.length ++ Y) := by simp
  rw [ee, show ((z.length : Nat) : Int) % 128 = ((z.length % 128 : Nat) : Int) by omega, hr]
  exact hwt.symm
theorem wq_has (h : Tq l) (ho : OwnN l own) : WH l own (fmOf l) (wq l own).1 ∧ lkR l (wq l own).1.R (gn l 0).ino = some (wq l own).2 := by
 have := wr_has h ho 17 0 ws0 h.tl.pos (by omega) (wi0 l) (wh0 l own _)
 exact ⟨this.2.1, this.2.2.2⟩
theorem dir_in (h : Tq l) (ho : OwnN l own) {k r : Nat} (hk : k < l.length) (hd : (gn l k).kind = 1) (e : lkR l (wq l own).1.R (gn l k).ino = some r) : (k, r) ∈ (wq l own).1.R := by
 obtain ⟨k', hm, hi⟩ := lkR_in e
 have hlt := (h.tl.wi own).lt k' (List.mem_map.2 ⟨_, hm, rfl⟩)
 rw [h.tl.uno k k' hk hlt hi.symm hd]
 exact hm
theorem kid_of {i k : Nat} (hi : i < l.length) (hn : (gn l i).names ≠ []) (e : (gn l k).names = (gn l i).names.dropLast) : i ∈ kidsN l (gn l k).names := by
 have hp : 0 < (gn l i).names.length := List.length_pos_iff.2 hn
 refine kidsN_mem.2 ⟨hi, kidN_iff.2 ?_⟩
 rw [e, List.length_dropLast]
 exact ⟨by omega, by rw [List.dropLast_eq_take]⟩
theorem all_refs (h : Tq l) (ho : OwnN l own) : ∀ n i, i < n → i < l.length → ∃ r, lkR l (wq l own).1.R (gn l i).ino = some r
 | 0, i, hn, _ => by omega
 | n + 1, i, hn, hi => by
  by_cases h0 : (gn l i).names = []
  ·have hz : i = 0 := by
    rcases Nat.eq_zero_or_pos i with c | c
    ·exact c
    ·have := h.ord 0 i c hi
     rw [h0, h.root, less_irrefl] at this; cases this
   subst hz
   exact ⟨_, (wq_has h ho).2⟩
  ·obtain ⟨k, hk, e1, e2⟩ := h.par i hi h0
   obtain ⟨r, hr⟩ := all_refs h ho n k (by omega) (by omega)
   obtain ⟨q, x, hq, _⟩ := (wq_has h ho).1.r _ (dir_in h ho (by omega) e2 hr)
   rcases hq with ⟨_, _, _, _, _, k5⟩ | ⟨a, _⟩ | ⟨a, _⟩
   ·obtain ⟨r', hr'⟩ := Option.isSome_iff_exists.1 (k5 i (kid_of hi h0 e1))
    exact ⟨r', hr'⟩
   ·simp only [] at a; omega
   ·simp only [] at a; omega
theorem ref_ino (h : Tq l) (ho : OwnN l own) {x y : Int} {r : Nat} (hx : lkR l (wq l own).1.R x = some r) (hy : lkR l (wq l own).1.R y = some r) : x = y := by
 obtain ⟨i, hi, rfl⟩ := lkR_in hx
 obtain ⟨j, hj, rfl⟩ := lkR_in hy
 have ha := (wq_has h ho).1.asc
 obtain ⟨a, ha1, ha2⟩ := List.getElem_of_mem hi
 obtain ⟨b, hb1, hb2⟩ := List.getElem_of_mem hj
 rcases Nat.lt_trichotomy a b with c | c | c
 ·have := List.pairwise_iff_getElem.1 ha a b ha1 hb1 c
  rw [ha2, hb2] at this; simp only [] at this; omega
 ·subst c
  rw [ha2] at hb2
  have : i = j := congrArg Prod.fst hb2
  rw [this]
 ·have := List.pairwise_iff_getElem.1 ha b a hb1 ha1 c
  rw [ha2, hb2] at this; simp only [] at this; omega
end
end Go.Proofs.YtoohanojfoichaaGreatDoor.Bld
namespace Go.Proofs.YtoohanojfoichaaGreatDoor.Bld
open Lz (g)
open Crc (ent)
open Frm Mtr Tre Nam Tab
structure Eqs (l : List Nod) (own : List Int) (l' : List Nod) (own' : List Int) : Prop where
 im : im l own = im l' own'
 I : (wq l own).1.I = (wq l' own').1.I
 D : (wq l own).1.D = (wq l' own').1.D
 X : (wq l own).1.X = (wq l' own').1.X
 ow : own = own'
 P : (bk l).2 = (bk l').2
 root : (wq l own).2 = (wq l' own').2
theorem Eqs.symm {l l' : List Nod} {own own' : List Int} (h : Eqs l own l' own') : Eqs l' own' l own := ⟨h.im.symm, h.I.symm, h.D.symm, h.X.symm, h.ow.symm, h.P.symm, h.root.symm⟩
section
variable {l l' : List Nod} {own own' : List Int}
theorem own_in (h : Tq l) (ho : OwnN l own) : ∀ x ∈ own, 0 ≤ x ∧ x < 256 ^ 2 := fun x hx => by
 obtain ⟨n, hn, e⟩ := (ho.2 x).1 hx
 have hm := h.tl.may n hn
 unfold Tre.may at hm
 simp only [Bool.and_eq_true] at hm
 have m2 := hm.1.1.2
 unfold attrOk at m2
 rw [decide_eq_true_iff] at m2
 rcases e with rfl | rfl <;> omega
theorem plc_bd (h : Tq l) : ∀ x ∈ (bk l).2, 0 ≤ x ∧ x < 256 ^ 4 := fun x hx => by
 have hCI := cont_inv l l.length
 have h1 := plc_in (cont l l.length).b hCI.ok (cont l l.length).s.1 (cont l l.length).b.length (Nat.le_refl _) x hx
 have hn := h.tl.n40
 obtain ⟨s1, s2, s3, s4⟩ := h.tl.sums
 have h2 := hCI.s1
 have h3 := hCI.b
 omega
theorem eqs_of (h : Tq l) (ho : OwnN l own) (h' : Tq l') (ho' : OwnN l' own') (e : im l own = im l' own') : Eqs l own l' own' := by
 have es : isb l own = isb l' own' := by rw [← (h.tl.good ho).2, ← (h'.tl.good ho').2, e]
 have f0 : (64 + (y1 l).length : Int) = 64 + (y1 l').length := by have := congrArg Sup.Sb.inodeAt es; unfold isb sbl at this; simp only [] at this; omega
 have f1 : (64 + (y1 l).length + (y2 l own).length : Int) = 64 + (y1 l').length + (y2 l' own').length := by have := congrArg Sup.Sb.dirAt es; unfold isb sbl at this; simp only [] at this; omega
 have f2 : (64 + (y1 l).length + (y2 l own).length + (y3 l own).length : Int) = 64 + (y1 l').length + (y2 l' own').length + (y3 l' own').length := by have := congrArg Sup.Sb.fragAt es; unfold isb sbl at this; simp only [] at this; omega
 have f3 : (64 + (y1 l).length + (y2 l own).length + (y3 l own).length + (y4 l).length : Int) = 64 + (y1 l').length + (y2 l' own').length + (y3 l' own').length + (y4 l').length := by have := congrArg Sup.Sb.idAt es; unfold isb sbl at this; simp only [] at this; omega
 have f4 : (64 + (y1 l).length + (y2 l own).length + (y3 l own).length + (y4 l).length + (y5 own).length : Int) = 64 + (y1 l').length + (y2 l' own').length + (y3 l' own').length + (y4 l').length + (y5 own').length := by have := congrArg Sup.Sb.xattrAt es; unfold isb sbl at this; simp only [] at this; omega
 have f5 : (wq l own).2 = (wq l' own').2 := by have := congrArg Sup.Sb.root es; unfold isb sbl sb0 at this; simp only [] at this; omega
 have e0 := e
 unfold im at e0
 obtain ⟨_, e1⟩ := List.append_inj e0 (by rw [fst64_length, fst64_length])
 obtain ⟨g1, e2⟩ := List.append_inj e1 (by omega)
 obtain ⟨g2, e3⟩ := List.append_inj e2 (by omega)
 obtain ⟨g3, e4⟩ := List.append_inj e3 (by omega)
 obtain ⟨g4, e5⟩ := List.append_inj e4 (by omega)
 obtain ⟨g5, g6⟩ := List.append_inj e5 (by omega)
 refine ⟨e, done_inj _ _ _ (Nat.le_refl _) g2, done_inj _ _ _ (Nat.le_refl _) g3, done_inj _ _ _ (Nat.le_refl _) g6, ?_, ?_, f5⟩
 ·have := done_inj _ _ _ (Nat.le_refl _) g5
  have a1 := putN_is 2 (.inl rfl) (own_in h ho)
  have a2 := putN_is 2 (.inl rfl) (own_in h' ho')
  exact bw_inj 2 (by omega) _ _ (own_in h ho) (own_in h' ho') (a1.symm.trans (this.trans a2))
 ·have := done_inj _ _ _ (Nat.le_refl _) g4
  have a1 := putN_is 4 (.inr rfl) (plc_bd h)
  have a2 := putN_is 4 (.inr rfl) (plc_bd h')
  exact bw_inj 4 (by omega) _ _ (plc_bd h) (plc_bd h') (a1.symm.trans (this.trans a2))
theorem node_rest {n : Nod} (h : Tre.may n = true) : (n.kind ≠ 3 → n.target = ⟨#[]⟩) ∧ (n.kind ≠ 2 → n.data = []) ∧ n.opq = false := by
 unfold Tre.may at h
 simp only [Bool.and_eq_true, Bool.not_eq_true'] at h
 obtain ⟨⟨⟨h1, _⟩, _⟩, h4⟩ := h
 unfold kdOk at h1
 refine ⟨fun k => ?_, fun k => ?_, h4⟩
 ·split at h1
  ·simp only [Bool.and_eq_true] at h1; exact Ino.emp_iff.1 h1.2
  ·split at h1
   ·simp only [Bool.and_eq_true] at h1; exact Ino.emp_iff.1 h1.2
   ·cases h1
 ·rw [if_neg k] at h1
  split at h1
  ·simp only [Bool.and_eq_true, decide_eq_true_eq] at h1; exact List.eq_nil_of_length_eq_zero h1.1
  ·split at h1
   ·simp only [Bool.and_eq_true, decide_eq_true_eq] at h1; exact List.eq_nil_of_length_eq_zero h1.1
   ·cases h1
theorem idx_inj {own : List Int} {a b : Int} (ha : a ∈ own) (hb : b ∈ own) (e : own.idxOf a = own.idxOf b) : a = b := by
 have h1 := List.idxOf_lt_length_of_mem ha
 have h2 := List.idxOf_lt_length_of_mem hb
 have e1 : own[own.idxOf a] = a := List.getElem_idxOf h1
 have e2 : own[own.idxOf b] = b := List.getElem_idxOf h2
 rw [← e1, ← e2]
 simp only [e]
theorem dat_im (h : Tq l) {i : Nat} (hi : i < l.length) (hk : (gn l i).kind = 2) {r : Ino.Rec} (h1 : r.start = ((flOf l (fmOf l) i).start : Nat)) (h2 : r.size = ((gn l i).data.length : Nat)) (h3 : r.frag = ((flOf l (fmOf l) i).frag : Nat)) (h4 : r.off = ((flOf l (fmOf l) i).off : Nat)) :
  datOf (im l own) (bk l).2 r = (gn l i).data := by
 unfold im
 exact dat_is h hi hk (fst64_length _) h1 h2 h3 h4
theorem rec_eq (h : Tq l) (ho : OwnN l own) (h' : Tq l') (ho' : OwnN l' own') (E : Eqs l own l' own') {k k' r : Nat} (hm : (k, r) ∈ (wq l own).1.R) (hm' : (k', r) ∈ (wq l' own').1.R) :
  alike (gn l k) (gn l' k') = true ∧ ((gn l k).kind = 1 → entsOf l (wq l own).1.R k = entsOf l' (wq l' own').1.R k') := by
 have hk := (h.tl.wi own).lt k (List.mem_map.2 ⟨_, hm, rfl⟩)
 have hk' := (h'.tl.wi own').lt k' (List.mem_map.2 ⟨_, hm', rfl⟩)
 obtain ⟨q, x, a1, a2, a3, a4⟩ := (wq_has h ho).1.r _ hm
 obtain ⟨q', x', b1, b2, b3, b4⟩ := (wq_has h' ho').1.r _ hm'
 simp only [] at a1 a2 a3 a4 b1 b2 b3 b4
 rw [← E.I] at b4
 obtain ⟨u, v, huv⟩ := a4.one b4
 have er := rec_inj a3 b3 huv
 have ekd : (gn l k).kind = (gn l' k').kind := congrArg Ino.Rec.kind er
 have emo : (gn l k).mode = (gn l' k').mode := congrArg Ino.Rec.mode er
 have eui : (own.idxOf (gn l k).uid : Int) = own'.idxOf (gn l' k').uid := congrArg Ino.Rec.uid er
 have egi : (own.idxOf (gn l k).gid : Int) = own'.idxOf (gn l' k').gid := congrArg Ino.Rec.gid er
 have exa : (x : Int) = x' := congrArg Ino.Rec.xattr er
 have est : q.start = q'.start := (congrArg Ino.Rec.start er :)
 have esz : q.size = q'.size := (congrArg Ino.Rec.size er :)
 have efr : q.frag = q'.frag := (congrArg Ino.Rec.frag er :)
 have eof : q.off = q'.off := (congrArg Ino.Rec.off er :)
 have etg : q.target = q'.target := (congrArg Ino.Rec.target er :)
 rw [← E.ow] at eui egi
 have euid : (gn l k).uid = (gn l' k').uid := idx_inj ((ho.2 _).2 ⟨_, gn_mem hk, .inl rfl⟩) (by rw [E.ow]; exact (ho'.2 _).2 ⟨_, gn_mem hk', .inl rfl⟩) (by omega)
 have egid : (gn l k).gid = (gn l' k').gid := idx_inj ((ho.2 _).2 ⟨_, gn_mem hk, .inr rfl⟩) (by rw [E.ow]; exact (ho'.2 _).2 ⟨_, gn_mem hk', .inr rfl⟩) (by omega)
 have exs : (gn l k).xs = (gn l' k').xs := by
  rcases a2 with ⟨a, ax⟩ | ⟨a, _, rx, ax, aA⟩
  ·rcases b2 with ⟨b, bx⟩ | ⟨b, _, ry, bx, bA⟩
   ·rw [a, b]
   ·omega
  ·rcases b2 with ⟨b, bx⟩ | ⟨b, _, ry, bx, bA⟩
   ·omega
   ·obtain rfl : rx = ry := by omega
    rw [← E.X] at bA
    obtain ⟨u, v, huv⟩ := aA.one bA
    exact xsB_inj huv
 obtain ⟨n1, n2, n3⟩ := node_rest (h.tl.may _ (gn_mem hk))
 obtain ⟨m1, m2, m3⟩ := node_rest (h'.tl.may _ (gn_mem hk'))
 have etgt : (gn l k).target = (gn l' k').target := by
  by_cases k3 : (gn l k).kind = 3
  ·rcases a1 with ⟨a, _⟩ | ⟨a, _⟩ | ⟨_, rfl⟩
   ·omega
   ·omega
   ·rcases b1 with ⟨b, _⟩ | ⟨b, _⟩ | ⟨_, rfl⟩
    ·omega
    ·omega
    ·exact etg
  ·rw [n1 k3, m1 (by omega)]
 have edat : (gn l k).data = (gn l' k').data := by
  by_cases k2 : (gn l k).kind = 2
  ·rcases a1 with ⟨a, _⟩ | ⟨_, rfl⟩ | ⟨a, _⟩
   ·omega
   ·rcases b1 with ⟨b, _⟩ | ⟨_, rfl⟩ | ⟨b, _⟩
    ·omega
    ·have c1 := dat_im (own := own) h hk k2 (r := { rec0 with start := ((flOf l (fmOf l) k).start : Nat), size := ((gn l k).data.length : Nat), frag := ((flOf l (fmOf l) k).frag : Nat), off := ((flOf l (fmOf l) k).off : Nat) }) rfl rfl rfl rfl
     have c2 := dat_im (own := own') h' hk' (by omega) (r := { rec0 with start := ((flOf l (fmOf l) k).start : Nat), size := ((gn l k).data.length : Nat), frag := ((flOf l (fmOf l) k).frag : Nat), off := ((flOf l (fmOf l) k).off : Nat) }) est esz efr eof
     rw [← c1, ← c2, E.im, E.P]
    ·omega
   ·omega
  ·rw [n2 k2, m2 (by omega)]
 refine ⟨(alike_iff _ _).2 ⟨ekd, ⟨emo, euid, egid⟩, etgt, by rw [n3, m3], edat, exs⟩, fun k1 => ?_⟩
 rcases a1 with ⟨_, r1, rfl, c1, c2, c3⟩ | ⟨a, _⟩ | ⟨a, _⟩
 ·rcases b1 with ⟨_, r2, rfl, d1, d2, d3⟩ | ⟨b, _⟩ | ⟨b, _⟩
  ·have e1 : ((r1 : Nat) : Int) = (r2 : Nat) := est
   have e2 : (((Dir.putB (entsOf l (wq l own).1.R k)).length : Nat) : Int) = ((Dir.putB (entsOf l' (wq l' own').1.R k')).length : Nat) := esz
   obtain rfl : r1 = r2 := by omega
   rw [← E.D] at d2
   obtain ⟨u, v, huv⟩ := c2.one d2
   have e3 := (List.append_inj huv (by omega)).1
   have p1 := Dir.par_putB (Dir.may_fit c1)
   have p2 := Dir.par_putB (Dir.may_fit d1)
   rw [e3, p2] at p1
   exact (congrArg Prod.fst p1).symm
  ·omega
  ·omega
 ·omega
 ·omega
theorem node_eq (h : Tq l) (ho : OwnN l own) (h' : Tq l') (ho' : OwnN l' own') (E : Eqs l own l' own') {i i' r : Nat} (hi : i < l.length) (hi' : i' < l'.length) (e : lkR l (wq l own).1.R (gn l i).ino = some r) (e' : lkR l' (wq l' own').1.R (gn l' i').ino = some r) :
  alike (gn l i) (gn l' i') = true ∧ ((gn l i).kind = 1 → entsOf l (wq l own).1.R i = entsOf l' (wq l' own').1.R i') := by
 obtain ⟨k, hm, hk⟩ := lkR_in e
 obtain ⟨k', hm', hk'⟩ := lkR_in e'
 have hkl := (h.tl.wi own).lt k (List.mem_map.2 ⟨_, hm, rfl⟩)
 have hkl' := (h'.tl.wi own').lt k' (List.mem_map.2 ⟨_, hm', rfl⟩)
 obtain ⟨a, b⟩ := rec_eq h ho h' ho' E hm hm'
 have c1 := h.same i k hi hkl hk.symm
 have c2 := h'.same k' i' hkl' hi' hk'
 refine ⟨alike_trans c1 (alike_trans a c2), fun k1 => ?_⟩
 have e1 := h.tl.uno i k hi hkl hk.symm k1
 have kk : (gn l k).kind = 1 := by rw [← e1]; exact k1
 have kk' : (gn l' k').kind = 1 := by rw [← ((alike_iff _ _).1 a).1]; exact kk
 have e2 := h'.tl.uno k' i' hkl' hi' hk' kk'
 rw [e1, ← e2]
 exact b kk
theorem all_in (h : Tq l) (ho : OwnN l own) (h' : Tq l') (ho' : OwnN l' own') (E : Eqs l own l' own') : ∀ n i, i < n → i < l.length → ∃ i' r, i' < l'.length ∧ (gn l' i').names = (gn l i).names ∧ lkR l (wq l own).1.R (gn l i).ino = some r ∧ lkR l' (wq l' own').1.R (gn l' i').ino = some r
 | 0, i, hn, _ => by omega
 | n + 1, i, hn, hi => by
  by_cases h0 : (gn l i).names = []
  ·have hz : i = 0 := by
    rcases Nat.eq_zero_or_pos i with c | c
    ·exact c
    ·have := h.ord 0 i c hi
     rw [h0, h.root, less_irrefl] at this; cases this
   subst hz
   exact ⟨0, _, h'.tl.pos, by rw [h'.root, h.root], (wq_has h ho).2, by rw [E.root]; exact (wq_has h' ho').2⟩
  ·obtain ⟨k, hk, e1, e2⟩ := h.par i hi h0
   obtain ⟨k', rk, hk', en, er, er'⟩ := all_in h ho h' ho' E n k (by omega) (by omega)
   obtain ⟨al, ents⟩ := node_eq h ho h' ho' E (by omega) hk' er er'
   have hE := ents e2
   obtain ⟨r, hr⟩ := all_refs h ho (i + 1) i (by omega) hi
   have him : i ∈ kidsN l (gn l k).names := kid_of hi h0 e1
   have hmem : ent1 l (gn l k).names.length i r ∈ entsOf l (wq l own).1.R k := by
    unfold entsOf
    exact List.mem_map.2 ⟨i, him, by rw [hr]; rfl⟩
   rw [hE] at hmem
   unfold entsOf at hmem
   obtain ⟨j', hj', ej⟩ := List.mem_map.1 hmem
   rw [en] at hj' ej
   obtain ⟨hj1, hj2⟩ := kidsN_mem.1 hj'
   obtain ⟨r', hr'⟩ := all_refs h' ho' (j' + 1) j' (by omega) hj1
   rw [hr'] at ej
   have e3 : gs (gn l' j').names (gn l k).names.length = gs (gn l i).names (gn l k).names.length := congrArg Dir.Ent.name ej
   have e4 : ((r' : Nat) : Int) = (r : Nat) := congrArg Dir.Ent.ref ej
   refine ⟨j', r, hj1, ?_, hr, by rw [hr']; congr 1; omega⟩
   rw [kid_names hj2, e3, ← kid_names (kidsN_mem.1 him).2]
theorem sorted_one {α : Type} {lt : α → α → Prop} (hs : ∀ a b, lt a b → lt b a → False) : ∀ (a b : List α), a.Pairwise lt → b.Pairwise lt → (∀ x, x ∈ a ↔ x ∈ b) → a = b
 | [], [], _, _, _ => rfl
 | [], y :: b, _, _, h => by have := (h y).2 (List.mem_cons_self ..); simp at this
 | x :: a, [], _, _, h => by have := (h x).1 (List.mem_cons_self ..); simp at this
 | x :: a, y :: b, ha, hb, h => by
  rw [List.pairwise_cons] at ha hb
  have e : x = y := by
   have h1 := (h x).1 (List.mem_cons_self ..)
   have h2 := (h y).2 (List.mem_cons_self ..)
   rcases List.mem_cons.1 h1 with h1 | h1
   ·exact h1
   ·rcases List.mem_cons.1 h2 with h2 | h2
    ·exact h2.symm
    ·exact (hs _ _ (hb.1 x h1) (ha.1 y h2)).elim
  subst e
  rw [sorted_one hs a b ha.2 hb.2 fun z => ?_]
  constructor
  ·intro hz
   rcases List.mem_cons.1 ((h z).1 (List.mem_cons_of_mem _ hz)) with e | e
   ·rw [e] at hz; exact (hs _ _ (ha.1 x hz) (ha.1 x hz)).elim
   ·exact e
  ·intro hz
   rcases List.mem_cons.1 ((h z).2 (List.mem_cons_of_mem _ hz)) with e | e
   ·rw [e] at hz; exact (hs _ _ (hb.1 x hz) (hb.1 x hz)).elim
   ·exact e
theorem names_asc (h : Tq l) : (l.map Nod.names).Pairwise (fun a b => less (nm a) (nm b) = true) := by
 rw [List.pairwise_map, List.pairwise_iff_getElem]
 intro i j hi hj hij
 have := h.ord i j hij hj
 rw [gn_lt _ _ hi, gn_lt _ _ hj] at this
 exact this
theorem ino_at {s : List Nod} {i : Nat} (h : i < s.length) : (gn (numb s) i).ino = (nno (ikeys s) i : Int) := by rw [gn_numb s i h]
theorem ino_pat (s : List Nod) {i j : Nat} (hi : i < s.length) (hj : j < s.length) : (gn (numb s) i).ino = (gn (numb s) j).ino ↔ s[i].ino = s[j].ino := by
 obtain ⟨f, hf, e⟩ := numb_is_ri s
 have h1 : (gn (numb s) i).ino = f s[i].ino := by rw [e, gn_lt _ _ (by simpa using hi)]; simp [ri]
 have h2 : (gn (numb s) j).ino = f s[j].ino := by rw [e, gn_lt _ _ (by simpa using hj)]; simp [ri]
 rw [h1, h2]
 exact ⟨fun e => hf _ (List.getElem_mem hi) _ (List.getElem_mem hj) e, fun e => by rw [e]⟩
theorem im_inj {a a' : List Nod} (h : Tq l) (hc : IsCanon a l) (ho : OwnN l own) (h' : Tq l') (hc' : IsCanon a' l') (ho' : OwnN l' own') (e : im l own = im l' own') : l = l' := by
 have E := eqs_of h ho h' ho' e
 have mem : ∀ {m m' : List Nod} {o o' : List Int}, Tq m → OwnN m o → Tq m' → OwnN m' o' → Eqs m o m' o' → ∀ x, x ∈ m.map Nod.names → x ∈ m'.map Nod.names := by
  intro m m' o o' t1 t2 t3 t4 t5 x hx
  obtain ⟨n, hn, rfl⟩ := List.mem_map.1 hx
  obtain ⟨i, hi, rfl⟩ := List.getElem_of_mem hn
  obtain ⟨i', r, hi', en, _⟩ := all_in t1 t2 t3 t4 t5 (i + 1) i (by omega) hi
  rw [← gn_lt _ _ hi, ← en]
  exact List.mem_map.2 ⟨_, gn_mem hi', rfl⟩
 have en : l.map Nod.names = l'.map Nod.names := sorted_one (fun a b h1 h2 => by rw [less_asymm _ _ h1] at h2; cases h2) _ _ (names_asc h) (names_asc h') fun x => ⟨mem h ho h' ho' E x, mem h' ho' h ho E.symm x⟩
 have el : l.length = l'.length := by simpa using congrArg List.length en
 have eni : ∀ i, i < l.length → (gn l i).names = (gn l' i).names := fun i hi => by
  rw [gn_lt _ _ hi, gn_lt _ _ (by omega)]
  have := List.getElem_of_eq en (i := i) (by simpa using hi)
  simpa using this
 have ref : ∀ i, i < l.length → ∃ r, lkR l (wq l own).1.R (gn l i).ino = some r ∧ lkR l' (wq l' own').1.R (gn l' i).ino = some r := fun i hi => by
  obtain ⟨i', r, hi', e1, e2, e3⟩ := all_in h ho h' ho' E (i + 1) i (by omega) hi
  have e4 : i' = i := by
   rw [eni i hi] at e1
   rcases Nat.lt_trichotomy i' i with c | c | c
   ·have := h'.ord i' i c (by omega)
    rw [e1, less_irrefl] at this; cases this
   ·exact c
   ·have := h'.ord i i' c hi'
    rw [e1, less_irrefl] at this; cases this
  rw [e4] at e3
  exact ⟨r, e2, e3⟩
 have pat : ∀ i j, i < l.length → j < l.length → ((gn l i).ino = (gn l j).ino ↔ (gn l' i).ino = (gn l' j).ino) := fun i j hi hj => by
  obtain ⟨r, e1, e2⟩ := ref i hi
  obtain ⟨q, f1, f2⟩ := ref j hj
  constructor
  ·intro e
   rw [e, f1] at e1
   cases e1
   exact ref_ino h' ho' e2 f2
  ·intro e
   rw [e, f2] at e2
   cases e2
   exact ref_ino h ho e1 f1
 have ino : ∀ i, i < l.length → (gn l i).ino = (gn l' i).ino := by
  obtain ⟨s, _, _, rfl⟩ := hc
  obtain ⟨s', _, _, rfl⟩ := hc'
  rw [numb_length, numb_length] at el
  have key := (nst_alike (ikeys_lit s) (ikeys_lit s') (by rw [ikeys_length, ikeys_length]; exact el) (fun a b ha hb => by
   rw [ikeys_length] at ha hb
   rw [ikeys_get s a ha, ikeys_get s b hb, ikeys_get s' a (by omega), ikeys_get s' b (by omega)]
   simp only [Lit.int.injEq, true_and]
   rw [← ino_pat s ha hb, ← ino_pat s' (by omega) (by omega)]
   exact pat a b (by rw [numb_length]; exact ha) (by rw [numb_length]; exact hb)) _ (Nat.le_refl _)).2
  intro i hi
  rw [numb_length] at hi
  rw [ino_at hi, ino_at (by omega), key i (by rw [ikeys_length]; exact hi)]
 refine List.ext_getElem el fun i h1 h2 => ?_
 obtain ⟨r, e1, e2⟩ := ref i h1
 have ha := (alike_iff _ _).1 (node_eq h ho h' ho' E h1 h2 e1 e2).1
 have k1 := eni i h1
 have k2 := ino i h1
 rw [← gn_lt _ _ h1, ← gn_lt _ _ h2]
 generalize gn l i = n at *
 generalize gn l' i = n' at *
 cases n
 cases n'
 simp only [] at ha k1 k2
 obtain ⟨a1, ⟨a2, a3, a4⟩, a5, a6, a7, a8⟩ := ha
 subst k1 k2 a1 a2 a3 a4 a5 a6 a7 a8
 rfl
end
end Go.Proofs.YtoohanojfoichaaGreatDoor.Bld
namespace Go.Proofs.YtoohanojfoichaaGreatDoor
open Go.RowKit Go.Maps
open Lz (g)
open Crc (ent)
open Frm Mtr Tre Nam Tab Bld
theorem fewL_names (L : List (Nv × Nod)) : ∀ p ∈ fewL L, p.2.names.length ≤ 1000000 := by
 intro p hp
 simp only [fewL, List.mem_map] at hp
 obtain ⟨q, hq, rfl⟩ := hp
 simp [Tre.cut]; omega
theorem Bld.one_iff {A B LA LB : List (Nv × Nod)} {la lb : List Nod} {oa ob : List Int} (h0 : check (nds A) = 0) (k0 : check (nds B) = 0) (ha : IsCanon (nds A) la) (hb : IsCanon (nds B) lb) (hoa : OwnN la oa) (hob : OwnN lb ob) (hA : IsCanon (nds A) (nds LA)) (hB : IsCanon (nds B) (nds LB)) (na : (nds A).length ≤ 40) (nb : (nds B).length ≤ 40) : decide (im la oa = im lb ob) = true ↔ nds LA = nds LB := by
 have e1 : la = nds LA := canon_one (check_zero h0).2.2.2.1 ha hA
 have e2 : lb = nds LB := canon_one (check_zero k0).2.2.2.1 hb hB
 rw [decide_eq_true_iff, ← e1, ← e2]
 constructor
 ·exact fun e => im_inj (Tq.of h0 ha na) ha hoa (Tq.of k0 hb nb) hb hob e
 ·intro e
  subst e
  rw [own_one hoa hob]
theorem Bld.can_names {A LA : List (Nv × Nod)} (h0 : check (nds A) = 0) (hA : IsCanon (nds A) (nds LA)) : ∀ p ∈ LA, p.2.names.length ≤ 1000000 := fun p hp => by
 obtain ⟨_, _, k3, _⟩ := check_zero (canon_check h0 hA)
 have q4 := List.any_eq_false.1 k3 p.2 (List.mem_map.2 ⟨p, hp, rfl⟩)
 unfold Tre.deep at q4
 simp only [decide_eq_true_eq] at q4
 omega
set_option maxRecDepth 100000 in
set_option maxHeartbeats 2000000 in
theorem one_walk (a : Option Addr) (n c : Nat) (L : List (Nv × Nod)) (b : Option Addr) (m d : Nat) (M : List (Nv × Nod)) (w : World) (hl : Ns w a n L) (hc : n ≤ c) (hcm : c ≤ 9223372036854775807) (hm : Ns w b m M) (hd : m ≤ d) (hdm : d ≤ 9223372036854775807) (hW : Wid w) :
  Calls Tryz.prog 4 #[.slice a n c, .slice b m d] w fun e w' => e = .returned (.bool true) ∧ Below w.heap.size w w' := by
 have HL := hide hl
 have HM := hide hm
 have HW := hide hW
 clear hl hm hW
 go_enter Tryz.func4, Tryz.ntmps4
 go_wp2_with (go_at_call 5; refine (shown_any _ HW.out).mono ?_)
 rintro e w1 ⟨rfl, hb1⟩
 have E1 := hide hb1
 clear hb1
 go_wp2_with (go_at_call 6; refine (few_any a n c L _ (HL.out.below E1.out) hc hcm).mono ?_)
 rintro e w2 ⟨ao, k, c', rfl, hk, hown, hns, hb2⟩
 obtain ⟨h1, h2, h3⟩ := cap_owns hown
 have E2 := hide (E1.out.trans (hb2.mono E1.out.size))
 have HN := hide hns
 have HF := hide (fewL_names L)
 clear hown hns hb2 h3 HL
 generalize fewL L = F at *
 go_wp2_with (go_at_call 6; refine (few_any b m d M _ (HM.out.below E2.out) hd hdm).mono ?_)
 rintro e w3 ⟨bo, j, d', rfl, hj, hown, hns, hb3⟩
 obtain ⟨g1, g2, g3⟩ := cap_owns hown
 have E3 := hide (E2.out.trans (hb3.mono E2.out.size))
 have HN3 := hide (HN.out.below hb3)
 have HG3 := hide hns
 have HH := hide (fewL_names M)
 clear hown hns hb3 g3 HM HN
 generalize fewL M = G at *
 have HB1 := hide (Build_few ao k c' F w3 HN3.out h1 h2 hk (HW.out.below E3.out HW.out.pos))
 go_wp2_with (go_at_call 7; refine HB1.out.mono ?_)
 rintro e w4 ⟨hb4, hAns⟩
 have E4 := hide (E3.out.trans (hb4.mono E3.out.size))
 have HN4 := hide (HN3.out.below hb4)
 have HG4 := hide (HG3.out.below hb4)
 obtain ⟨xo, xn, xc, ze, X, rfl, hBx, hdec⟩ : ∃ xo xn xc ze X, e = .returned (.tuple #[.slice xo xn xc, .int .i64 ze]) ∧ Bs w4 xo xn X ∧ ((ze ≠ 0) ∨ (ze = 0 ∧ check (nds F) = 0 ∧ ∃ l own, IsCanon (nds F) l ∧ OwnN l own ∧ X = im l own)) := by
  rcases hAns with ⟨h, rfl⟩ | ⟨h0, l, own, ib, hc, ho, ht, rfl, hib, hB⟩
  ·exact ⟨none, 0, 0, _, [], rfl, ⟨rfl, fun i => by simp [g], .inl rfl⟩, .inl h⟩
  ·exact ⟨_, _, _, _, _, rfl, hB, .inr ⟨rfl, h0, l, own, hc, ho, rfl⟩⟩
 have HBx := hide hBx
 have HDx := hide hdec
 clear hBx hdec hAns hb4 HB1 HN3 HG3
 have HB2 := hide (Build_few bo j d' G w4 HG4.out g1 g2 hj (HW.out.below E4.out HW.out.pos))
 go_wp2_with (go_at_call 7; refine HB2.out.mono ?_)
 rintro e w5 ⟨hb5, hAns⟩
 have E5 := hide (E4.out.trans (hb5.mono E4.out.size))
 have HN5 := hide (HN4.out.below hb5)
 have HG5 := hide (HG4.out.below hb5)
 obtain ⟨yo, yn, yc, zf, Y, rfl, hBy, hdec⟩ : ∃ yo yn yc zf Y, e = .returned (.tuple #[.slice yo yn yc, .int .i64 zf]) ∧ Bs w5 yo yn Y ∧ ((zf ≠ 0) ∨ (zf = 0 ∧ check (nds G) = 0 ∧ ∃ l own, IsCanon (nds G) l ∧ OwnN l own ∧ Y = im l own)) := by
  rcases hAns with ⟨h, rfl⟩ | ⟨h0, l, own, ib, hc, ho, ht, rfl, hib, hB⟩
  ·exact ⟨none, 0, 0, _, [], rfl, ⟨rfl, fun i => by simp [g], .inl rfl⟩, .inl h⟩
  ·exact ⟨_, _, _, _, _, rfl, hB, .inr ⟨rfl, h0, l, own, hc, ho, rfl⟩⟩
 have HBx5 := hide (HBx.out.below hb5)
 have HBy := hide hBy
 clear hBy hAns hb5 HB2 HN4 HG4 HBx
 rcases HDx.out with hz | ⟨rfl, h0, la, owa, hca, hoa, hX⟩
 ·have hz1 : (ze != 0) = true := by simpa using hz
  clear hz HDx hdec
  go_wp2
  go_ret
  exact ⟨rfl, E5.out⟩
 ·rcases hdec with hz | ⟨rfl, k0, lb, owb, hcb, hob, hY⟩
  ·have hz1 : (zf != 0) = true := by simpa using hz
   clear hz HDx hX
   go_wp2
   go_ret
   exact ⟨rfl, E5.out⟩
  ·have HC1 := hide (refCanon_ok ao k c' F w5 HN5.out h1 h2 HF.out h0)
   have HC0 := hide (And.intro h0 (And.intro k0 (And.intro hca (And.intro hcb (And.intro hoa hob)))))
   have HXY := hide (And.intro hX hY)
   have HFl := hide (And.intro HN5.out.1 HG5.out.1)
   clear HDx h0 k0 hca hcb hoa hob hX hY
   go_wp2_with (go_at_call 12; refine HC1.out.mono ?_)
   rintro e w6 ⟨po, pc, LA, rfl, hNA, hIA, hb6⟩
   have E6 := hide (E5.out.trans (hb6.mono E5.out.size))
   have HNA := hide hNA
   have HIA := hide hIA
   have HG6 := hide (HG5.out.below hb6)
   have HBx6 := hide (HBx5.out.below hb6)
   have HBy6 := hide (HBy.out.below hb6)
   have HC2 := hide (refCanon_ok bo j d' G w6 HG6.out g1 g2 HH.out HC0.out.2.1)
   clear hNA hIA hb6 HC1 HN5 HG5 HBx5 HBy
   go_wp2_with (go_at_call 12; refine HC2.out.mono ?_)
   rintro e w7 ⟨qo, qc, LB, rfl, hNB, hIB, hb7⟩
   obtain ⟨z0, z1, z2, z3, z4, z5⟩ := HC0.out
   have hiff := one_iff z0 z1 z2 z3 z4 z5 HIA.out hIB (by rw [nds_length, HFl.out.1]; exact hk) (by rw [nds_length, HFl.out.2]; exact hj)
   have hna := can_names z0 HIA.out
   have hnb := can_names z1 hIB
   rw [← HXY.out.1, ← HXY.out.2] at hiff
   have E7 := hide (E6.out.trans (hb7.mono E6.out.size))
   have HSm := hide (refSame7_any po qo k pc j qc LA LB w7 (HNA.out.below hb7) hNB hna hnb (by omega) _ hiff)
   have t1 : (convert 25 9 (.slice xo xn xc)).run Tryz.prog w7 = .ok (.string (strOfNums X)) w7 := str_any (HBx6.out.below hb7) xc
   have HX7 := hide (HBx6.out.below hb7)
   have HY7 := hide (HBy6.out.below hb7)
   clear hNB hIB hb7 z0 z1 z2 z3 z4 z5 hiff hna hnb HC0 HXY HC2 HNA HIA HG6 HBx6 HBy6 t1
   go_wp2_with (go_at_call 13; refine HSm.out.mono ?_)
   rintro e w8 ⟨rfl, hb8⟩
   have s1 : (convert 25 9 (.slice xo xn xc)).run Tryz.prog w8 = .ok (.string (strOfNums X)) w8 := str_any (HX7.out.below hb8) xc
   have s2 : (convert 25 9 (.slice yo yn yc)).run Tryz.prog w8 = .ok (.string (strOfNums Y)) w8 := str_any (HY7.out.below hb8) yc
   have s3 := str_eq HX7.out.bytes HY7.out.bytes
   have E8 := hide (E7.out.trans (hb8.mono E7.out.size))
   generalize strOfNums X = sX at *
   generalize strOfNums Y = sY at *
   clear hb8 HX7 HY7 HSm
   generalize decide (X = Y) = q at *
   cases q with
   | true =>
    go_wp2
    go_ret
    exact ⟨rfl, E8.out⟩
   | false =>
    go_wp2
    go_ret
    exact ⟨rfl, E8.out⟩
end Go.Proofs.YtoohanojfoichaaGreatDoor

/- What the proof stands on, part 7 of 7: the texts BldBuild, BldOk, SupTake, SupTake2, BldShown, BldFew, TreApp, TreOpen, TreOrd0, BldOrder, BldDoor, each with what the proof reaches of it. -/
import Derived.Test.YtchcejjoncihkaaGreatDoorJf
import Derived.Stop.BytesEq
import Derived.Deep.SlicePairs
import Derived.ProofKit
import Derived.OpenShut
import Derived.ChangeArms
import Derived.Deep.CutRange
import Derived.Lib.LaidTab
import Derived.LaidMore
import Derived.Stop.Joined

/- Layer 14: Build: a tree's image. -/
namespace Go.Proofs.YtchcejjoncihkaaGreatDoor
set_option linter.unusedVariables false
open Go.RowKit Go.Maps
open Lz (g)
open Crc (ent)
open Frm Mtr Tre Nam Tab Bld

namespace Bld
/-- The parts of a canonical tree's image. -/
def bk (l : List Nod) : List Int × List Int := plc (cont l l.length).b (cont l l.length).s.1 (cont l l.length).b.length
def wq (l : List Nod) (own : List Int) : Ws × Nat := wr l own (cont l l.length).m 17 0 ws0
def y1 (l : List Nod) : List Int := (bk l).1
def y2 (l : List Nod) (own : List Int) : List Int := done ent (wq l own).1.I
def y3 (l : List Nod) (own : List Int) : List Int := done ent (wq l own).1.D
def y4 (l : List Nod) : List Int := done ent (putN 4 (bk l).2).1
def y5 (own : List Int) : List Int := done ent (putN 2 own).1
def y6 (l : List Nod) (own : List Int) : List Int := done ent (wq l own).1.X
def sb0 (l : List Nod) (own : List Int) : Sup.Sb := ⟨0, ((wq l own).1.R.length : Nat), 0, 0, 0, 0, 0, (own.length : Nat), ((cont l l.length).b.length : Nat), ((wq l own).2 : Nat)⟩
/-- How long the image is. -/
def isz (l : List Nod) (own : List Int) : Nat := 64 + ((y1 l).length + (y2 l own).length + (y3 l own).length + (y4 l).length + (y5 own).length + (y6 l own).length)
def isb (l : List Nod) (own : List Int) : Sup.Sb := sbl (sb0 l own) (y1 l).length (y2 l own).length (y3 l own).length (y4 l).length (y5 own).length (y6 l own).length
def im (l : List Nod) (own : List Int) : List Int := fst64 (isb l own) ++ (y1 l ++ (y2 l own ++ (y3 l own ++ (y4 l ++ (y5 own ++ y6 l own)))))
end Bld
/-- What holds of a canonical row. -/
theorem tn_of {L L' : List (Nv × Nod)} (h0 : check (nds L) = 0) (hc : IsCanon (nds L) (nds L')) (hn : L.length ≤ 40) : Tn L' := by
  have hF := canF h0 hc
  obtain ⟨k1, k2, k3, k4, k5, k6, k7, k8⟩ := check_zero (canon_check h0 hc)
  have hlen : L'.length = L.length := by have := hF.len; rw [nds_length, nds_length] at this; exact this
  have hpos : 0 < L'.length := by have := hF.pos; rw [nds_length] at this; exact this
  refine ⟨hpos, by omega, fun i hi => ?_, fun i j hi hj e hk => ?_, k4, canP hF, fun n hn => List.all_eq_true.1 k7 n hn, fun n hn => ?_, fun n hn s hs => ?_⟩
  · have h1 := hF.ino i (by rw [nds_length]; exact hi)
    have h2 := hF.top i (by rw [nds_length]; omega)
    exact WalkArith.wf_i64 (by omega)
  · rcases Nat.lt_trichotomy i j with c | c | c
    · have := List.pairwise_iff_getElem.1 k8 i j hi hj c
      rw [← gn_lt _ _ hi, ← gn_lt _ _ hj] at this
      obtain ⟨h1, h2⟩ := this e
      exact absurd (((alike_iff _ _).1 h2).1 ▸ hk) h1
    · exact c
    · have := List.pairwise_iff_getElem.1 k8 j i hj hi c
      rw [← gn_lt _ _ hi, ← gn_lt _ _ hj] at this
      exact absurd hk (this e.symm).1
  · have := List.any_eq_false.1 k3 n hn
    unfold deep at this
    simpa using this
  · have h1 := fv_zero _ (wrong_zero _ k2 n hn) s hs
    have h2 := (valid_zero h1).1
    rw [toList_length] at h2
    exact h2
theorem may_data {n : Nod} (h : Tre.may n = true) : n.data.length ≤ 4096 := by
  unfold Tre.may at h
  simp only [Bool.and_eq_true] at h
  have h1 := h.1.1.1
  unfold kdOk at h1
  split at h1
  · simp only [Bool.and_eq_true, decide_eq_true_eq] at h1; omega
  · split at h1
    · simp only [Bool.and_eq_true, decide_eq_true_eq] at h1; omega
    · split at h1
      · simp only [Bool.and_eq_true, decide_eq_true_eq] at h1; omega
      · simp at h1
theorem load_sb {w : World} {b t : Nat} {cs : Array Value} {fr : Nat × Nat} (h : w.heap[b]? = some (.cells cs t fr)) (hs : cs.size = 10) : (loadVar 45 ⟨b, 0, none⟩).run Tryz.prog w = .ok (.agg cs) w :=
  run_loadVar_row w b t 45 cs fr _ h Tryz.underlying45 rfl (by rw [hs]; exact infoSb)
theorem plc_in (B : Frg.Bl) (hk : Frg.Ok B) (t : List Int) : ∀ k, k ≤ B.length → ∀ y ∈ (plc B t k).2, 0 ≤ y ∧ y ≤ ((64 + t.length + 135 * k : Nat) : Int)
  | 0, _, y, hy => by simp [plc] at hy
  | k + 1, h, y, hy => by
    rw [plc] at hy
    simp only [List.mem_append, List.mem_singleton] at hy
    rcases hy with hy | rfl
    · have := plc_in B hk t k (by omega) y hy; omega
    · have := (plc_len B hk t k (by omega)).1; omega
theorem done_le (z : List Int) : (done ent z).length ≤ 135 * ((z.length + 127) / 128) := fr_length ent z _
/-- What Build answers. -/
def BAns (L : List (Nv × Nod)) (w : World) (e : Ending) (w' : World) : Prop :=
  (check (nds L) ≠ 0 ∧ e = .returned (.tuple #[.slice none 0 0, .int .i64 (check (nds L))]) ∧ Below w.heap.size w w') ∨
  (check (nds L) = 0 ∧ ∃ l own, IsCanon (nds L) l ∧ OwnN l own ∧ Below w.heap.size w w' ∧
    ((1048576 < isz l own ∧ e = .returned (.tuple #[.slice none 0 0, .int .i64 3])) ∨
     (isz l own ≤ 1048576 ∧ ∃ ib, e = .returned (.tuple #[.slice (some ⟨ib, 0, none⟩) (isz l own) (isz l own), .int .i64 0]) ∧ w.heap.size ≤ ib ∧ w'.heap[ib]? = some (.cells (bv (im l own)).toArray 5 (0, 0)) ∧ Bytes (im l own))))
set_option maxRecDepth 100000 in
set_option maxHeartbeats 16000000 in
theorem Build_any (a : Option Addr) (n c : Nat) (L : List (Nv × Nod)) (w : World) (hN : Ns w a n L) (hc : n ≤ c) (hcm : c ≤ 9223372036854775807) (hn : n ≤ 40) (hW : Wid w) :
    Calls Tryz.prog 10 #[.slice a n c] w (BAns L w) := by
  have hl := hN.1
  by_cases h0 : check (nds L) = 0
  · have HC := hide (Canon_ok a n c L w hN hc hcm h0)
    have HW := hide hW
    have H0 := hide h0
    clear hN h0 hW
    go_enter Tryz.func10, Tryz.ntmps10
    go_wp2_with fail
    refine HC.out.mono ?_
    rintro r w1 ⟨blk, L', rfl, hO1, hG1, hI1, hb1⟩
    have hN1 : Ns w1 (some ⟨blk, 0, none⟩) n L' := (sh_of_owns hO1).ns (fun p hp => (hG1 p hp).rep)
    have hl1 := hN1.1
    have ht := tn_of H0.out hI1 (by omega)
    have HN1 := hide hN1
    have HTn := hide ht
    have HI1 := hide hI1
    have HB1 := hide hb1
    clear hO1 hG1 hI1 hb1 hN1 ht HC
    go_wp2_with fail
    refine (New_any w1).mono ?_
    rintro r w2 ⟨rfl, hb2⟩
    obtain ⟨C, hC⟩ : ∃ C, C = tab ent := ⟨_, rfl⟩
    rw [← hC]
    have HCt := hide hC
    have HB2 := hide hb2
    clear hC hb2
    go_wp2_with (refine wpList_store_table rfl _ _ rfl ent C HCt.out rfl rfl _ (by simp) ?_; intro w3 ht3 hT3 hlt3 hb3)
    obtain ⟨tb, htb⟩ : ∃ tb, tb = w2.heap.size := ⟨_, rfl⟩
    rw [← htb] at hT3 hlt3 ⊢
    have b13 : Below w1.heap.size w1 w3 := HB2.out.trans (hb3.mono HB2.out.size)
    have HT3 := hide hT3
    have HB13 := hide b13
    clear ht3 hT3 hb3 HCt b13 htb HB2
    have HCo := hide (cont_any (some ⟨blk, 0, none⟩) n n tb L' w3 (HN1.out.below HB13.out) HT3.out hlt3 hn (fun p hp => (may_data (HTn.out.may p.2 (List.mem_map.2 ⟨p, hp, rfl⟩)))) (fun p hp => by
      obtain ⟨j, hj, rfl⟩ := List.getElem_of_mem hp
      have := HTn.out.ino j hj
      rw [gn_nds L' j hj, gl_lt L' j hj] at this
      exact this))
    unfold CAns at HCo
    obtain ⟨l, hle⟩ : ∃ l, l = nds L' := ⟨_, rfl⟩
    rw [← hle] at HCo
    have eb : plc (cont l l.length).b (cont l l.length).s.1 (cont l l.length).b.length = bk l := rfl
    rw [eb] at HCo
    have hCI := cont_inv l l.length
    have hpl := plc_len (cont l l.length).b hCI.ok (cont l l.length).s.1 (cont l l.length).b.length (Nat.le_refl _)
    rw [eb] at hpl
    have hll : l.length = n := by rw [hle, nds_length]; exact hl1
    have hbw : sm (bw l) l.length ≤ 4320 * l.length := sm_const l.length (fun k hk => by
      have := may_data (HTn.out.may (gn l k) (by rw [gn_lt _ _ hk, ← hle]; exact List.getElem_mem hk))
      unfold bw; omega)
    have hbl : (cont l l.length).b.length ≤ 40 := by have := hCI.b; omega
    have hy1 : (bk l).1.length ≤ 400000 := by have := hCI.s1; omega
    have hy12 := hpl.2
    have HBk := hide hbl
    have HY1 := hide hy1
    have HY12 := hide hy12
    have HLe := hide hle
    have HLl := hide hll
    have HBw := hide hbw
    clear eb hpl hCI hbw hbl hy1 hy12 hle hll
    go_wp2_with fail
    refine HCo.out.mono ?_
    rintro r w4 ⟨bo, bc, po, pc, fb, rfl, hB4, hnil4, hZ4, hF4, hb4⟩
    obtain ⟨yl, hyl⟩ : ∃ yl, yl = (bk l).1.length := ⟨_, rfl⟩
    obtain ⟨bl, hbl⟩ : ∃ bl, bl = (cont l l.length).b.length := ⟨_, rfl⟩
    rw [← hyl] at hB4
    rw [← hbl] at hZ4
    rw [← hyl, ← hbl]
    have HYl := hide hyl
    have HBl := hide hbl
    have b14 : Below w1.heap.size w1 w4 := HB13.out.trans (hb4.mono HB13.out.size)
    obtain ⟨w5, hw5⟩ : ∃ w5, w5 = w4.alloc (.cells #[.slice bo yl bc, .slice po bl pc, .map (some fb)] 54) := ⟨_, rfl⟩
    have hb5 : Below w4.heap.size w4 w5 := by rw [hw5]; exact (Below.refl _ w4).alloc (Nat.le_refl _) _
    have hp5 : w5.heap[w4.heap.size]? = some (.cells #[.slice bo yl bc, .slice po bl pc, .map (some fb)] 54 (0, 0)) := by rw [hw5]; exact heap_alloc_new _ _
    have b15 : Below w1.heap.size w1 w5 := b14.trans (hb5.mono b14.size)
    have hT5 : Tb w5 tb ent := (HT3.out.below hb4 hlt3).below hb5 (Nat.lt_of_lt_of_le hlt3 hb4.size)
    have hlt5 : tb < w5.heap.size := Nat.lt_of_lt_of_le hlt3 (Nat.le_trans hb4.size hb5.size)
    have HRc := hide (newRecords_any (some ⟨blk, 0, none⟩) n n tb fb L' (cont l l.length).m w5 (HN1.out.below b15) (Nat.le_refl _) (by omega) hT5 hlt5 (hF4.same (hb5.block _ hF4.lt)) HTn.out)
    have HB5 := hide (hB4.below hb5)
    have HZ5 := hide (hZ4.below hb5)
    have Hnil := hide hnil4
    have HB15 := hide b15
    have HT5 := hide hT5
    have HP5 := hide hp5
    have e2c : w5.cell? ⟨w4.heap.size, 2, none⟩ = some (.map (some fb)) := by simp [World.cell?, hp5]
    have HE5 : Hid (w4.alloc (.cells #[.slice bo yl bc, .slice po bl pc, .map (some fb)] 54) = w5) := hw5.symm
    obtain ⟨cb, hcb⟩ : ∃ cb, cb = w4.heap.size := ⟨_, rfl⟩
    have HCb := hide hcb
    clear hB4 hnil4 hZ4 hF4 hb4 hyl hbl b14 hw5 hb5 hp5 b15 hT5 hcb HCo HT3 HB13 HN1 hlt3
    go_upto_region 6 with fail
    rw [HE5.out]
    rw [← HCb.out] at e2c HP5 ⊢
    clear HE5 HCb
    go_wp2_with fail
    refine HRc.out.mono ?_
    rintro r w6 ⟨x, O, rfl, hxL, hxf, hxn, hxt, hxo, hSt, hRS, hOg, hb6⟩
    have HWr := hide (write_any x w5 hSt 17 0 O ws0 w6 (by rw [hxn]; have := HTn.out.pos; omega) hRS (wi0 _) (by omega))
    unfold WAns at HWr
    obtain ⟨own, hown⟩ : ∃ own, own = x.own := ⟨_, rfl⟩
    have eq : wr (nds x.L) x.own x.fm 17 0 ws0 = wq l own := by unfold wq; rw [hxL, hxf, ← HLe.out, hown]
    rw [eq] at HWr
    have hWI := wr_inv (l := nds x.L) (own := x.own) (fm := x.fm) hSt.uno 17 0 ws0 (by rw [nds_length, hSt.ns.1, hxn]; have := HTn.out.pos; omega) (wi0 _)
    rw [eq] at hWI
    have hIb : (wq l own).1.I.length ≤ 100000 := by have := hWI.bI; have := hSt.i_sum; omega
    have hDb : (wq l own).1.D.length ≤ 100000 := by have := hWI.bD hSt.nod; have := hSt.names_sum; omega
    have hXb : (wq l own).1.X.length ≤ 100000 := by have := hWI.bX; have := hSt.x_sum; omega
    have HRv := hide hWI.Rv
    have HOwn : Hid (OwnN l own) := by rw [hown, HLe.out]; exact hxo
    have HSt := hide hSt
    have HOe := hide hown
    clear hxL hxf hxo hSt hRS hOg hb6 hown eq hWI HRc
    obtain ⟨Q, hQ⟩ : ∃ Q, Q = wq l own := ⟨_, rfl⟩
    rw [← hQ] at HWr hIb hDb hXb HRv
    have HQ := hide hQ
    clear hQ e2c
    go_wp2_with fail
    refine HWr.out.mono ?_
    rintro r w7 ⟨rfl, O7, hR7, hF7, hG7⟩
    have hb7 := hR7.bel
    have HR7 := hide hR7
    have HB57 := hide hb7
    have hp7 := (hb7.block _ (heap_lt HP5.out)).trans HP5.out
    have HP7 := hide hp7
    have HLk : Hid (∀ wX, Below w7.heap.size w7 wX → wX.cell? ⟨x.rp, 7, none⟩ = some (.map (some x.mr)) ∧ wX.cell? ⟨x.rp, 2, none⟩ = some (.slice x.oa x.on x.oc) ∧ wX.cell? ⟨cb, 1, none⟩ = some (.slice po bl pc) ∧ (Builtin.len_ #[61] 3 #[.map (some x.mr)]).run Tryz.prog wX = .ok (.int .i64 (Q.1.R.length : Int)) wX) := fun wX hX => by
      have hRX := HR7.out.below hX
      have hpX := (hX.block _ (heap_lt HP7.out)).trans HP7.out
      refine ⟨by simp [World.cell?, hRX.rc, rcv], by simp [World.cell?, hRX.rc, rcv], by simp [World.cell?, hpX], ?_⟩
      obtain ⟨oi, od, ox, rfl, hRst⟩ := hRX
      exact hRst.mr.len 3
    clear hR7 hF7 hG7 hb7 hp7 HWr
    go_wp2_with fail
    have HD0 : Hid (Below w7.heap.size w7 w7.drew) := drewN_below w7 1
    have HD1 : Hid (∀ o, Below w7.heap.size w7 (w7.alloc o).drew) := fun o => ((Below.refl _ w7).alloc (Nat.le_refl _) o).trans (drewN_below _ 1)
    generalize hRl : Q.1.R.length = Rl at *
    go_region_held3 (fun wX => wX.cell? ⟨x.rp, 7, none⟩ = some (.map (some x.mr)) ∧ wX.cell? ⟨x.rp, 2, none⟩ = some (.slice x.oa x.on x.oc) ∧ wX.cell? ⟨cb, 1, none⟩ = some (.slice po bl pc) ∧ (Builtin.len_ #[61] 3 #[.map (some x.mr)]).run Tryz.prog wX = .ok (.int .i64 (Rl : Int)) wX) (exact HLk.out _ (by first | exact HD0.out | exact HD1.out _)) (fail)
    rename_i hHd
    clear hHd HLk HD0
    obtain ⟨SB, hSB⟩ : ∃ SB : Sup.Sb, SB = ⟨0, (Rl : Int), 0, 0, 0, 0, 0, (x.on : Int), (bl : Int), (Q.2 : Int)⟩ := ⟨_, rfl⟩
    obtain ⟨w8, hw8⟩ : ∃ w8, w8 = (w7.alloc (.cells (sbv SB) 45)).drew := ⟨_, rfl⟩
    have e8 : (w7.alloc (Obj.cells #[.int .i64 0, .int .i64 (Rl : Int), .int .i64 0, .int .i64 0, .int .i64 0, .int .i64 0, .int .i64 0, .int .i64 (x.on : Int), .int .i64 (bl : Int), .int .i64 (Q.2 : Int)] 45)).drew = w8 := by rw [hw8, hSB]; rfl
    rw [e8]
    have hb8 : Below w7.heap.size w7 w8 := by rw [hw8]; exact HD1.out _
    have hk8 : w8.heap[w7.heap.size]? = some (.cells (sbv SB) 45 (0, 0)) := by rw [hw8]; exact heap_alloc_new _ _
    obtain ⟨sk, hsk⟩ : ∃ sk, sk = w7.heap.size := ⟨_, rfl⟩
    rw [← hsk] at hk8 ⊢
    have hR8 := HR7.out.below hb8
    have hp8 := (hb8.block _ (heap_lt HP7.out)).trans HP7.out
    have b58 : Below w5.heap.size w5 w8 := HB57.out.trans (hb8.mono HB57.out.size)
    have HSk : Hid (∀ wX, Below w8.heap.size w8 wX → wX.heap[sk]? = some (.cells (sbv SB) 45 (0, 0))) := fun wX hX => (hX.block _ (heap_lt hk8)).trans hk8
    have HLd : Hid (∀ wX, Below w8.heap.size w8 wX → wX.cell? ⟨x.rp, 3, none⟩ = some (.pointer (some ⟨x.pi, 0, none⟩)) ∧ wX.cell? ⟨x.rp, 4, none⟩ = some (.pointer (some ⟨x.pd, 0, none⟩)) ∧ wX.cell? ⟨x.rp, 5, none⟩ = some (.pointer (some ⟨x.px, 0, none⟩)) ∧ wX.cell? ⟨x.rp, 2, none⟩ = some (.slice x.oa x.on x.oc) ∧ wX.cell? ⟨cb, 0, none⟩ = some (.slice bo yl bc) ∧ wX.cell? ⟨cb, 1, none⟩ = some (.slice po bl pc)) := fun wX hX => by
      have hRX := hR8.below hX
      have hpX := (hX.block _ (heap_lt hp8)).trans hp8
      exact ⟨by simp [World.cell?, hRX.rc, rcv], by simp [World.cell?, hRX.rc, rcv], by simp [World.cell?, hRX.rc, rcv], by simp [World.cell?, hRX.rc, rcv], by simp [World.cell?, hpX], by simp [World.cell?, hpX]⟩
    have b0s : Below w.heap.size w w5 := HB1.out.trans (HB15.out.mono HB1.out.size)
    obtain ⟨zA, hzA⟩ : ∃ z, z = y2 l own := ⟨_, rfl⟩
    obtain ⟨zB, hzB⟩ : ∃ z, z = y3 l own := ⟨_, rfl⟩
    obtain ⟨zC, hzC⟩ : ∃ z, z = y4 l := ⟨_, rfl⟩
    obtain ⟨zD, hzD⟩ : ∃ z, z = y5 own := ⟨_, rfl⟩
    obtain ⟨zE, hzE⟩ : ∃ z, z = y6 l own := ⟨_, rfl⟩
    obtain ⟨nA, hnA⟩ : ∃ k, k = zA.length := ⟨_, rfl⟩
    obtain ⟨nB, hnB⟩ : ∃ k, k = zB.length := ⟨_, rfl⟩
    obtain ⟨nC, hnC⟩ : ∃ k, k = zC.length := ⟨_, rfl⟩
    obtain ⟨nD, hnD⟩ : ∃ k, k = zD.length := ⟨_, rfl⟩
    obtain ⟨nE, hnE⟩ : ∃ k, k = zE.length := ⟨_, rfl⟩
    have HA : Hid (∀ wX, Below w8.heap.size w8 wX → Calls Tryz.prog 23 #[.pointer (some ⟨x.pi, 0, none⟩)] wX fun r w' => ∃ ao c, r = .returned (.slice ao nA c) ∧ Bs w' ao nA zA ∧ Below wX.heap.size wX w') := fun wX hX => by
      obtain ⟨oi, od, ox, e, hRst⟩ := hR8.below hX
      obtain ⟨t1, t2⟩ := hRst.tb HSt.out
      refine (metaDone_any x.pi x.tb oi ent Q.1.I wX hRst.wi t1 t2 small_ent hIb).mono ?_
      rintro r w' ⟨ao, c, rfl, hF⟩
      have ez : done ent Q.1.I = zA := by rw [hzA, HQ.out]; rfl
      rw [ez, ← hnA] at hF ⊢
      exact ⟨ao, c, rfl, hF.bs, hF.bel⟩
    have HB : Hid (∀ wX, Below w8.heap.size w8 wX → Calls Tryz.prog 23 #[.pointer (some ⟨x.pd, 0, none⟩)] wX fun r w' => ∃ ao c, r = .returned (.slice ao nB c) ∧ Bs w' ao nB zB ∧ Below wX.heap.size wX w') := fun wX hX => by
      obtain ⟨oi, od, ox, e, hRst⟩ := hR8.below hX
      obtain ⟨t1, t2⟩ := hRst.tb HSt.out
      refine (metaDone_any x.pd x.tb od ent Q.1.D wX hRst.wd t1 t2 small_ent hDb).mono ?_
      rintro r w' ⟨ao, c, rfl, hF⟩
      have ez : done ent Q.1.D = zB := by rw [hzB, HQ.out]; rfl
      rw [ez, ← hnB] at hF ⊢
      exact ⟨ao, c, rfl, hF.bs, hF.bel⟩
    have HE : Hid (∀ wX, Below w8.heap.size w8 wX → Calls Tryz.prog 23 #[.pointer (some ⟨x.px, 0, none⟩)] wX fun r w' => ∃ ao c, r = .returned (.slice ao nE c) ∧ Bs w' ao nE zE ∧ Below wX.heap.size wX w') := fun wX hX => by
      obtain ⟨oi, od, ox, e, hRst⟩ := hR8.below hX
      obtain ⟨t1, t2⟩ := hRst.tb HSt.out
      refine (metaDone_any x.px x.tb ox ent Q.1.X wX hRst.wx t1 t2 small_ent hXb).mono ?_
      rintro r w' ⟨ao, c, rfl, hF⟩
      have ez : done ent Q.1.X = zE := by rw [hzE, HQ.out]; rfl
      rw [ez, ← hnE] at hF ⊢
      exact ⟨ao, c, rfl, hF.bs, hF.bel⟩
    have h64 : ∀ y ∈ (bk l).2, In64 y := fun y hy => by
      have hCI := cont_inv l l.length
      have := plc_in (cont l l.length).b hCI.ok (cont l l.length).s.1 (cont l l.length).b.length (Nat.le_refl _) y hy
      have h2 := hCI.s1
      have h3 := HBw.out
      have h4 := hCI.b
      have h5 := HLl.out
      exact ⟨by omega, by omega⟩
    have HC : Hid (∀ wX, Below w8.heap.size w8 wX → Calls Tryz.prog 24 #[.pointer (some ⟨tb, 0, none⟩), .slice po bl pc, .int .i64 4] wX fun r w' => ∃ ao c, r = .returned (.slice ao nC c) ∧ Bs w' ao nC zC ∧ Below wX.heap.size wX w') := fun wX hX => by
      have b5X := b58.trans (hX.mono b58.size)
      refine (numbers_any tb po bl pc (bk l).2 4 wX (HT5.out.below b5X hlt5) (Nat.lt_of_lt_of_le hlt5 b5X.size) (HZ5.out.below b5X) (by have := HBk.out; have := HBl.out; omega) h64 ⟨by omega, by omega⟩).mono ?_
      rintro r w' ⟨ao, c, rfl, hF⟩
      have ez : done ent (putN 4 (bk l).2).1 = zC := by rw [hzC]; rfl
      rw [ez, ← hnC] at hF ⊢
      exact ⟨ao, c, rfl, hF.bs, hF.bel⟩
    have HD : Hid (∀ wX, Below w8.heap.size w8 wX → Calls Tryz.prog 24 #[.pointer (some ⟨tb, 0, none⟩), .slice x.oa x.on x.oc, .int .i64 2] wX fun r w' => ∃ ao c, r = .returned (.slice ao nD c) ∧ Bs w' ao nD zD ∧ Below wX.heap.size wX w') := fun wX hX => by
      have b5X := b58.trans (hX.mono b58.size)
      have hz : Zs wX x.oa x.on x.own := by obtain ⟨oi, od, ox, e, hRst⟩ := hR8.below hX; exact hRst.ow
      refine (numbers_any tb x.oa x.on x.oc x.own 2 wX (HT5.out.below b5X hlt5) (Nat.lt_of_lt_of_le hlt5 b5X.size) hz (by have := HSt.out.on8; omega) HSt.out.i64 ⟨by omega, by omega⟩).mono ?_
      rintro r w' ⟨ao, c, rfl, hF⟩
      have ez : done ent (putN 2 x.own).1 = zD := by rw [hzD, HOe.out]; rfl
      rw [ez, ← hnD] at hF ⊢
      exact ⟨ao, c, rfl, hF.bs, hF.bel⟩
    have HJn : Hid (∀ wX, Below w8.heap.size w8 wX → ∀ oA oB oC oD oE cA cB cC cD cE, Bs wX oA nA zA → Bs wX oB nB zB → Bs wX oC nC zC → Bs wX oD nD zD → Bs wX oE nE zE → Calls Tryz.prog 22 #[.pointer (some ⟨tb, 0, none⟩), .agg (sbv SB), .agg #[.slice bo yl bc, .slice oA nA cA, .slice oB nB cB, .slice oC nC cC, .slice oD nD cD, .slice oE nE cE]] wX (JAns SB (y1 l) zA zB zC zD zE wX)) := fun wX hX oA oB oC oD oE cA cB cC cD cE bA bB bC bD bE => by
      have b5X := b58.trans (hX.mono b58.size)
      have b0X := b0s.trans (b5X.mono b0s.size)
      have g1 := done_le Q.1.I
      have g2 := done_le Q.1.D
      have g3 := done_le Q.1.X
      have g4 := done_le (putN 4 (bk l).2).1
      have g5 := done_le (putN 2 own).1
      have g6 := putN_len 4 (bk l).2
      have g7 := putN_len 2 own
      have g8 := own_len HOwn.out
      have g9 := HLl.out
      have g10 := HBk.out
      have g11 := HY12.out
      have a1 : nA = (done ent Q.1.I).length := by rw [hnA, hzA, HQ.out]; rfl
      have a2 : nB = (done ent Q.1.D).length := by rw [hnB, hzB, HQ.out]; rfl
      have a3 : nE = (done ent Q.1.X).length := by rw [hnE, hzE, HQ.out]; rfl
      have a4 : nC = (done ent (putN 4 (bk l).2).1).length := by rw [hnC, hzC]; rfl
      have a5 : nD = (done ent (putN 2 own).1).length := by rw [hnD, hzD]; rfl
      exact join_any tb SB bo oA oB oC oD oE yl nA nB nC nD nE bc cA cB cC cD cE (y1 l) zA zB zC zD zE wX (HT5.out.below b5X hlt5) (Nat.lt_of_lt_of_le hlt5 b5X.size) (HW.out.below b0X HW.out.pos) (HB5.out.below b5X) bA bB bC bD bE (by have := HY1.out; have := HYl.out; omega) (by omega) (by omega) (by omega) (by omega) (by omega)
    have HFin : Hid (∀ wX, Below w8.heap.size w8 wX → ∀ W2 r, JAns SB (y1 l) zA zB zC zD zE wX r W2 → ∃ rv, r = .returned rv ∧ (Below w8.heap.size w8 W2 ∧ BAns L w (.returned rv) W2) ∧ ∃ v1 v2, rv = .tuple #[v1, v2]) := fun wX hX W2 r hJ => by
      have b5X := b58.trans (hX.mono b58.size)
      have b0X := b0s.trans (b5X.mono b0s.size)
      have hS : SB = sb0 l own := by
        rw [hSB]; unfold sb0
        rw [← HQ.out, hRl, ← HBl.out, HOe.out, HSt.out.onl]
      have hc : IsCanon (nds L) l := by rw [HLe.out]; exact HI1.out
      have hsz : 64 + ((y1 l).length + zA.length + zB.length + zC.length + zD.length + zE.length) = isz l own := by rw [hzA, hzB, hzC, hzD, hzE]; rfl
      unfold JAns at hJ
      rw [hsz] at hJ
      rcases hJ with ⟨h1, rfl, hb⟩ | ⟨h1, ib, rfl, hib, hh, hBy, hb⟩
      · exact ⟨_, rfl, ⟨hX.trans (hb.mono hX.size), .inr ⟨H0.out, l, own, hc, HOwn.out, b0X.trans (hb.mono b0X.size), .inl ⟨h1, rfl⟩⟩⟩, _, _, rfl⟩
      · refine ⟨_, rfl, ⟨hX.trans (hb.mono hX.size), .inr ⟨H0.out, l, own, hc, HOwn.out, b0X.trans (hb.mono b0X.size), .inr ⟨h1, ib, rfl, Nat.le_trans b0X.size hib, ?_, ?_⟩⟩⟩, _, _, rfl⟩
        · rw [hh, hS, hzA, hzB, hzC, hzD, hzE]
          rfl
        · rw [hS, hzA, hzB, hzC, hzD, hzE] at hBy
          exact hBy
    clear hSB hw8 e8 hb8 hk8 hsk hR8 hp8 b58 hzA hzB hzC hzD hzE hnA hnB hnC hnD hnE h64 b0s hRl HD1 HR7 HB57 HP7 HP5 HZ5
    go_wp2_with fail
    --REGION9
    refine wp_region_held_drew (S := fun wX => Below w8.heap.size w8 wX) (by kernel_rfl) (Below.refl _ _).drew (fun hHeld => ?_)
    refine wpAnyH_take (i := 0) (oi := ⟨some 43, _, _, _, _, _⟩) (v := .agg (sbv SB)) rfl (by kernel_rfl) (by kernel_rfl) (by kernel_rfl) (fun _ _ _ h => h) (yieldsIf_load_row (by rfl) _ _ rfl sk rfl (sbv SB) (fun w' h' => load_sb (HSk.out w' h') rfl)) (by assumption) ?_
    try simp only [Act.put, List.setIfInBounds_toArray, List.set_cons_zero, List.set_cons_succ]
    refine wpAnyH_take (i := 1) (oi := ⟨some 44, _, _, _, _, _⟩) (v := ?_) rfl (by kernel_rfl) (by kernel_rfl) (by kernel_rfl) (fun _ _ _ h => h) (Or.inl ⟨by rfl, ?_⟩) (by assumption) ?_
    rotate_left
    · (intro w hSw; go_simp; try with_reducible rfl)
    try simp only [Act.put, List.setIfInBounds_toArray, List.set_cons_zero, List.set_cons_succ]
    refine wpAnyH_take (i := 2) (oi := ⟨some 45, _, _, _, _, _⟩) (v := ?_) rfl (by kernel_rfl) (by kernel_rfl) (by kernel_rfl) (fun _ _ _ h => h) (Or.inl ⟨by rfl, ?_⟩) (by assumption) ?_
    rotate_left
    · (intro w hSw; obtain ⟨r3, r4, r5, r2, s0, s1⟩ := HLd.out w hSw; go_simp; try with_reducible rfl)
    try simp only [Act.put, List.setIfInBounds_toArray, List.set_cons_zero, List.set_cons_succ]
    refine wpAnyH_take (i := 3) (oi := ⟨some 46, _, _, _, _, _⟩) (v := ?_) rfl (by kernel_rfl) (by kernel_rfl) (by kernel_rfl) (fun _ _ _ h => h) (Or.inl ⟨by rfl, ?_⟩) (by assumption) ?_
    rotate_left
    · (intro w hSw; go_simp; try with_reducible rfl)
    try simp only [Act.put, List.setIfInBounds_toArray, List.set_cons_zero, List.set_cons_succ]
    refine wpAnyH_take (i := 4) (oi := ⟨some 47, _, _, _, _, _⟩) (v := ?_) rfl (by kernel_rfl) (by kernel_rfl) (by kernel_rfl) (fun _ _ _ h => h) (Or.inl ⟨by rfl, ?_⟩) (by assumption) ?_
    rotate_left
    · (intro w hSw; go_simp; try with_reducible rfl)
    try simp only [Act.put, List.setIfInBounds_toArray, List.set_cons_zero, List.set_cons_succ]
    refine wpAnyH_take (i := 5) (oi := ⟨some 48, _, _, _, _, _⟩) (v := ?_) rfl (by kernel_rfl) (by kernel_rfl) (by kernel_rfl) (fun _ _ _ h => h) (Or.inl ⟨by rfl, ?_⟩) (by assumption) ?_
    rotate_left
    · (intro w hSw; go_simp; try with_reducible rfl)
    try simp only [Act.put, List.setIfInBounds_toArray, List.set_cons_zero, List.set_cons_succ]
    refine wpAnyH_take (i := 6) (oi := ⟨some 49, _, _, _, _, _⟩) (v := ?_) rfl (by kernel_rfl) (by kernel_rfl) (by kernel_rfl) (fun _ _ _ h => h) (Or.inl ⟨by rfl, ?_⟩) (by assumption) ?_
    rotate_left
    · (intro w hSw; obtain ⟨r3, r4, r5, r2, s0, s1⟩ := HLd.out w hSw; go_simp; try with_reducible rfl)
    try simp only [Act.put, List.setIfInBounds_toArray, List.set_cons_zero, List.set_cons_succ]
    refine wpAnyH_take (i := 8) (oi := ⟨some 51, _, _, _, _, _⟩) (v := ?_) rfl (by kernel_rfl) (by kernel_rfl) (by kernel_rfl) (fun _ _ _ h => h) (Or.inl ⟨by rfl, ?_⟩) (by assumption) ?_
    rotate_left
    · (intro w hSw; go_simp; try with_reducible rfl)
    try simp only [Act.put, List.setIfInBounds_toArray, List.set_cons_zero, List.set_cons_succ]
    refine wpAnyH_take (i := 9) (oi := ⟨some 52, _, _, _, _, _⟩) (v := ?_) rfl (by kernel_rfl) (by kernel_rfl) (by kernel_rfl) (fun _ _ _ h => h) (Or.inl ⟨by rfl, ?_⟩) (by assumption) ?_
    rotate_left
    · (intro w hSw; go_simp; try with_reducible rfl)
    try simp only [Act.put, List.setIfInBounds_toArray, List.set_cons_zero, List.set_cons_succ]
    refine wpAnyH_take (i := 10) (oi := ⟨some 53, _, _, _, _, _⟩) (v := ?_) rfl (by kernel_rfl) (by kernel_rfl) (by kernel_rfl) (fun _ _ _ h => h) (Or.inl ⟨by rfl, ?_⟩) (by assumption) ?_
    rotate_left
    · (intro w hSw; go_simp; try with_reducible rfl)
    try simp only [Act.put, List.setIfInBounds_toArray, List.set_cons_zero, List.set_cons_succ]
    refine wpAnyH_take (i := 11) (oi := ⟨some 54, _, _, _, _, _⟩) (v := ?_) rfl (by kernel_rfl) (by kernel_rfl) (by kernel_rfl) (fun _ _ _ h => h) (Or.inl ⟨by rfl, ?_⟩) (by assumption) ?_
    rotate_left
    · (intro w hSw; obtain ⟨r3, r4, r5, r2, s0, s1⟩ := HLd.out w hSw; go_simp; try with_reducible rfl)
    try simp only [Act.put, List.setIfInBounds_toArray, List.set_cons_zero, List.set_cons_succ]
    refine wpAnyH_take (i := 13) (oi := ⟨some 56, _, _, _, _, _⟩) (v := ?_) rfl (by kernel_rfl) (by kernel_rfl) (by kernel_rfl) (fun _ _ _ h => h) (Or.inl ⟨by rfl, ?_⟩) (by assumption) ?_
    rotate_left
    · (intro w hSw; go_simp; try with_reducible rfl)
    try simp only [Act.put, List.setIfInBounds_toArray, List.set_cons_zero, List.set_cons_succ]
    refine wpAnyH_take (i := 14) (oi := ⟨some 57, _, _, _, _, _⟩) (v := ?_) rfl (by kernel_rfl) (by kernel_rfl) (by kernel_rfl) (fun _ _ _ h => h) (Or.inl ⟨by rfl, ?_⟩) (by assumption) ?_
    rotate_left
    · (intro w hSw; obtain ⟨r3, r4, r5, r2, s0, s1⟩ := HLd.out w hSw; go_simp; try with_reducible rfl)
    try simp only [Act.put, List.setIfInBounds_toArray, List.set_cons_zero, List.set_cons_succ]
    refine wpAnyH_take (i := 16) (oi := ⟨some 59, _, _, _, _, _⟩) (v := ?_) rfl (by kernel_rfl) (by kernel_rfl) (by kernel_rfl) (fun _ _ _ h => h) (Or.inl ⟨by rfl, ?_⟩) (by assumption) ?_
    rotate_left
    · (intro w hSw; go_simp; try with_reducible rfl)
    try simp only [Act.put, List.setIfInBounds_toArray, List.set_cons_zero, List.set_cons_succ]
    refine wpAnyH_take (i := 17) (oi := ⟨some 60, _, _, _, _, _⟩) (v := ?_) rfl (by kernel_rfl) (by kernel_rfl) (by kernel_rfl) (fun _ _ _ h => h) (Or.inl ⟨by rfl, ?_⟩) (by assumption) ?_
    rotate_left
    · (intro w hSw; go_simp; try with_reducible rfl)
    try simp only [Act.put, List.setIfInBounds_toArray, List.set_cons_zero, List.set_cons_succ]
    refine wpAnyH_take (i := 18) (oi := ⟨some 61, _, _, _, _, _⟩) (v := ?_) rfl (by kernel_rfl) (by kernel_rfl) (by kernel_rfl) (fun _ _ _ h => h) (Or.inl ⟨by rfl, ?_⟩) (by assumption) ?_
    rotate_left
    · (intro w hSw; go_simp; try with_reducible rfl)
    try simp only [Act.put, List.setIfInBounds_toArray, List.set_cons_zero, List.set_cons_succ]
    refine wpAnyH_take (i := 19) (oi := ⟨some 62, _, _, _, _, _⟩) (v := ?_) rfl (by kernel_rfl) (by kernel_rfl) (by kernel_rfl) (fun _ _ _ h => h) (Or.inl ⟨by rfl, ?_⟩) (by assumption) ?_
    rotate_left
    · (intro w hSw; obtain ⟨r3, r4, r5, r2, s0, s1⟩ := HLd.out w hSw; go_simp; try with_reducible rfl)
    try simp only [Act.put, List.setIfInBounds_toArray, List.set_cons_zero, List.set_cons_succ]
    refine wpAnyH_take (i := 21) (oi := ⟨some 64, _, _, _, _, _⟩) (v := ?_) rfl (by kernel_rfl) (by kernel_rfl) (by kernel_rfl) (fun _ _ _ h => h) (Or.inl ⟨by rfl, ?_⟩) (by assumption) ?_
    rotate_left
    · (intro w hSw; go_simp; try with_reducible rfl)
    try simp only [Act.put, List.setIfInBounds_toArray, List.set_cons_zero, List.set_cons_succ]
    refine wpAnyH_take (i := 22) (oi := ⟨some 65, _, _, _, _, _⟩) (v := ?_) rfl (by kernel_rfl) (by kernel_rfl) (by kernel_rfl) (fun _ _ _ h => h) (Or.inl ⟨by rfl, ?_⟩) (by assumption) ?_
    rotate_left
    · (intro w hSw; go_simp; try with_reducible rfl)
    try simp only [Act.put, List.setIfInBounds_toArray, List.set_cons_zero, List.set_cons_succ]
    refine wpAnyH_take (i := 23) (oi := ⟨some 66, _, _, _, _, _⟩) (v := ?_) rfl (by kernel_rfl) (by kernel_rfl) (by kernel_rfl) (fun _ _ _ h => h) (Or.inl ⟨by rfl, ?_⟩) (by assumption) ?_
    rotate_left
    · (intro w hSw; go_simp; try with_reducible rfl)
    try simp only [Act.put, List.setIfInBounds_toArray, List.set_cons_zero, List.set_cons_succ]
    refine wpAnyH_take (i := 24) (oi := ⟨some 67, _, _, _, _, _⟩) (v := ?_) rfl (by kernel_rfl) (by kernel_rfl) (by kernel_rfl) (fun _ _ _ h => h) (Or.inl ⟨by rfl, ?_⟩) (by assumption) ?_
    rotate_left
    · (intro w hSw; obtain ⟨r3, r4, r5, r2, s0, s1⟩ := HLd.out w hSw; go_simp; try with_reducible rfl)
    try simp only [Act.put, List.setIfInBounds_toArray, List.set_cons_zero, List.set_cons_succ]
    refine wpAnyH_ready (rs := [7]) (by kernel_rfl) (by simp) ?_
    refine AllReadyH.cons (o := ⟨some 50, _, _, _, _, _⟩) rfl (fun K hK => ?_) AllReadyH.nil
    go_simp
    refine (HA.out _ hHeld).mono ?_
    rintro r WA ⟨oA, cA, rfl, f1, f2⟩
    have hb2 : Below w8.heap.size w8 WA := hHeld.trans (f2.mono hHeld.size)
    have bA := f1
    refine hK.out _ _ hb2 (fun _ => ?_)
    clear hK K f1 f2
    have hHeld := hb2
    clear hb2
    try simp only [Act.put, List.setIfInBounds_toArray, List.set_cons_zero, List.set_cons_succ]
    refine wpAnyH_ready (rs := [12]) (by kernel_rfl) (by simp) ?_
    refine AllReadyH.cons (o := ⟨some 55, _, _, _, _, _⟩) rfl (fun K hK => ?_) AllReadyH.nil
    go_simp
    refine (HB.out _ hHeld).mono ?_
    rintro r WB ⟨oB, cB, rfl, f1, f2⟩
    have hb2 : Below w8.heap.size w8 WB := hHeld.trans (f2.mono hHeld.size)
    have bA := bA.below f2
    have bB := f1
    refine hK.out _ _ hb2 (fun _ => ?_)
    clear hK K f1 f2
    have hHeld := hb2
    clear hb2
    try simp only [Act.put, List.setIfInBounds_toArray, List.set_cons_zero, List.set_cons_succ]
    refine wpAnyH_ready (rs := [15]) (by kernel_rfl) (by simp) ?_
    refine AllReadyH.cons (o := ⟨some 58, _, _, _, _, _⟩) rfl (fun K hK => ?_) AllReadyH.nil
    go_simp
    refine (HC.out _ hHeld).mono ?_
    rintro r WC ⟨oC, cC, rfl, f1, f2⟩
    have hb2 : Below w8.heap.size w8 WC := hHeld.trans (f2.mono hHeld.size)
    have bA := bA.below f2
    have bB := bB.below f2
    have bC := f1
    refine hK.out _ _ hb2 (fun _ => ?_)
    clear hK K f1 f2
    have hHeld := hb2
    clear hb2
    try simp only [Act.put, List.setIfInBounds_toArray, List.set_cons_zero, List.set_cons_succ]
    refine wpAnyH_ready (rs := [20]) (by kernel_rfl) (by simp) ?_
    refine AllReadyH.cons (o := ⟨some 63, _, _, _, _, _⟩) rfl (fun K hK => ?_) AllReadyH.nil
    go_simp
    refine (HD.out _ hHeld).mono ?_
    rintro r WD ⟨oD, cD, rfl, f1, f2⟩
    have hb2 : Below w8.heap.size w8 WD := hHeld.trans (f2.mono hHeld.size)
    have bA := bA.below f2
    have bB := bB.below f2
    have bC := bC.below f2
    have bD := f1
    refine hK.out _ _ hb2 (fun _ => ?_)
    clear hK K f1 f2
    have hHeld := hb2
    clear hb2
    try simp only [Act.put, List.setIfInBounds_toArray, List.set_cons_zero, List.set_cons_succ]
    refine wpAnyH_ready (rs := [25]) (by kernel_rfl) (by simp) ?_
    refine AllReadyH.cons (o := ⟨some 68, _, _, _, _, _⟩) rfl (fun K hK => ?_) AllReadyH.nil
    go_simp
    refine (HE.out _ hHeld).mono ?_
    rintro r WE ⟨oE, cE, rfl, f1, f2⟩
    have hb2 : Below w8.heap.size w8 WE := hHeld.trans (f2.mono hHeld.size)
    have bA := bA.below f2
    have bB := bB.below f2
    have bC := bC.below f2
    have bD := bD.below f2
    have bE := f1
    refine hK.out _ _ hb2 (fun _ => ?_)
    clear hK K f1 f2
    have hHeld := hb2
    clear hb2
    try simp only [Act.put, List.setIfInBounds_toArray, List.set_cons_zero, List.set_cons_succ]
    refine wpAnyH_take (i := 26) (oi := ⟨some 69, _, _, _, _, _⟩) (v := ?_) rfl (by kernel_rfl) (by kernel_rfl) (by kernel_rfl) (fun _ _ _ h => h) (Or.inl ⟨by rfl, ?_⟩) (by assumption) ?_
    rotate_left
    · (intro w hSw; go_simp; try with_reducible rfl)
    try simp only [Act.put, List.setIfInBounds_toArray, List.set_cons_zero, List.set_cons_succ]
    refine wpAnyH_ready (rs := [27]) (by kernel_rfl) (by simp) ?_
    refine AllReadyH.cons (o := ⟨some 70, _, _, _, _, _⟩) rfl (fun K hK => ?_) AllReadyH.nil
    go_simp
    refine (HJn.out WE hHeld oA oB oC oD oE cA cB cC cD cE bA bB bC bD bE).mono ?_
    rintro r W2 hJ
    obtain ⟨rv, rfl, hfin, f2⟩ := HFin.out WE hHeld W2 r hJ
    obtain ⟨v1, v2, rfl⟩ := f2
    refine hK.out _ _ hfin.1 (fun hHeld => ?_)
    clear hK K
    try simp only [Act.put, List.setIfInBounds_toArray, List.set_cons_zero, List.set_cons_succ]
    refine wpAnyH_take (i := 28) (oi := ⟨some 71, _, _, _, _, _⟩) (v := ?_) rfl (by kernel_rfl) (by kernel_rfl) (by kernel_rfl) (fun _ _ _ h => h) (Or.inl ⟨by rfl, ?_⟩) (by assumption) ?_
    rotate_left
    · (intro w hSw; go_simp; try with_reducible rfl)
    try simp only [Act.put, List.setIfInBounds_toArray, List.set_cons_zero, List.set_cons_succ]
    refine wpAnyH_take (i := 29) (oi := ⟨some 72, _, _, _, _, _⟩) (v := ?_) rfl (by kernel_rfl) (by kernel_rfl) (by kernel_rfl) (fun _ _ _ h => h) (Or.inl ⟨by rfl, ?_⟩) (by assumption) ?_
    rotate_left
    · (intro w hSw; go_simp; try with_reducible rfl)
    try simp only [Act.put, List.setIfInBounds_toArray, List.set_cons_zero, List.set_cons_succ]
    refine wpAnyH_take (i := 30) (oi := ⟨some 2, _, _, _, _, _⟩) (v := ?_) rfl (by kernel_rfl) (by kernel_rfl) (by kernel_rfl) (fun _ _ _ h => h) (Or.inl ⟨by rfl, ?_⟩) (by assumption) ?_
    rotate_left
    · (intro w hSw; go_simp; try with_reducible rfl)
    try simp only [Act.put, List.setIfInBounds_toArray, List.set_cons_zero, List.set_cons_succ]
    refine wpAnyH_take (i := 31) (oi := ⟨some 3, _, _, _, _, _⟩) (v := ?_) rfl (by kernel_rfl) (by kernel_rfl) (by kernel_rfl) (fun _ _ _ h => h) (Or.inl ⟨by rfl, ?_⟩) (by assumption) ?_
    rotate_left
    · (intro w hSw; go_simp; try with_reducible rfl)
    try simp only [Act.put, List.setIfInBounds_toArray, List.set_cons_zero, List.set_cons_succ]
    refine wpAnyH_done (by kernel_rfl) ?_ _
    go_wp2
    go_ret2
    exact hfin.2
    --END9
  · have HC := hide (Canon_no a n c L w hN hc hcm (check (nds L)) rfl h0)
    have e1 : (check (nds L) == 0) = false := by simpa using h0
    have H0 := hide h0
    unfold BAns
    generalize check (nds L) = z at *
    clear hN h0 hW
    go_enter Tryz.func10, Tryz.ntmps10
    go_wp2_with fail
    refine HC.out.mono ?_
    rintro r w1 ⟨rfl, hb1⟩
    have HB := hide hb1
    clear hb1 HC
    go_wp2
    go_ret2
    exact .inl ⟨H0.out, rfl, HB.out⟩
end Go.Proofs.YtchcejjoncihkaaGreatDoor

/- Layer 14, on lists alone: an image is not too big, its superblock may be, and tells it. -/
namespace Go.Proofs.YtchcejjoncihkaaGreatDoor.Bld
set_option linter.unusedVariables false
open Lz (g)
open Crc (ent)
open Frm Mtr Tre Nam Tab

theorem asc_one : ∀ (a b : List Int), a.Pairwise (· < ·) → b.Pairwise (· < ·) → (∀ x, x ∈ a ↔ x ∈ b) → a = b
  | [], [], _, _, _ => rfl
  | [], y :: b, _, _, h => by have := (h y).2 (List.mem_cons_self ..); simp at this
  | x :: a, [], _, _, h => by have := (h x).1 (List.mem_cons_self ..); simp at this
  | x :: a, y :: b, ha, hb, h => by
    rw [List.pairwise_cons] at ha hb
    have e : x = y := by
      have h1 := (h x).1 (List.mem_cons_self ..)
      have h2 := (h y).2 (List.mem_cons_self ..)
      rcases List.mem_cons.1 h1 with h1 | h1
      · exact h1
      · rcases List.mem_cons.1 h2 with h2 | h2
        · exact h2.symm
        · have := hb.1 x h1; have := ha.1 y h2; omega
    subst e
    rw [asc_one a b ha.2 hb.2 fun z => ?_]
    constructor
    · intro hz
      rcases List.mem_cons.1 ((h z).1 (List.mem_cons_of_mem _ hz)) with e | e
      · have := ha.1 z hz; omega
      · exact e
    · intro hz
      rcases List.mem_cons.1 ((h z).2 (List.mem_cons_of_mem _ hz)) with e | e
      · have := hb.1 z hz; omega
      · exact e
theorem own_one {l : List Nod} {a b : List Int} (ha : OwnN l a) (hb : OwnN l b) : a = b := asc_one a b ha.1 hb.1 fun x => (ha.2 x).trans (hb.2 x).symm
/-- What holds of a canonical tree's nodes. -/
structure Tl (l : List Nod) : Prop where
  pos : 0 < l.length
  n40 : l.length ≤ 40
  uno : Uno l
  nod : (l.map Nod.names).Nodup
  may : ∀ n ∈ l, Tre.may n = true
  long : ∀ n ∈ l, ∀ s ∈ n.names, s.size ≤ 255
theorem Tl.of {l r : List Nod} (h0 : check l = 0) (hc : IsCanon l r) (hn : l.length ≤ 40) : Tl r := by
  have hF := canF h0 hc
  obtain ⟨k1, k2, k3, k4, k5, k6, k7, k8⟩ := check_zero (canon_check h0 hc)
  refine ⟨hF.pos, by rw [hF.len]; exact hn, fun i j hi hj e hk => ?_, k4, fun n hn => List.all_eq_true.1 k7 n hn, fun n hn s hs => ?_⟩
  · rcases Nat.lt_trichotomy i j with c | c | c
    · have := List.pairwise_iff_getElem.1 k8 i j hi hj c
      rw [← gn_lt _ _ hi, ← gn_lt _ _ hj] at this
      obtain ⟨h1, h2⟩ := this e
      exact absurd (((alike_iff _ _).1 h2).1 ▸ hk) h1
    · exact c
    · have := List.pairwise_iff_getElem.1 k8 j i hj hi c
      rw [← gn_lt _ _ hi, ← gn_lt _ _ hj] at this
      exact absurd hk (this e.symm).1
  · have h1 := fv_zero _ (wrong_zero _ k2 n hn) s hs
    have h2 := (valid_zero h1).1
    rw [toList_length] at h2
    exact h2
section
variable {l : List Nod} {own : List Int}
theorem Tl.wi (h : Tl l) (own : List Int) : WI l (wq l own).1 := wr_inv h.uno 17 0 ws0 h.pos (wi0 l)
/-- The root's record is among those that were written. -/
theorem wq_mem (l : List Nod) (own : List Int) : (0, (wq l own).2) ∈ (wq l own).1.R := by
  have e : lkR l ws0.R (gn l 0).ino = none := rfl
  unfold wq
  rw [wr_none e]
  unfold fin
  simp
theorem Tl.nwle (h : Tl l) : ∀ k, k < l.length → nw l k ≤ 261 := fun k hk => by
  unfold Bld.nw
  rw [gn_lt _ k hk]
  by_cases hn : l[k].names = []
  · rw [hn]; show 6 + 0 ≤ 261; omega
  · have hp : 0 < l[k].names.length := List.length_pos_iff.2 hn
    have := h.long _ (List.getElem_mem hk) (gs l[k].names (l[k].names.length - 1)) (by
      unfold gs
      rw [List.getD_eq_getElem?_getD, List.getElem?_eq_getElem (by omega)]
      exact List.getElem_mem _)
    omega
theorem Tl.sums (h : Tl l) : sm (nw l) l.length ≤ 261 * l.length ∧ sm (iw l) l.length ≤ 222 * l.length ∧ sm (xw l) l.length ≤ 1937 * l.length ∧ sm (bw l) l.length ≤ 4320 * l.length := by
  refine ⟨sm_const _ h.nwle, sm_const _ fun k hk => ?_, sm_const _ fun k hk => ?_, sm_const _ fun k hk => ?_⟩
  · have := (may_parts (h.may (gn l k) (by rw [gn_lt _ _ hk]; exact List.getElem_mem hk))).1
    unfold iw; omega
  · have := (may_parts (h.may (gn l k) (by rw [gn_lt _ _ hk]; exact List.getElem_mem hk))).2
    unfold xw; split <;> omega
  · have := may_data (h.may (gn l k) (by rw [gn_lt _ _ hk]; exact List.getElem_mem hk))
    unfold bw; omega
theorem Tl.size (h : Tl l) (ho : OwnN l own) : isz l own ≤ 400000 := by
  have hn := h.n40
  obtain ⟨s1, s2, s3, s4⟩ := h.sums
  have hw := h.wi own
  have g1 := done_le (wq l own).1.I
  have g2 := done_le (wq l own).1.D
  have g3 := done_le (wq l own).1.X
  have g4 := done_le (putN 4 (bk l).2).1
  have g5 := done_le (putN 2 own).1
  have g6 := putN_len 4 (bk l).2
  have g7 := putN_len 2 own
  have g8 := own_len ho
  have hCI := cont_inv l l.length
  have hpl := plc_len (cont l l.length).b hCI.ok (cont l l.length).s.1 (cont l l.length).b.length (Nat.le_refl _)
  have g9 := hCI.b
  have g10 := hCI.s1
  have g11 := hw.bI
  have g12 := hw.bD h.nod
  have g13 := hw.bX
  unfold isz y1 y2 y3 y4 y5 y6
  unfold bk at *
  omega
theorem Tl.ok (h : Tl l) (ho : OwnN l own) : (isb l own).ok := by
  have hn := h.n40
  have hz := h.size ho
  obtain ⟨s1, s2, s3, s4⟩ := h.sums
  have hw := h.wi own
  have hm := wq_mem l own
  have hr := hw.Rv _ hm
  have hI := hw.bI
  have hR := hw.bR
  have hR1 : 0 < (wq l own).1.R.length := List.length_pos_of_mem hm
  have ho1 := own_len ho
  have ho2 : 0 < own.length := by
    have h0 : l[0]'h.pos ∈ l := List.getElem_mem h.pos
    exact List.length_pos_of_mem ((ho.2 _).2 ⟨_, h0, .inl rfl⟩)
  have hb := (cont_inv l l.length).b
  unfold isz at hz
  refine ⟨?_, ?_, ?_, ?_, ?_⟩
  · unfold isb sbl Sup.Sb.sorted; simp only []; omega
  · unfold isb sbl sb0; simp only []; omega
  · unfold isb sbl sb0; simp only []; omega
  · unfold isb sbl sb0; simp only []; omega
  · unfold isb sbl sb0; simp only []; omega
theorem im_length (l : List Nod) (own : List Int) : (im l own).length = isz l own := by
  unfold im isz
  simp only [List.length_append, fst64_length]
  omega
theorem Tl.good (h : Tl l) (ho : OwnN l own) : Sup.good ent (im l own) ∧ Sup.sbOf (im l own) = isb l own := by
  have hk := h.ok ho
  have e : im l own = Sup.put ent (isb l own) ++ (y1 l ++ (y2 l own ++ (y3 l own ++ (y4 l ++ (y5 own ++ y6 l own))))) := by unfold im fst64; rw [if_pos (Sup.may_iff.2 hk)]
  have hs : (isb l own).size = 64 + ((y1 l ++ (y2 l own ++ (y3 l own ++ (y4 l ++ (y5 own ++ y6 l own)))) : List Int).length : Int) := by
    unfold isb sbl
    simp only [List.length_append]
    omega
  rw [e]
  exact ⟨Sup.good_put hk _ hs, Sup.sbOf_put hk _⟩
end
end Go.Proofs.YtchcejjoncihkaaGreatDoor.Bld

/- Layer 8: what a block's numbers say, by the program: numbers.super, block.super. -/
namespace Go.Proofs.YtchcejjoncihkaaGreatDoor
set_option linter.unusedVariables false
open Go.RowKit Go.Maps
open Lz (g)
open Crc (ent more)
open Cur
open Sup

set_option maxRecDepth 100000 in
theorem nsuper_any (s : Sb) (w : World) : Calls Tryz.prog 86 #[.agg (nv s)] w fun e w' => e = .returned (.agg (sbv s)) ∧ Below w.heap.size w w' := by
  unfold nv
  go_enter Tryz.func86, Tryz.ntmps86
  go_wp2
  refine bodyPost_ret (v := .agg (sbv s)) ?_ rfl ⟨rfl, ((Below.refl _ _).alloc (Nat.le_refl _) _).alloc (by simp) _⟩
  exact results_cell_row rfl _ _ (w.heap.size + 1) 45 (sbv s) (0, 0) _ rfl (heap_new (by simp)) Tryz.underlying45 rfl infoSuper
theorem sbv_one (s : Sb) : (sbv s).all (·.oneCell') = true := by simp [sbv, Value.oneCell']
/-- The first i numbers that were read. -/
def na (zs : List Int) (i : Nat) : Array Value := ((List.range 10).map fun j => Value.int .i64 (if j < i then rn zs j else 0)).toArray
theorem na_size (zs : List Int) (i : Nat) : (na zs i).size = 10 := by simp [na]
theorem na_zero (zs : List Int) : na zs 0 = Array.replicate 10 (.int .i64 0) := rfl
theorem na_full (zs : List Int) : na zs 10 = nv (sbOf zs) := rfl
theorem na_at (zs : List Int) (i j : Nat) (hj : j < 10) : (na zs i)[j]? = some (.int .i64 (if j < i then rn zs j else 0)) := by simp [na, hj]
theorem na_set (zs : List Int) (i : Nat) (hi : i < 10) : (na zs i).setIfInBounds i (.int .i64 (rn zs i)) = na zs (i + 1) := by
  apply Array.ext_getElem?
  intro j
  rw [Array.getElem?_setIfInBounds, na_size]
  by_cases hj : j < 10
  · rw [na_at zs (i + 1) j hj, na_at zs i j hj]
    by_cases e : i = j
    · subst e; rw [if_pos rfl, if_pos hi, if_pos (by omega)]
    · rw [if_neg e]
      by_cases h : j < i
      · rw [if_pos h, if_pos (by omega)]
      · rw [if_neg h, if_neg (by omega)]
  · rw [if_neg (by omega), Array.getElem?_eq_none (by rw [na_size]; omega), Array.getElem?_eq_none (by rw [na_size]; omega)]
theorem wdv_at (i : Nat) (hi : i < 10) : wdv[i]? = some (.int .i64 (wd i)) := by
  match i, hi with
  | 0, _ => rfl
  | 1, _ => rfl
  | 2, _ => rfl
  | 3, _ => rfl
  | 4, _ => rfl
  | 5, _ => rfl
  | 6, _ => rfl
  | 7, _ => rfl
  | 8, _ => rfl
  | 9, _ => rfl
theorem numA_rn {zs : List Int} (hz : zs.length = 64) (i : Nat) (hi : i < 10) : numA (wd i) (zs.drop (spot i), 0) = rn zs i := by
  have h1 := wd_fit i
  have h2 := spot_le i hi
  unfold numA pa rn
  rw [if_pos (by omega), if_neg (by simp; omega)]; simp
theorem numS_rn {zs : List Int} (hz : zs.length = 64) (i : Nat) (hi : i < 10) : numS (wd i) (zs.drop (spot i), 0) = (zs.drop (spot (i + 1)), 0) := by
  have h1 := wd_fit i
  have h2 := spot_le i hi
  unfold numS ps
  rw [if_pos (by omega), if_neg (by simp; omega)]
  simp [spot_succ, List.drop_drop]
def spz : Array Value := #[.int .i64 0, .int .i64 0, .int .i64 0, .int .i64 0, .int .i64 0, .int .i64 0, .int .i64 0, .int .i64 0, .int .i64 0, .int .i64 0]
theorem zero10 : (Tryz.prog.info? 149).map (fun i => (i.zero, i.size)) = some (some (.agg (Array.replicate 10 (.int .i64 0))), 10) := by kernel_rfl
theorem info65 : (Tryz.prog.info? 148).map (·.size) = some 10 := by kernel_rfl
set_option maxRecDepth 100000 in
set_option maxHeartbeats 16000000 in
theorem bsuper_any (zs : List Int) (w : World) (hz : zs.length = 64) (hb : Bytes zs) (hW : Wid w) :
    Calls Tryz.prog 37 #[.agg (bl zs)] w fun e w' => e = .returned (.agg (sbv (sbOf zs))) ∧ Below w.heap.size w w' := by
  obtain ⟨z1, i1⟩ := zero_of_info zero10
  obtain ⟨C, hC⟩ : ∃ C, C = bl zs := ⟨_, rfl⟩
  have hCs : C.size = 64 := by rw [hC]; simp [bl, bv, hz]
  rw [← hC]
  have HW := hide hW
  have HB := hide hb
  obtain ⟨W2, hW2⟩ : ∃ W2, W2 = (w.alloc (.cells C 96)).alloc (.cells spz 45) := ⟨_, rfl⟩
  have b2 : Below w.heap.size w W2 := by rw [hW2]; exact ((Below.refl _ _).alloc (Nat.le_refl _) _).alloc (by simp) _
  have HR : Hid (W2.heap[w.heap.size + 1]? = some (.cells spz 45 (0, 0))) := by rw [hW2]; exact heap_new (by simp)
  have s2 : W2.heap.size = w.heap.size + 2 := by rw [hW2]; simp
  have HS : Hid (Bs W2 (some ⟨w.heap.size, 4, none⟩) 60 (zs.drop 4)) := by
    have hc : W2.heap[w.heap.size]? = some (.cells (bl zs) 96 (0, 0)) := by
      rw [hW2, ← hC]; exact (Below.heap_alloc _ _ _ (by simp)).trans (heap_new rfl)
    refine ⟨by simp [hz], bytes_drop hb.g 4, .inr ⟨w.heap.size, 4, rfl, by omega, fun i hi => ?_⟩⟩
    rw [cell_of_row _ _ _ _ _ _ hc, Lz.g_drop]
    simp at hi
    have hi' : 4 + i < zs.length := by omega
    rw [Lz.g_lt _ _ hi']
    simp [bl, bv, hi']
  have HC := hide hC
  have HW2 := hide hW2
  have HB2 := hide b2
  have hs2 : w.heap.size + 2 ≤ W2.heap.size := by omega
  clear hC hb hW hW2 b2 s2
  unfold spz at HW2
  go_enter Tryz.func37, Tryz.ntmps37
  go_wp2_with fail
  rw [← HW2.out]
  refine (Read_any 60 60 (some ⟨w.heap.size, 4, none⟩) (zs.drop 4) W2 HS.out (by omega) (fun h => by simp at h) (by omega)).mono ?_
  rintro r w3 ⟨p, rfl, hp, hR3, b3⟩
  obtain ⟨t0, fz0, hwd⟩ := (HW.out.below HB2.out HW.out.pos).below b3 (by omega)
  obtain ⟨D, hD⟩ : ∃ D, D = wdv := ⟨_, rfl⟩
  rw [← hD] at hwd
  have hDs : D.size = 10 := by rw [hD]; rfl
  have HD := hide hD
  have hpl := hR3.lt
  have hs3 := b3.size
  obtain ⟨w4, hw4⟩ : ∃ w4, w4 = w3.alloc (.cells (na zs 0) 149) := ⟨_, rfl⟩
  have hwd4 : w4.heap[0]? = some (.cells D t0 fz0) := by rw [hw4]; exact (Below.heap_alloc _ _ _ (by omega)).trans hwd
  have HN4 : Hid (w4.heap[w3.heap.size]? = some (.cells (na zs 0) 149 (0, 0))) := by rw [hw4]; exact heap_new rfl
  have b34 : Below w3.heap.size w3 w4 := by rw [hw4]; exact (Below.refl _ _).alloc (Nat.le_refl _) _
  have HR4 : Hid (RdP w4 p w3.heap.size (zs.drop (spot 0), 0)) := hR3.below b34
  have HB4 : Hid (Below W2.heap.size W2 w4) := b3.trans (b34.mono b3.size)
  have HW4 := hide hw4
  rw [na_zero] at HW4
  clear hD b3 hR3 hwd hw4 b34 HS HW2
  go_wp2_with (refine wpList_load_row rfl _ _ rfl 0 rfl t0 D fz0 _ (by rw [← HW4.out]; exact hwd4) Tryz.underlying148 rfl (by rw [hDs]; exact info65) ?_)
  rw [← HW4.out]
  obtain ⟨N, hN⟩ : ∃ N, N = w3.heap.size := ⟨_, rfl⟩
  rw [← hN] at HN4 HR4 hpl hs3
  rw [← hN]
  clear hN HW4
  go_loopw [10] (fun s10 wr => ∃ i : Nat, s10 = .int .i64 i ∧ i ≤ 10 ∧ RdP wr p N (zs.drop (spot i), 0) ∧ wr.heap[N]? = some (.cells (na zs i) 149 (0, 0)) ∧ Below W2.heap.size W2 wr) (fun s10 _ => 10 - (intOf s10).toNat)
  case atStart => exact ⟨0, rfl, by omega, HR4.out, HN4.out, HB4.out⟩
  case round =>
    obtain ⟨i, rfl, hi, hR, hNr, hB⟩ := hrel
    have HRr := hide hR
    have HNr := hide hNr
    have HBr := hide hB
    clear hR hNr hB HR4 HN4 HB4 hwd4
    by_cases hlt : i < 10
    · have hlt' : (i : Int) < 10 := by omega
      have hix : ∀ w', (Instr.index 148 (.agg D) (.int .i64 i)).run Tryz.prog w' = .ok (.int .i64 (wd i)) w' := fun w' => run_index_int w' D i _ Tryz.underlying148 hlt (by rw [HD.out]; exact wdv_at i hlt)
      have HNm := hide (Num_any p N (wd i) (zs.drop (spot i), 0) wr HRr.out (by have := wd_fit i; omega))
      rw [numA_rn hz i hlt, numS_rn hz i hlt] at HNm
      go_wp2_with fail
      refine HNm.out.mono ?_
      rintro r w5 ⟨rfl, hR5, hF5⟩
      have hN5 : w5.heap[N]? = some (.cells (na zs i) 149 (0, 0)) := (hF5.block N (heap_lt HNr.out) (by show ¬ N = p; omega)).trans HNr.out
      have c5 : w5.cell? ⟨N, i, none⟩ = some (.int .i64 0) := by rw [cell_of_row _ _ _ _ _ _ hN5, na_at zs i i hlt, if_neg (by omega)]
      have f5 : w5.frozen? ⟨N, i, none⟩ = false := by simp [World.frozen?, hN5]
      have HF : Hid (∃ i' : Nat, Value.int .i64 ((i : Int) + 1) = .int .i64 i' ∧ i' ≤ 10 ∧ RdP (w5.setCell ⟨N, i, none⟩ (.int .i64 (rn zs i))) p N (zs.drop (spot i'), 0) ∧ (w5.setCell ⟨N, i, none⟩ (.int .i64 (rn zs i))).heap[N]? = some (.cells (na zs i') 149 (0, 0)) ∧ Below W2.heap.size W2 (w5.setCell ⟨N, i, none⟩ (.int .i64 (rn zs i)))) := by
        have hset : Fr (One N) w5 (w5.setCell ⟨N, i, none⟩ (.int .i64 (rn zs i))) := (Fr.refl _ _).set _ (fun _ => rfl)
        have hb5 : Below W2.heap.size W2 w5 := HBr.out.trans (hF5.one_below HBr.out.size hp)
        refine ⟨i + 1, by go_num, by omega, hR5.above hset (fun k hk => by rw [show k = N from hk]; exact Nat.le_refl _) (by show ¬ p = N; omega), ?_, hb5.trans (hset.one_below hb5.size hs3)⟩
        rw [heap_setCell_self hN5, na_set zs i hlt]
      clear hR5 hF5 hN5 HNm
      go_wp2
      go_roundw
      case rel => exact HF.out
      case measure => simp [intOf]; omega
    · obtain rfl : i = 10 := by omega
      have hNr := HNr.out
      rw [na_full] at hNr
      obtain ⟨E, hE⟩ : ∃ E, E = nv (sbOf zs) := ⟨_, rfl⟩
      rw [← hE] at hNr
      have HE := hide hE
      have HI : Hid ((Tryz.prog.info? 149).map (·.size) = some E.size) := by rw [hE]; exact infoNums
      have hm := nsuper_any (sbOf zs) wr
      obtain ⟨X, hX⟩ : ∃ X, X = sbv (sbOf zs) := ⟨_, rfl⟩
      rw [← hE, ← hX] at hm
      have HM := hide hm
      have HXs : Hid ((Tryz.prog.info? 45).map (·.size) = some X.size) := by rw [hX]; exact infoSuper
      have hX1 : X.all (·.oneCell') = true := by rw [hX]; exact sbv_one _
      have hXs : X.size = 10 := by rw [hX]; rfl
      have HX := hide hX
      have HR' : Hid (wr.heap[w.heap.size + 1]? = some (.cells spz 45 (0, 0))) := (HBr.out.block _ (by omega)).trans HR.out
      clear hE hm hX HNr HRr
      go_wp2_with (refine wpList_load_row rfl _ _ rfl N rfl 149 E (0, 0) _ hNr Tryz.underlying149 rfl HI.out ?_)
      refine HM.out.mono ?_
      rintro r w6 ⟨rfl, b6⟩
      have hR6 : w6.heap[w.heap.size + 1]? = some (.cells spz 45 (0, 0)) := (b6.block _ (heap_lt HR'.out)).trans HR'.out
      have HB6 : Hid (Below w.heap.size w (w6.setRow (w.heap.size + 1) X)) := by
        have h1 := HB2.out.trans (HBr.out.mono HB2.out.size)
        exact below_setRow (h1.trans (b6.mono h1.size)) (by omega) X
      clear b6 hNr HM
      go_wp2_with (refine wpList_store_row rfl _ _ _ rfl (w.heap.size + 1) X rfl rfl 45 spz hR6 HXs.out (by rw [hXs]; rfl) hX1 ?_)
      refine bodyPost_ret (v := .agg X) ?_ rfl ⟨by rw [HX.out], HB6.out⟩
      exact results_cell_row rfl _ _ (w.heap.size + 1) 45 X (0, 0) _ rfl (setRow_heap _ _ _ _ _ _ hR6) Tryz.underlying45 rfl HXs.out
end Go.Proofs.YtchcejjoncihkaaGreatDoor

/- Layer 8: Take, by the program. -/
namespace Go.Proofs.YtchcejjoncihkaaGreatDoor
set_option linter.unusedVariables false
open Go.RowKit Go.Maps
open Lz (g)
open Crc (ent more)
open Cur
open Sup

theorem load_super {w : World} {b t : Nat} {cs : Array Value} {fr : Nat × Nat} (h : w.heap[b]? = some (.cells cs t fr)) (hs : cs.size = 10) : (loadVar 45 ⟨b, 0, none⟩).run Tryz.prog w = .ok (.agg cs) w :=
  run_loadVar_row w b t 45 cs fr _ h Tryz.underlying45 rfl (by rw [hs]; exact infoSuper)
theorem load_block {w : World} {b t : Nat} {cs : Array Value} {fr : Nat × Nat} (h : w.heap[b]? = some (.cells cs t fr)) (hs : cs.size = 64) : (loadVar 96 ⟨b, 0, none⟩).run Tryz.prog w = .ok (.agg cs) w :=
  run_loadVar_row w b t 96 cs fr _ h Tryz.underlying96 rfl (by rw [hs]; exact infoBlock)
theorem zv_one : spz.all (·.oneCell') = true := by simp [spz, Value.oneCell']
/-- Numbers as bytes. -/
def u8 (zs : List Int) : List UInt8 := zs.map fun n => UInt8.ofNat n.toNat
theorem u8_length (zs : List Int) : (u8 zs).length = zs.length := by simp [u8]
theorem bl_u8 : ∀ {zs : List Int}, Bytes zs → bv zs = (u8 zs).map Extern.Stop.cell
  | [], _ => rfl
  | z :: zs, h => by
    have h0 := h z (by simp)
    have ih := bl_u8 (zs := zs) (fun x hx => h x (by simp [hx]))
    simp only [bv, u8, List.map_cons, List.cons.injEq] at ih ⊢
    refine ⟨?_, ih⟩
    show Value.int .u8 z = .int .u8 (((UInt8.ofNat z.toNat).toNat : Nat) : Int)
    rw [UInt8.toNat_ofNat_of_lt' (by show z.toNat < 256; omega), Int.toNat_of_nonneg h0.1]
theorem u8_inj : ∀ {xs ys : List Int}, Bytes xs → Bytes ys → u8 xs = u8 ys → xs = ys := by
  intro xs ys hx hy h2
  unfold u8 at h2
  induction xs generalizing ys with
  | nil => cases ys with
    | nil => rfl
    | cons y ys => simp at h2
  | cons x xs ih => cases ys with
    | nil => simp at h2
    | cons y ys =>
      simp only [List.map_cons, List.cons.injEq] at h2
      have hx0 := hx x (by simp)
      have hy0 := hy y (by simp)
      have e := congrArg UInt8.toNat h2.1
      rw [UInt8.toNat_ofNat_of_lt' (by show x.toNat < 256; omega), UInt8.toNat_ofNat_of_lt' (by show y.toNat < 256; omega)] at e
      rw [ih (fun z hz => hx z (by simp [hz])) (fun z hz => hy z (by simp [hz])) h2.2]
      congr 1; omega
set_option maxRecDepth 100000 in
theorem equalIn_block (w : World) {F G : List Int} (hF : F.length = 64) (hG : G.length = 64) (hb : Bytes F) (hc : Bytes G) : (Op.equalIn 10000 96 (.agg (bl F)) (.agg (bl G))).run Tryz.prog w = .ok (decide (F = G)) w := by
  have := run_equalIn_bytes (P := Tryz.prog) w 9998 96 5 64 Tryz.underlying96 Tryz.underlying5 (fun w => by simp [Tryz.sizeOf5]) (u8 F) (u8 G) (by rw [u8_length, hF]) (by rw [u8_length, hG])
  rw [← bl_u8 hb, ← bl_u8 hc] at this
  unfold bl
  rw [this]
  congr 1
  rw [Bool.eq_iff_iff, beq_iff_eq, decide_eq_true_eq]
  exact ⟨u8_inj hb hc, fun h => by rw [h]⟩
/-- What Take answers. -/
def TakeAns (T : Nat → Nat) (zs : List Int) (e : Ending) : Prop :=
  (good T zs ∧ e = .returned (.tuple #[.agg (sbv (sbOf zs)), .int .i64 0])) ∨ (¬ good T zs ∧ e = .returned (.tuple #[.agg spz, .int .i64 2]))
set_option maxRecDepth 100000 in
set_option maxHeartbeats 16000000 in
theorem Take_short (tb len cap : Nat) (T : Nat → Nat) (ao : Option Addr) (zs : List Int) (w : World) (hz : zs.length = len) (h64 : len < 64) :
    Calls Tryz.prog 16 #[.pointer (some ⟨tb, 0, none⟩), .slice ao len cap] w fun e w' => TakeAns T zs e ∧ Below w.heap.size w w' := by
  have HG : Hid (¬ good T zs) := fun h => by have := h.1; omega
  clear hz
  go_enter Tryz.func16, Tryz.ntmps16
  go_wp2
  refine bodyPost_ret (v := .tuple #[.agg spz, .int .i64 2]) ?_ rfl ⟨.inr ⟨HG.out, rfl⟩, (Below.refl _ _).alloc (Nat.le_refl _) _⟩
  exact results_cr2 (p := 4) (u := 5) rfl _ _ w.heap.size spz rfl (load_super (heap_new rfl) rfl)
set_option maxRecDepth 100000 in
set_option maxHeartbeats 16000000 in
theorem Take_long (tb len cap : Nat) (T : Nat → Nat) (ao : Option Addr) (zs : List Int) (w : World) (hS : Small T) (hT : Tb w tb T) (htb : tb < w.heap.size) (hW : Wid w) (hB : Bs w ao len zs) (h64 : 64 ≤ len) (hl : len ≤ 1000000) :
    Calls Tryz.prog 16 #[.pointer (some ⟨tb, 0, none⟩), .slice ao len cap] w fun e w' => TakeAns T zs e ∧ Below w.heap.size w w' := by
  obtain ⟨z4, i4⟩ := zero_of_info zero64
  have HT := hide hT
  have HW := hide hW
  have HB := hide hB
  have hz := hB.1
  obtain ⟨F, hF⟩ : ∃ F, F = zs.take 64 := ⟨_, rfl⟩
  have hFl : F.length = 64 := by rw [hF]; simp; omega
  have hFb : Bytes F := by rw [hF]; exact hB.bytes.take 64
  have HF := hide hF
  have hcs : (bv F).length = 64 := by rw [bv_length, hFl]
  clear hT hW hB hF
  obtain ⟨W2, hW2⟩ : ∃ W2, W2 = (w.alloc (.cells spz 45)).alloc (.cells (Array.replicate 64 (.int .u8 0)) 96) := ⟨_, rfl⟩
  have b2 : Below w.heap.size w W2 := by rw [hW2]; exact ((Below.refl _ _).alloc (Nat.le_refl _) _).alloc (by simp) _
  have s2 : W2.heap.size = w.heap.size + 2 := by rw [hW2]; simp
  have h20 : W2.heap[w.heap.size]? = some (.cells spz 45 (0, 0)) := by rw [hW2]; exact (Below.heap_alloc _ _ _ (by simp)).trans (heap_new rfl)
  have h21 : W2.heap[w.heap.size + 1]? = some (.cells (List.replicate 64 (Value.int .u8 0)).toArray 96 (0, 0)) := by rw [hW2, List.toArray_replicate]; exact heap_new (by simp)
  have HSrc := hide (ssrc_of ((HB.out.below b2).take 64 h64) (by omega))
  rw [← HF.out] at HSrc
  obtain ⟨ad, rfl, hsrc⟩ := HSrc.out
  have hcp := run_copy_row (P := Tryz.prog) W2 25 25 3 5 (w.heap.size + 1) 0 64 64 ad len cap (List.replicate 64 (Value.int .u8 0)).toArray 96 (bv F) Tryz.underlying25 (by kernel_rfl) h21 (by rw [hcs]; exact (Nat.min_eq_right h64).symm) hsrc (by rw [hcs]; simp) (bv_one F)
  have e3 : ((List.replicate 64 (Value.int .u8 0)).toArray.toList.take 0 ++ bv F ++ (List.replicate 64 (Value.int .u8 0)).toArray.toList.drop (0 + (bv F).length)).toArray = bl F := by rw [hcs]; simp [bl]
  rw [e3, hcs] at hcp
  have h30 : (W2.setRow (w.heap.size + 1) (bl F)).heap[w.heap.size]? = some (.cells spz 45 (0, 0)) := by rw [setRow_other _ _ _ _ (by omega)]; exact h20
  have h31 : (W2.setRow (w.heap.size + 1) (bl F)).heap[w.heap.size + 1]? = some (.cells (bl F) 96 (0, 0)) := setRow_heap _ _ _ _ _ _ h21
  have b3 : Below w.heap.size w (W2.setRow (w.heap.size + 1) (bl F)) := below_setRow b2 (by omega) _
  generalize W2.setRow (w.heap.size + 1) (bl F) = w3 at *
  rw [hW2] at hcp
  unfold spz at hcp
  obtain ⟨C, hC⟩ : ∃ C, C = bl F := ⟨_, rfl⟩
  rw [← hC] at h31
  have hCs : C.size = 64 := by rw [hC]; simp [bl, hcs]
  have HK := hide (bsuper_any F w3 hFl hFb (HW.out.below b3 HW.out.pos))
  rw [← hC] at HK
  have HC := hide hC
  have H30 := hide h30
  have HB3 := hide b3
  clear hW2 b2 h20 h21 HSrc e3 hsrc hC h30 b3
  go_enter Tryz.func16, Tryz.ntmps16
  go_wp2_with (refine wpList_load_row rfl _ _ rfl (w.heap.size + 1) rfl 96 C (0, 0) _ h31 Tryz.underlying96 rfl (by rw [hCs]; exact infoBlock) ?_)
  refine HK.out.mono ?_
  rintro r w4 ⟨rfl, b4⟩
  have hss : sbOf F = sbOf zs := by rw [HF.out]; exact sbOf_take zs 64 (by omega)
  rw [hss]
  obtain ⟨s, hs⟩ : ∃ s, s = sbOf zs := ⟨_, rfl⟩
  rw [← hs]
  obtain ⟨X, hX⟩ : ∃ X, X = sbv s := ⟨_, rfl⟩
  rw [← hX]
  have hXs : X.size = 10 := by rw [hX]; rfl
  have hX1 : X.all (·.oneCell') = true := by rw [hX]; exact sbv_one _
  obtain ⟨w5, hw5⟩ : ∃ w5, w5 = w4.alloc (.cells X 45) := ⟨_, rfl⟩
  have b45 : Below w4.heap.size w4 w5 := by rw [hw5]; exact (Below.refl _ _).alloc (Nat.le_refl _) _
  have b35 : Below w3.heap.size w3 w5 := b4.trans (b45.mono b4.size)
  have hx5 : w5.heap[w4.heap.size]? = some (.cells X 45 (0, 0)) := by rw [hw5]; exact heap_new rfl
  have HX : Hid (∀ wX, Below w5.heap.size w5 wX → wX.heap[w4.heap.size]? = some (.cells X 45 (0, 0))) := fun wX h => (h.block _ (heap_lt hx5)).trans hx5
  have HC0 : Hid (∀ wX, Below w5.heap.size w5 wX → wX.cell? ⟨w4.heap.size, 0, none⟩ = some (.int .i64 s.size)) := fun wX h => by
    rw [cell_of_row _ _ 0 _ _ _ ((h.block _ (heap_lt hx5)).trans hx5), hX]; rfl
  have hc5 : w5.heap[w.heap.size + 1]? = some (.cells C 96 (0, 0)) := (b35.block _ (heap_lt h31)).trans h31
  have HCb : Hid (∀ wX, Below w5.heap.size w5 wX → wX.heap[w.heap.size + 1]? = some (.cells C 96 (0, 0))) := fun wX h => (h.block _ (heap_lt hc5)).trans hc5
  have H50 : Hid (w5.heap[w.heap.size]? = some (.cells spz 45 (0, 0))) := (b35.block _ (heap_lt H30.out)).trans H30.out
  have HB5 : Hid (Below w.heap.size w w5) := HB3.out.trans (b35.mono HB3.out.size)
  have h5s : w.heap.size < w5.heap.size := heap_lt H50.out
  have HW5 := hide hw5
  have HSb := hide hs
  have HXe : Hid (sbv (sbOf zs) = X) := by show _ = _; rw [hX, ← hs]
  have hm := sMay_any s
  rw [← hX] at hm
  have HXv := hide hX
  clear hss hX b4 b45 b35 hx5 hw5 hc5 HK hs h31 H30 hcp hcs
  go_wp2_with (refine wpList_store_row rfl _ _ _ rfl w4.heap.size X rfl rfl 45 _ (heap_alloc_new w4 _) (by rw [hXs]; exact infoSuper) (by rw [hXs]; rfl) hX1 ?_; rw [World.setRow_alloc_new])
  rw [← HW5.out]
  cases hq : s.may with
  | false =>
    have HG : Hid (¬ good T zs) := fun h => by
      have h2 := may_not.1 hq
      rw [HSb.out] at h2
      exact h2 h.2.1
    have HMay : Hid (∀ w', Calls Tryz.prog 38 #[.agg X] w' fun e w'' => e = .returned (.bool false) ∧ Below w'.heap.size w' w'') := by
      rw [hq] at hm; exact hm
    clear hm hq
    refine wp_region_held_drew (S := fun wX => Below w5.heap.size w5 wX) (by kernel_rfl) (Below.refl _ _).drew (fun hHeld => ?_)
    refine wpAnyH_take (i := 0) (oi := ⟨some 17, _, _, _, _, _⟩) (v := .agg X) rfl (by kernel_rfl) (by kernel_rfl) (by kernel_rfl) (fun _ _ _ h => h) (yieldsIf_load_row (by rfl) _ _ rfl w4.heap.size rfl X (fun w' h' => load_super (HX.out w' h') hXs)) (by assumption) ?_
    try simp only [Act.put, List.setIfInBounds_toArray, List.set_cons_zero, List.set_cons_succ]
    refine wpAnyH_ready (rs := [1]) (by kernel_rfl) (by simp) ?_
    refine AllReadyH.cons (o := ⟨some 18, _, _, _, _, _⟩) rfl (fun K hK => ?_) AllReadyH.nil
    go_simp
    refine (HMay.out _).mono ?_
    rintro r w6 ⟨rfl, b6⟩
    have hb6 : Below w5.heap.size w5 w6 := hHeld.trans (b6.mono hHeld.size)
    clear b6
    refine hK.out _ _ hb6 (fun hHeld => ?_)
    clear hK K
    try simp only [Act.put, List.setIfInBounds_toArray, List.set_cons_zero, List.set_cons_succ]
    refine wpAnyH_take (i := 2) (oi := ⟨some 19, _, _, _, _, _⟩) (v := ?_) rfl (by kernel_rfl) (by kernel_rfl) (by kernel_rfl) (fun _ _ _ h => h) (Or.inl ⟨by rfl, ?_⟩) (by assumption) ?_
    rotate_left
    · (intro w hSw; go_simp; try with_reducible rfl)
    try simp only [Act.put, List.setIfInBounds_toArray, List.set_cons_zero, List.set_cons_succ]
    refine wpAnyH_take (i := 3) (oi := ⟨some 20, _, _, _, _, _⟩) (v := ?_) rfl (by kernel_rfl) (by kernel_rfl) (by kernel_rfl) (fun _ _ _ h => h) (Or.inl ⟨by rfl, ?_⟩) (by assumption) ?_
    rotate_left
    · (intro w hSw; go_simp; try with_reducible rfl)
    try simp only [Act.put, List.setIfInBounds_toArray, List.set_cons_zero, List.set_cons_succ]
    refine wpAnyH_take (i := 4) (oi := ⟨some 21, _, _, _, _, _⟩) (v := undef) rfl (by kernel_rfl) (by kernel_rfl) (by kernel_rfl) (fun _ _ _ h => h) (Or.inr ⟨by rfl, rfl⟩) (by assumption) ?_
    try simp only [Act.put, List.setIfInBounds_toArray, List.set_cons_zero, List.set_cons_succ]
    refine wpAnyH_take (i := 5) (oi := ⟨some 22, _, _, _, _, _⟩) (v := undef) rfl (by kernel_rfl) (by kernel_rfl) (by kernel_rfl) (fun _ _ _ h => h) (Or.inr ⟨by rfl, rfl⟩) (by assumption) ?_
    try simp only [Act.put, List.setIfInBounds_toArray, List.set_cons_zero, List.set_cons_succ]
    refine wpAnyH_take (i := 6) (oi := ⟨some 23, _, _, _, _, _⟩) (v := undef) rfl (by kernel_rfl) (by kernel_rfl) (by kernel_rfl) (fun _ _ _ h => h) (Or.inr ⟨by rfl, rfl⟩) (by assumption) ?_
    try simp only [Act.put, List.setIfInBounds_toArray, List.set_cons_zero, List.set_cons_succ]
    refine wpAnyH_take (i := 7) (oi := ⟨some 24, _, _, _, _, _⟩) (v := undef) rfl (by kernel_rfl) (by kernel_rfl) (by kernel_rfl) (fun _ _ _ h => h) (Or.inr ⟨by rfl, rfl⟩) (by assumption) ?_
    try simp only [Act.put, List.setIfInBounds_toArray, List.set_cons_zero, List.set_cons_succ]
    refine wpAnyH_take (i := 8) (oi := ⟨some 25, _, _, _, _, _⟩) (v := undef) rfl (by kernel_rfl) (by kernel_rfl) (by kernel_rfl) (fun _ _ _ h => h) (Or.inr ⟨by rfl, rfl⟩) (by assumption) ?_
    try simp only [Act.put, List.setIfInBounds_toArray, List.set_cons_zero, List.set_cons_succ]
    refine wpAnyH_take (i := 9) (oi := ⟨some 26, _, _, _, _, _⟩) (v := ?_) rfl (by kernel_rfl) (by kernel_rfl) (by kernel_rfl) (fun _ _ _ h => h) (Or.inl ⟨by rfl, ?_⟩) (by assumption) ?_
    rotate_left
    · (intro w hSw; go_simp; try with_reducible rfl)
    try simp only [Act.put, List.setIfInBounds_toArray, List.set_cons_zero, List.set_cons_succ]
    refine wpAnyH_take (i := 10) (oi := ⟨some 27, _, _, _, _, _⟩) (v := ?_) rfl (by kernel_rfl) (by kernel_rfl) (by kernel_rfl) (fun _ _ _ h => h) (Or.inl ⟨by rfl, ?_⟩) (by assumption) ?_
    rotate_left
    · (intro w hSw; go_simp; try with_reducible rfl)
    try simp only [Act.put, List.setIfInBounds_toArray, List.set_cons_zero, List.set_cons_succ]
    refine wpAnyH_take (i := 11) (oi := ⟨some 28, _, _, _, _, _⟩) (v := undef) rfl (by kernel_rfl) (by kernel_rfl) (by kernel_rfl) (fun _ _ _ h => h) (Or.inr ⟨by rfl, rfl⟩) (by assumption) ?_
    try simp only [Act.put, List.setIfInBounds_toArray, List.set_cons_zero, List.set_cons_succ]
    refine wpAnyH_take (i := 12) (oi := ⟨some 29, _, _, _, _, _⟩) (v := undef) rfl (by kernel_rfl) (by kernel_rfl) (by kernel_rfl) (fun _ _ _ h => h) (Or.inr ⟨by rfl, rfl⟩) (by assumption) ?_
    try simp only [Act.put, List.setIfInBounds_toArray, List.set_cons_zero, List.set_cons_succ]
    refine wpAnyH_take (i := 13) (oi := ⟨some 30, _, _, _, _, _⟩) (v := undef) rfl (by kernel_rfl) (by kernel_rfl) (by kernel_rfl) (fun _ _ _ h => h) (Or.inr ⟨by rfl, rfl⟩) (by assumption) ?_
    try simp only [Act.put, List.setIfInBounds_toArray, List.set_cons_zero, List.set_cons_succ]
    refine wpAnyH_ready (rs := [14]) (by kernel_rfl) (by simp) ?_
    refine AllReadyH.cons (o := ⟨some 31, _, _, _, _, _⟩) rfl (fun K hK => ?_) AllReadyH.nil
    go_simp
    refine hK.out _ _ hHeld (fun hHeld => ?_)
    clear hK K
    try simp only [Act.put, List.setIfInBounds_toArray, List.set_cons_zero, List.set_cons_succ]
    refine wpAnyH_take (i := 15) (oi := ⟨some 32, _, _, _, _, _⟩) (v := undef) rfl (by kernel_rfl) (by kernel_rfl) (by kernel_rfl) (fun _ _ _ h => h) (Or.inr ⟨by rfl, rfl⟩) (by assumption) ?_
    try simp only [Act.put, List.setIfInBounds_toArray, List.set_cons_zero, List.set_cons_succ]
    refine wpAnyH_take (i := 16) (oi := ⟨some 33, _, _, _, _, _⟩) (v := ?_) rfl (by kernel_rfl) (by kernel_rfl) (by kernel_rfl) (fun _ _ _ h => h) (Or.inl ⟨by rfl, ?_⟩) (by assumption) ?_
    rotate_left
    · (intro w hSw; go_simp; try with_reducible rfl)
    try simp only [Act.put, List.setIfInBounds_toArray, List.set_cons_zero, List.set_cons_succ]
    refine wpAnyH_done (by kernel_rfl) ?_ _
    have HRf : Hid (w6.heap[w.heap.size]? = some (.cells spz 45 (0, 0)) ∧ Below w.heap.size w w6) := ⟨(hHeld.block _ (by omega)).trans H50.out, HB5.out.trans (hHeld.mono HB5.out.size)⟩
    clear hHeld
    go_wp2_with (refine wpList_store_row rfl _ _ _ rfl w.heap.size spz rfl rfl 45 spz HRf.out.1 infoSuper rfl zv_one ?_)
    refine bodyPost_ret (v := .tuple #[.agg spz, .int .i64 2]) ?_ rfl ⟨.inr ⟨HG.out, rfl⟩, below_setRow HRf.out.2 (Nat.le_refl _) _⟩
    exact results_cr2 (p := 4) (u := 5) rfl _ _ w.heap.size spz rfl (load_super (setRow_heap _ _ _ _ _ _ HRf.out.1) rfl)
  | true =>
    have hok : s.ok := may_iff.1 hq
    have HMay : Hid (∀ w', Calls Tryz.prog 38 #[.agg X] w' fun e w'' => e = .returned (.bool true) ∧ Below w'.heap.size w' w'') := by
      rw [hq] at hm; exact hm
    clear hm hq
    by_cases hsz : s.size = len
    · have hne : (s.size != (len : Int)) = false := by rw [hsz]; simp
      have HBlk : Hid (∀ wX, Below w5.heap.size w5 wX → Calls Tryz.prog 39 #[.pointer (some ⟨tb, 0, none⟩), .agg X] wX fun e w' => e = .returned (.agg (bl (put T s))) ∧ Below wX.heap.size wX w') := fun wX h => by
        have hb := HB5.out.trans (h.mono HB5.out.size)
        have := blockOf_any tb T s wX hok hS (HT.out.below hb htb) (Nat.lt_of_lt_of_le htb hb.size) (HW.out.below hb HW.out.pos)
        rw [← HXv.out] at this
        exact this
      have HEq : Hid (∀ w', (Op.equalIn 10000 96 (.agg C) (.agg (bl (put T s)))).run Tryz.prog w' = .ok (decide (F = put T s)) w') := fun w' => by
        rw [HC.out]; exact equalIn_block w' hFl (put_length T s) hFb (put_bytes T s)
      have hgd : Tryz.prog.eqGuardType Tryz.prog.depth 96 = false := by kernel_rfl
      have hgd2 : ∀ (w : World) (x y : Operand) (a b : Array Value), (eqGuard .neq 96 x y (.agg a) (.agg b)).run Tryz.prog w = .ok () w := fun w x y a b => by simp [eqGuard, hgd]
      obtain ⟨Pt, hPt⟩ : ∃ Pt, Pt = bl (put T s) := ⟨_, rfl⟩
      rw [← hPt] at HBlk HEq
      by_cases hbk : F = put T s
      · have HG : Hid (good T zs) := ⟨by omega, by rw [← HSb.out]; exact hok, by rw [← HSb.out, hz]; exact hsz, by rw [← HSb.out, ← HF.out]; exact hbk⟩
        have HNe : Hid (∀ w', (Op.equalIn 10000 96 (.agg C) (.agg Pt)).run Tryz.prog w' = .ok true w') := fun w' => by rw [HEq.out w', decide_eq_true hbk]
        clear hok hsz hPt hbk HEq
        refine wp_region_held_drew (S := fun wX => Below w5.heap.size w5 wX) (by kernel_rfl) (Below.refl _ _).drew (fun hHeld => ?_)
        refine wpAnyH_take (i := 0) (oi := ⟨some 17, _, _, _, _, _⟩) (v := .agg X) rfl (by kernel_rfl) (by kernel_rfl) (by kernel_rfl) (fun _ _ _ h => h) (yieldsIf_load_row (by rfl) _ _ rfl w4.heap.size rfl X (fun w' h' => load_super (HX.out w' h') hXs)) (by assumption) ?_
        try simp only [Act.put, List.setIfInBounds_toArray, List.set_cons_zero, List.set_cons_succ]
        refine wpAnyH_ready (rs := [1]) (by kernel_rfl) (by simp) ?_
        refine AllReadyH.cons (o := ⟨some 18, _, _, _, _, _⟩) rfl (fun K hK => ?_) AllReadyH.nil
        go_simp
        refine (HMay.out _).mono ?_
        rintro r w6 ⟨rfl, b6⟩
        have hb6 : Below w5.heap.size w5 w6 := hHeld.trans (b6.mono hHeld.size)
        clear b6
        refine hK.out _ _ hb6 (fun hHeld => ?_)
        clear hK K
        try simp only [Act.put, List.setIfInBounds_toArray, List.set_cons_zero, List.set_cons_succ]
        refine wpAnyH_take (i := 2) (oi := ⟨some 19, _, _, _, _, _⟩) (v := ?_) rfl (by kernel_rfl) (by kernel_rfl) (by kernel_rfl) (fun _ _ _ h => h) (Or.inl ⟨by rfl, ?_⟩) (by assumption) ?_
        rotate_left
        · (intro w hSw; go_simp; try with_reducible rfl)
        try simp only [Act.put, List.setIfInBounds_toArray, List.set_cons_zero, List.set_cons_succ]
        refine wpAnyH_take (i := 3) (oi := ⟨some 20, _, _, _, _, _⟩) (v := ?_) rfl (by kernel_rfl) (by kernel_rfl) (by kernel_rfl) (fun _ _ _ h => h) (Or.inl ⟨by rfl, ?_⟩) (by assumption) ?_
        rotate_left
        · (intro w hSw; go_simp; try with_reducible rfl)
        try simp only [Act.put, List.setIfInBounds_toArray, List.set_cons_zero, List.set_cons_succ]
        refine wpAnyH_take (i := 4) (oi := ⟨some 21, _, _, _, _, _⟩) (v := ?_) rfl (by kernel_rfl) (by kernel_rfl) (by kernel_rfl) (fun _ _ _ h => h) (Or.inl ⟨by rfl, ?_⟩) (by assumption) ?_
        rotate_left
        · (intro w hSw; go_simp; try with_reducible rfl)
        try simp only [Act.put, List.setIfInBounds_toArray, List.set_cons_zero, List.set_cons_succ]
        refine wpAnyH_take (i := 5) (oi := ⟨some 22, _, _, _, _, _⟩) (v := ?_) rfl (by kernel_rfl) (by kernel_rfl) (by kernel_rfl) (fun _ _ _ h => h) (Or.inl ⟨by rfl, ?_⟩) (by assumption) ?_
        rotate_left
        · (intro w hSw; have c0 := HC0.out w hSw; go_simp; try with_reducible rfl)
        try simp only [Act.put, List.setIfInBounds_toArray, List.set_cons_zero, List.set_cons_succ]
        refine wpAnyH_take (i := 6) (oi := ⟨some 23, _, _, _, _, _⟩) (v := ?_) rfl (by kernel_rfl) (by kernel_rfl) (by kernel_rfl) (fun _ _ _ h => h) (Or.inl ⟨by rfl, ?_⟩) (by assumption) ?_
        rotate_left
        · (intro w hSw; go_simp; try with_reducible rfl)
        try simp only [Act.put, List.setIfInBounds_toArray, List.set_cons_zero, List.set_cons_succ]
        refine wpAnyH_take (i := 7) (oi := ⟨some 24, _, _, _, _, _⟩) (v := ?_) rfl (by kernel_rfl) (by kernel_rfl) (by kernel_rfl) (fun _ _ _ h => h) (Or.inl ⟨by rfl, ?_⟩) (by assumption) ?_
        rotate_left
        · (intro w hSw; go_simp; try with_reducible rfl)
        try simp only [Act.put, List.setIfInBounds_toArray, List.set_cons_zero, List.set_cons_succ]
        refine wpAnyH_take (i := 8) (oi := ⟨some 25, _, _, _, _, _⟩) (v := ?_) rfl (by kernel_rfl) (by kernel_rfl) (by kernel_rfl) (fun _ _ _ h => h) (Or.inl ⟨by rfl, ?_⟩) (by assumption) ?_
        rotate_left
        · (intro w hSw; go_simp; try with_reducible rfl)
        try simp only [Act.put, List.setIfInBounds_toArray, List.set_cons_zero, List.set_cons_succ]
        refine wpAnyH_take (i := 9) (oi := ⟨some 26, _, _, _, _, _⟩) (v := ?_) rfl (by kernel_rfl) (by kernel_rfl) (by kernel_rfl) (fun _ _ _ h => h) (Or.inl ⟨by rfl, ?_⟩) (by assumption) ?_
        rotate_left
        · (intro w hSw; go_simp; try with_reducible rfl)
        try simp only [Act.put, List.setIfInBounds_toArray, List.set_cons_zero, List.set_cons_succ]
        refine wpAnyH_take (i := 10) (oi := ⟨some 27, _, _, _, _, _⟩) (v := ?_) rfl (by kernel_rfl) (by kernel_rfl) (by kernel_rfl) (fun _ _ _ h => h) (Or.inl ⟨by rfl, ?_⟩) (by assumption) ?_
        rotate_left
        · (intro w hSw; go_simp; try with_reducible rfl)
        try simp only [Act.put, List.setIfInBounds_toArray, List.set_cons_zero, List.set_cons_succ]
        refine wpAnyH_take (i := 11) (oi := ⟨some 28, _, _, _, _, _⟩) (v := .agg C) rfl (by kernel_rfl) (by kernel_rfl) (by kernel_rfl) (fun _ _ _ h => h) (yieldsIf_load_row (by rfl) _ _ rfl (w.heap.size + 1) rfl C (fun w' h' => load_block (HCb.out w' h') hCs)) (by assumption) ?_
        try simp only [Act.put, List.setIfInBounds_toArray, List.set_cons_zero, List.set_cons_succ]
        refine wpAnyH_take (i := 12) (oi := ⟨some 29, _, _, _, _, _⟩) (v := ?_) rfl (by kernel_rfl) (by kernel_rfl) (by kernel_rfl) (fun _ _ _ h => h) (Or.inl ⟨by rfl, ?_⟩) (by assumption) ?_
        rotate_left
        · (intro w hSw; go_simp; try with_reducible rfl)
        try simp only [Act.put, List.setIfInBounds_toArray, List.set_cons_zero, List.set_cons_succ]
        refine wpAnyH_take (i := 13) (oi := ⟨some 30, _, _, _, _, _⟩) (v := .agg X) rfl (by kernel_rfl) (by kernel_rfl) (by kernel_rfl) (fun _ _ _ h => h) (yieldsIf_load_row (by rfl) _ _ rfl w4.heap.size rfl X (fun w' h' => load_super (HX.out w' h') hXs)) (by assumption) ?_
        try simp only [Act.put, List.setIfInBounds_toArray, List.set_cons_zero, List.set_cons_succ]
        refine wpAnyH_ready (rs := [14]) (by kernel_rfl) (by simp) ?_
        refine AllReadyH.cons (o := ⟨some 31, _, _, _, _, _⟩) rfl (fun K hK => ?_) AllReadyH.nil
        go_simp
        refine (HBlk.out _ hHeld).mono ?_
        rintro r w7 ⟨rfl, b7⟩
        have hb7 : Below w5.heap.size w5 w7 := hHeld.trans (b7.mono hHeld.size)
        clear b7
        refine hK.out _ _ hb7 (fun hHeld => ?_)
        clear hK K
        try simp only [Act.put, List.setIfInBounds_toArray, List.set_cons_zero, List.set_cons_succ]
        refine wpAnyH_take (i := 15) (oi := ⟨some 32, _, _, _, _, _⟩) (v := ?_) rfl (by kernel_rfl) (by kernel_rfl) (by kernel_rfl) (fun _ _ _ h => h) (Or.inl ⟨by rfl, ?_⟩) (by assumption) ?_
        rotate_left
        · (intro w hSw; have hq := HNe.out w; go_simp; try with_reducible rfl)
        try simp only [Act.put, List.setIfInBounds_toArray, List.set_cons_zero, List.set_cons_succ]
        refine wpAnyH_take (i := 16) (oi := ⟨some 33, _, _, _, _, _⟩) (v := ?_) rfl (by kernel_rfl) (by kernel_rfl) (by kernel_rfl) (fun _ _ _ h => h) (Or.inl ⟨by rfl, ?_⟩) (by assumption) ?_
        rotate_left
        · (intro w hSw; go_simp; try with_reducible rfl)
        try simp only [Act.put, List.setIfInBounds_toArray, List.set_cons_zero, List.set_cons_succ]
        refine wpAnyH_done (by kernel_rfl) ?_ _
        have HRf : Hid (w7.heap[w.heap.size]? = some (.cells spz 45 (0, 0)) ∧ Below w.heap.size w w7 ∧ w7.heap[w4.heap.size]? = some (.cells X 45 (0, 0))) := ⟨(hHeld.block _ (by omega)).trans H50.out, HB5.out.trans (hHeld.mono HB5.out.size), HX.out _ hHeld⟩
        clear hHeld
        go_wp2_with (first
          | refine wpList_load_row rfl _ _ rfl w4.heap.size rfl 45 X (0, 0) _ HRf.out.2.2 Tryz.underlying45 rfl (by rw [hXs]; exact infoSuper) ?_
          | refine wpList_store_row rfl _ _ _ rfl w.heap.size X rfl rfl 45 spz HRf.out.1 (by rw [hXs]; exact infoSuper) (by rw [hXs]; rfl) hX1 ?_)
        refine bodyPost_ret (v := .tuple #[.agg X, .int .i64 0]) ?_ rfl ⟨.inl ⟨HG.out, by rw [HXe.out]⟩, below_setRow HRf.out.2.1 (Nat.le_refl _) _⟩
        exact results_cr2 (p := 4) (u := 5) rfl _ _ w.heap.size X rfl (load_super (setRow_heap _ _ _ _ _ _ HRf.out.1) hXs)
      · have HG : Hid (¬ good T zs) := fun h => hbk (by rw [HF.out, HSb.out]; exact h.2.2.2)
        have HNe : Hid (∀ w', (Op.equalIn 10000 96 (.agg C) (.agg Pt)).run Tryz.prog w' = .ok false w') := fun w' => by rw [HEq.out w', decide_eq_false hbk]
        clear hok hsz hPt hbk HEq
        refine wp_region_held_drew (S := fun wX => Below w5.heap.size w5 wX) (by kernel_rfl) (Below.refl _ _).drew (fun hHeld => ?_)
        refine wpAnyH_take (i := 0) (oi := ⟨some 17, _, _, _, _, _⟩) (v := .agg X) rfl (by kernel_rfl) (by kernel_rfl) (by kernel_rfl) (fun _ _ _ h => h) (yieldsIf_load_row (by rfl) _ _ rfl w4.heap.size rfl X (fun w' h' => load_super (HX.out w' h') hXs)) (by assumption) ?_
        try simp only [Act.put, List.setIfInBounds_toArray, List.set_cons_zero, List.set_cons_succ]
        refine wpAnyH_ready (rs := [1]) (by kernel_rfl) (by simp) ?_
        refine AllReadyH.cons (o := ⟨some 18, _, _, _, _, _⟩) rfl (fun K hK => ?_) AllReadyH.nil
        go_simp
        refine (HMay.out _).mono ?_
        rintro r w6 ⟨rfl, b6⟩
        have hb6 : Below w5.heap.size w5 w6 := hHeld.trans (b6.mono hHeld.size)
        clear b6
        refine hK.out _ _ hb6 (fun hHeld => ?_)
        clear hK K
        try simp only [Act.put, List.setIfInBounds_toArray, List.set_cons_zero, List.set_cons_succ]
        refine wpAnyH_take (i := 2) (oi := ⟨some 19, _, _, _, _, _⟩) (v := ?_) rfl (by kernel_rfl) (by kernel_rfl) (by kernel_rfl) (fun _ _ _ h => h) (Or.inl ⟨by rfl, ?_⟩) (by assumption) ?_
        rotate_left
        · (intro w hSw; go_simp; try with_reducible rfl)
        try simp only [Act.put, List.setIfInBounds_toArray, List.set_cons_zero, List.set_cons_succ]
        refine wpAnyH_take (i := 3) (oi := ⟨some 20, _, _, _, _, _⟩) (v := ?_) rfl (by kernel_rfl) (by kernel_rfl) (by kernel_rfl) (fun _ _ _ h => h) (Or.inl ⟨by rfl, ?_⟩) (by assumption) ?_
        rotate_left
        · (intro w hSw; go_simp; try with_reducible rfl)
        try simp only [Act.put, List.setIfInBounds_toArray, List.set_cons_zero, List.set_cons_succ]
        refine wpAnyH_take (i := 4) (oi := ⟨some 21, _, _, _, _, _⟩) (v := ?_) rfl (by kernel_rfl) (by kernel_rfl) (by kernel_rfl) (fun _ _ _ h => h) (Or.inl ⟨by rfl, ?_⟩) (by assumption) ?_
        rotate_left
        · (intro w hSw; go_simp; try with_reducible rfl)
        try simp only [Act.put, List.setIfInBounds_toArray, List.set_cons_zero, List.set_cons_succ]
        refine wpAnyH_take (i := 5) (oi := ⟨some 22, _, _, _, _, _⟩) (v := ?_) rfl (by kernel_rfl) (by kernel_rfl) (by kernel_rfl) (fun _ _ _ h => h) (Or.inl ⟨by rfl, ?_⟩) (by assumption) ?_
        rotate_left
        · (intro w hSw; have c0 := HC0.out w hSw; go_simp; try with_reducible rfl)
        try simp only [Act.put, List.setIfInBounds_toArray, List.set_cons_zero, List.set_cons_succ]
        refine wpAnyH_take (i := 6) (oi := ⟨some 23, _, _, _, _, _⟩) (v := ?_) rfl (by kernel_rfl) (by kernel_rfl) (by kernel_rfl) (fun _ _ _ h => h) (Or.inl ⟨by rfl, ?_⟩) (by assumption) ?_
        rotate_left
        · (intro w hSw; go_simp; try with_reducible rfl)
        try simp only [Act.put, List.setIfInBounds_toArray, List.set_cons_zero, List.set_cons_succ]
        refine wpAnyH_take (i := 7) (oi := ⟨some 24, _, _, _, _, _⟩) (v := ?_) rfl (by kernel_rfl) (by kernel_rfl) (by kernel_rfl) (fun _ _ _ h => h) (Or.inl ⟨by rfl, ?_⟩) (by assumption) ?_
        rotate_left
        · (intro w hSw; go_simp; try with_reducible rfl)
        try simp only [Act.put, List.setIfInBounds_toArray, List.set_cons_zero, List.set_cons_succ]
        refine wpAnyH_take (i := 8) (oi := ⟨some 25, _, _, _, _, _⟩) (v := ?_) rfl (by kernel_rfl) (by kernel_rfl) (by kernel_rfl) (fun _ _ _ h => h) (Or.inl ⟨by rfl, ?_⟩) (by assumption) ?_
        rotate_left
        · (intro w hSw; go_simp; try with_reducible rfl)
        try simp only [Act.put, List.setIfInBounds_toArray, List.set_cons_zero, List.set_cons_succ]
        refine wpAnyH_take (i := 9) (oi := ⟨some 26, _, _, _, _, _⟩) (v := ?_) rfl (by kernel_rfl) (by kernel_rfl) (by kernel_rfl) (fun _ _ _ h => h) (Or.inl ⟨by rfl, ?_⟩) (by assumption) ?_
        rotate_left
        · (intro w hSw; go_simp; try with_reducible rfl)
        try simp only [Act.put, List.setIfInBounds_toArray, List.set_cons_zero, List.set_cons_succ]
        refine wpAnyH_take (i := 10) (oi := ⟨some 27, _, _, _, _, _⟩) (v := ?_) rfl (by kernel_rfl) (by kernel_rfl) (by kernel_rfl) (fun _ _ _ h => h) (Or.inl ⟨by rfl, ?_⟩) (by assumption) ?_
        rotate_left
        · (intro w hSw; go_simp; try with_reducible rfl)
        try simp only [Act.put, List.setIfInBounds_toArray, List.set_cons_zero, List.set_cons_succ]
        refine wpAnyH_take (i := 11) (oi := ⟨some 28, _, _, _, _, _⟩) (v := .agg C) rfl (by kernel_rfl) (by kernel_rfl) (by kernel_rfl) (fun _ _ _ h => h) (yieldsIf_load_row (by rfl) _ _ rfl (w.heap.size + 1) rfl C (fun w' h' => load_block (HCb.out w' h') hCs)) (by assumption) ?_
        try simp only [Act.put, List.setIfInBounds_toArray, List.set_cons_zero, List.set_cons_succ]
        refine wpAnyH_take (i := 12) (oi := ⟨some 29, _, _, _, _, _⟩) (v := ?_) rfl (by kernel_rfl) (by kernel_rfl) (by kernel_rfl) (fun _ _ _ h => h) (Or.inl ⟨by rfl, ?_⟩) (by assumption) ?_
        rotate_left
        · (intro w hSw; go_simp; try with_reducible rfl)
        try simp only [Act.put, List.setIfInBounds_toArray, List.set_cons_zero, List.set_cons_succ]
        refine wpAnyH_take (i := 13) (oi := ⟨some 30, _, _, _, _, _⟩) (v := .agg X) rfl (by kernel_rfl) (by kernel_rfl) (by kernel_rfl) (fun _ _ _ h => h) (yieldsIf_load_row (by rfl) _ _ rfl w4.heap.size rfl X (fun w' h' => load_super (HX.out w' h') hXs)) (by assumption) ?_
        try simp only [Act.put, List.setIfInBounds_toArray, List.set_cons_zero, List.set_cons_succ]
        refine wpAnyH_ready (rs := [14]) (by kernel_rfl) (by simp) ?_
        refine AllReadyH.cons (o := ⟨some 31, _, _, _, _, _⟩) rfl (fun K hK => ?_) AllReadyH.nil
        go_simp
        refine (HBlk.out _ hHeld).mono ?_
        rintro r w7 ⟨rfl, b7⟩
        have hb7 : Below w5.heap.size w5 w7 := hHeld.trans (b7.mono hHeld.size)
        clear b7
        refine hK.out _ _ hb7 (fun hHeld => ?_)
        clear hK K
        try simp only [Act.put, List.setIfInBounds_toArray, List.set_cons_zero, List.set_cons_succ]
        refine wpAnyH_take (i := 15) (oi := ⟨some 32, _, _, _, _, _⟩) (v := ?_) rfl (by kernel_rfl) (by kernel_rfl) (by kernel_rfl) (fun _ _ _ h => h) (Or.inl ⟨by rfl, ?_⟩) (by assumption) ?_
        rotate_left
        · (intro w hSw; have hq := HNe.out w; go_simp; try with_reducible rfl)
        try simp only [Act.put, List.setIfInBounds_toArray, List.set_cons_zero, List.set_cons_succ]
        refine wpAnyH_take (i := 16) (oi := ⟨some 33, _, _, _, _, _⟩) (v := ?_) rfl (by kernel_rfl) (by kernel_rfl) (by kernel_rfl) (fun _ _ _ h => h) (Or.inl ⟨by rfl, ?_⟩) (by assumption) ?_
        rotate_left
        · (intro w hSw; go_simp; try with_reducible rfl)
        try simp only [Act.put, List.setIfInBounds_toArray, List.set_cons_zero, List.set_cons_succ]
        refine wpAnyH_done (by kernel_rfl) ?_ _
        have HRf : Hid (w7.heap[w.heap.size]? = some (.cells spz 45 (0, 0)) ∧ Below w.heap.size w w7) := ⟨(hHeld.block _ (by omega)).trans H50.out, HB5.out.trans (hHeld.mono HB5.out.size)⟩
        clear hHeld
        go_wp2_with (refine wpList_store_row rfl _ _ _ rfl w.heap.size spz rfl rfl 45 spz HRf.out.1 infoSuper rfl zv_one ?_)
        refine bodyPost_ret (v := .tuple #[.agg spz, .int .i64 2]) ?_ rfl ⟨.inr ⟨HG.out, rfl⟩, below_setRow HRf.out.2 (Nat.le_refl _) _⟩
        exact results_cr2 (p := 4) (u := 5) rfl _ _ w.heap.size spz rfl (load_super (setRow_heap _ _ _ _ _ _ HRf.out.1) rfl)
    · have hne : (s.size != (len : Int)) = true := by simpa using hsz
      have HG : Hid (¬ good T zs) := fun h => hsz (by rw [HSb.out, h.2.2.1, hz])
      clear hok hsz
      refine wp_region_held_drew (S := fun wX => Below w5.heap.size w5 wX) (by kernel_rfl) (Below.refl _ _).drew (fun hHeld => ?_)
      refine wpAnyH_take (i := 0) (oi := ⟨some 17, _, _, _, _, _⟩) (v := .agg X) rfl (by kernel_rfl) (by kernel_rfl) (by kernel_rfl) (fun _ _ _ h => h) (yieldsIf_load_row (by rfl) _ _ rfl w4.heap.size rfl X (fun w' h' => load_super (HX.out w' h') hXs)) (by assumption) ?_
      try simp only [Act.put, List.setIfInBounds_toArray, List.set_cons_zero, List.set_cons_succ]
      refine wpAnyH_ready (rs := [1]) (by kernel_rfl) (by simp) ?_
      refine AllReadyH.cons (o := ⟨some 18, _, _, _, _, _⟩) rfl (fun K hK => ?_) AllReadyH.nil
      go_simp
      refine (HMay.out _).mono ?_
      rintro r w6 ⟨rfl, b6⟩
      have hb6 : Below w5.heap.size w5 w6 := hHeld.trans (b6.mono hHeld.size)
      clear b6
      refine hK.out _ _ hb6 (fun hHeld => ?_)
      clear hK K
      try simp only [Act.put, List.setIfInBounds_toArray, List.set_cons_zero, List.set_cons_succ]
      refine wpAnyH_take (i := 2) (oi := ⟨some 19, _, _, _, _, _⟩) (v := ?_) rfl (by kernel_rfl) (by kernel_rfl) (by kernel_rfl) (fun _ _ _ h => h) (Or.inl ⟨by rfl, ?_⟩) (by assumption) ?_
      rotate_left
      · (intro w hSw; go_simp; try with_reducible rfl)
      try simp only [Act.put, List.setIfInBounds_toArray, List.set_cons_zero, List.set_cons_succ]
      refine wpAnyH_take (i := 3) (oi := ⟨some 20, _, _, _, _, _⟩) (v := ?_) rfl (by kernel_rfl) (by kernel_rfl) (by kernel_rfl) (fun _ _ _ h => h) (Or.inl ⟨by rfl, ?_⟩) (by assumption) ?_
      rotate_left
      · (intro w hSw; go_simp; try with_reducible rfl)
      try simp only [Act.put, List.setIfInBounds_toArray, List.set_cons_zero, List.set_cons_succ]
      refine wpAnyH_take (i := 4) (oi := ⟨some 21, _, _, _, _, _⟩) (v := ?_) rfl (by kernel_rfl) (by kernel_rfl) (by kernel_rfl) (fun _ _ _ h => h) (Or.inl ⟨by rfl, ?_⟩) (by assumption) ?_
      rotate_left
      · (intro w hSw; go_simp; try with_reducible rfl)
      try simp only [Act.put, List.setIfInBounds_toArray, List.set_cons_zero, List.set_cons_succ]
      refine wpAnyH_take (i := 5) (oi := ⟨some 22, _, _, _, _, _⟩) (v := ?_) rfl (by kernel_rfl) (by kernel_rfl) (by kernel_rfl) (fun _ _ _ h => h) (Or.inl ⟨by rfl, ?_⟩) (by assumption) ?_
      rotate_left
      · (intro w hSw; have c0 := HC0.out w hSw; go_simp; try with_reducible rfl)
      try simp only [Act.put, List.setIfInBounds_toArray, List.set_cons_zero, List.set_cons_succ]
      refine wpAnyH_take (i := 6) (oi := ⟨some 23, _, _, _, _, _⟩) (v := ?_) rfl (by kernel_rfl) (by kernel_rfl) (by kernel_rfl) (fun _ _ _ h => h) (Or.inl ⟨by rfl, ?_⟩) (by assumption) ?_
      rotate_left
      · (intro w hSw; go_simp; try with_reducible rfl)
      try simp only [Act.put, List.setIfInBounds_toArray, List.set_cons_zero, List.set_cons_succ]
      refine wpAnyH_take (i := 7) (oi := ⟨some 24, _, _, _, _, _⟩) (v := ?_) rfl (by kernel_rfl) (by kernel_rfl) (by kernel_rfl) (fun _ _ _ h => h) (Or.inl ⟨by rfl, ?_⟩) (by assumption) ?_
      rotate_left
      · (intro w hSw; go_simp; try with_reducible rfl)
      try simp only [Act.put, List.setIfInBounds_toArray, List.set_cons_zero, List.set_cons_succ]
      refine wpAnyH_take (i := 8) (oi := ⟨some 25, _, _, _, _, _⟩) (v := ?_) rfl (by kernel_rfl) (by kernel_rfl) (by kernel_rfl) (fun _ _ _ h => h) (Or.inl ⟨by rfl, ?_⟩) (by assumption) ?_
      rotate_left
      · (intro w hSw; go_simp; try with_reducible rfl)
      try simp only [Act.put, List.setIfInBounds_toArray, List.set_cons_zero, List.set_cons_succ]
      refine wpAnyH_take (i := 9) (oi := ⟨some 26, _, _, _, _, _⟩) (v := ?_) rfl (by kernel_rfl) (by kernel_rfl) (by kernel_rfl) (fun _ _ _ h => h) (Or.inl ⟨by rfl, ?_⟩) (by assumption) ?_
      rotate_left
      · (intro w hSw; go_simp; try with_reducible rfl)
      try simp only [Act.put, List.setIfInBounds_toArray, List.set_cons_zero, List.set_cons_succ]
      refine wpAnyH_take (i := 10) (oi := ⟨some 27, _, _, _, _, _⟩) (v := ?_) rfl (by kernel_rfl) (by kernel_rfl) (by kernel_rfl) (fun _ _ _ h => h) (Or.inl ⟨by rfl, ?_⟩) (by assumption) ?_
      rotate_left
      · (intro w hSw; go_simp; try with_reducible rfl)
      try simp only [Act.put, List.setIfInBounds_toArray, List.set_cons_zero, List.set_cons_succ]
      refine wpAnyH_take (i := 11) (oi := ⟨some 28, _, _, _, _, _⟩) (v := undef) rfl (by kernel_rfl) (by kernel_rfl) (by kernel_rfl) (fun _ _ _ h => h) (Or.inr ⟨by rfl, rfl⟩) (by assumption) ?_
      try simp only [Act.put, List.setIfInBounds_toArray, List.set_cons_zero, List.set_cons_succ]
      refine wpAnyH_take (i := 12) (oi := ⟨some 29, _, _, _, _, _⟩) (v := undef) rfl (by kernel_rfl) (by kernel_rfl) (by kernel_rfl) (fun _ _ _ h => h) (Or.inr ⟨by rfl, rfl⟩) (by assumption) ?_
      try simp only [Act.put, List.setIfInBounds_toArray, List.set_cons_zero, List.set_cons_succ]
      refine wpAnyH_take (i := 13) (oi := ⟨some 30, _, _, _, _, _⟩) (v := undef) rfl (by kernel_rfl) (by kernel_rfl) (by kernel_rfl) (fun _ _ _ h => h) (Or.inr ⟨by rfl, rfl⟩) (by assumption) ?_
      try simp only [Act.put, List.setIfInBounds_toArray, List.set_cons_zero, List.set_cons_succ]
      refine wpAnyH_ready (rs := [14]) (by kernel_rfl) (by simp) ?_
      refine AllReadyH.cons (o := ⟨some 31, _, _, _, _, _⟩) rfl (fun K hK => ?_) AllReadyH.nil
      go_simp
      refine hK.out _ _ hHeld (fun hHeld => ?_)
      clear hK K
      try simp only [Act.put, List.setIfInBounds_toArray, List.set_cons_zero, List.set_cons_succ]
      refine wpAnyH_take (i := 15) (oi := ⟨some 32, _, _, _, _, _⟩) (v := undef) rfl (by kernel_rfl) (by kernel_rfl) (by kernel_rfl) (fun _ _ _ h => h) (Or.inr ⟨by rfl, rfl⟩) (by assumption) ?_
      try simp only [Act.put, List.setIfInBounds_toArray, List.set_cons_zero, List.set_cons_succ]
      refine wpAnyH_take (i := 16) (oi := ⟨some 33, _, _, _, _, _⟩) (v := ?_) rfl (by kernel_rfl) (by kernel_rfl) (by kernel_rfl) (fun _ _ _ h => h) (Or.inl ⟨by rfl, ?_⟩) (by assumption) ?_
      rotate_left
      · (intro w hSw; go_simp; try with_reducible rfl)
      try simp only [Act.put, List.setIfInBounds_toArray, List.set_cons_zero, List.set_cons_succ]
      refine wpAnyH_done (by kernel_rfl) ?_ _
      have HRf : Hid (w6.heap[w.heap.size]? = some (.cells spz 45 (0, 0)) ∧ Below w.heap.size w w6) := ⟨(hHeld.block _ (by omega)).trans H50.out, HB5.out.trans (hHeld.mono HB5.out.size)⟩
      clear hHeld
      go_wp2_with (refine wpList_store_row rfl _ _ _ rfl w.heap.size spz rfl rfl 45 spz HRf.out.1 infoSuper rfl zv_one ?_)
      refine bodyPost_ret (v := .tuple #[.agg spz, .int .i64 2]) ?_ rfl ⟨.inr ⟨HG.out, rfl⟩, below_setRow HRf.out.2 (Nat.le_refl _) _⟩
      exact results_cr2 (p := 4) (u := 5) rfl _ _ w.heap.size spz rfl (load_super (setRow_heap _ _ _ _ _ _ HRf.out.1) rfl)
/-- What Take answers, of any bytes. -/
theorem sTake_any (tb len cap : Nat) (T : Nat → Nat) (ao : Option Addr) (zs : List Int) (w : World) (hS : Small T) (hT : Tb w tb T) (htb : tb < w.heap.size) (hW : Wid w) (hB : Bs w ao len zs) (hl : len ≤ 1000000) :
    Calls Tryz.prog 16 #[.pointer (some ⟨tb, 0, none⟩), .slice ao len cap] w fun e w' => TakeAns T zs e ∧ Below w.heap.size w w' := by
  by_cases h : len < 64
  · exact Take_short tb len cap T ao zs w hB.1 h
  · exact Take_long tb len cap T ao zs w hS hT htb hW hB (by omega) hl
end Go.Proofs.YtchcejjoncihkaaGreatDoor

/- Layer 14: the document's example, and Build's answer for few nodes. -/
namespace Go.Proofs.YtchcejjoncihkaaGreatDoor
set_option linter.unusedVariables false
open Go.RowKit Go.Maps
open Lz (g)
open Crc (ent)
open Frm Mtr Tre Nam Tab Bld

/-- What Build answers, of at most 40 nodes: they are never too many. -/
def BAn (L : List (Nv × Nod)) (w : World) (e : Ending) (w' : World) : Prop :=
  Below w.heap.size w w' ∧ ((check (nds L) ≠ 0 ∧ e = .returned (.tuple #[.slice none 0 0, .int .i64 (check (nds L))])) ∨
  (check (nds L) = 0 ∧ ∃ l own ib, IsCanon (nds L) l ∧ OwnN l own ∧ Tl l ∧ e = .returned (.tuple #[.slice (some ⟨ib, 0, none⟩) (isz l own) (isz l own), .int .i64 0]) ∧ w.heap.size ≤ ib ∧ Bs w' (some ⟨ib, 0, none⟩) (isz l own) (im l own)))
theorem bs_bv {w : World} {b : Nat} {z : List Int} {t : TypeId} {fz : Nat × Nat} (hb : Bytes z) (h : w.heap[b]? = some (.cells (bv z).toArray t fz)) (n : Nat) (hn : z.length = n) : Bs w (some ⟨b, 0, none⟩) n z := by
  refine ⟨hn, hb.g, .inr ⟨b, 0, rfl, heap_lt h, fun i hi => ?_⟩⟩
  simp [World.cell?, h, bv, g, hi]
theorem Build_few (a : Option Addr) (n c : Nat) (L : List (Nv × Nod)) (w : World) (hN : Ns w a n L) (hc : n ≤ c) (hcm : c ≤ 9223372036854775807) (hn : n ≤ 40) (hW : Wid w) :
    Calls Tryz.prog 10 #[.slice a n c] w (BAn L w) := by
  refine (Build_any a n c L w hN hc hcm hn hW).mono ?_
  rintro e w' (⟨h1, h2, h3⟩ | ⟨h0, l, own, hc, ho, hb, hx⟩)
  · exact ⟨h3, .inl ⟨h1, h2⟩⟩
  · have ht : Tl l := Tl.of h0 hc (by rw [nds_length, hN.1]; exact hn)
    rcases hx with ⟨hx, _⟩ | ⟨_, ib, he, hib, hh, hby⟩
    · have := ht.size ho; omega
    · exact ⟨hb, .inr ⟨h0, l, own, ib, hc, ho, ht, he, hib, bs_bv hby hh _ (im_length l own)⟩⟩
/-- The root alone. -/
def Bld.n1 : Nod := ⟨[], 1, 1, 0, 0, 0, [], ⟨#[]⟩, [], false⟩
def Bld.v1 : Nv := ⟨none, 0, 0, 1, 1, 0, 0, 0, none, 0, 0, ⟨#[]⟩, none, 0, 0, false⟩
theorem Bld.n1_check : check [n1] = 0 := by decide +kernel
theorem Bld.n1_canon {l : List Nod} (h : IsCanon [n1] l) : l = [n1] := by
  obtain ⟨s, hp, _, rfl⟩ := h
  rw [List.perm_singleton.1 hp]
  rfl
theorem Bld.n1_rep (w : World) : Rep w v1 n1 :=
  ⟨⟨rfl, .inl rfl⟩, Nat.le_refl _, by decide, fun _ => rfl, rfl, by decide, rfl, rfl, rfl, rfl, ⟨rfl, fun i => by simp [g, n1], .inl rfl⟩, Nat.le_refl _, by decide, fun _ => rfl, rfl, by decide, ⟨rfl, .inl rfl⟩, Nat.le_refl _, by decide, fun _ => rfl, rfl⟩
theorem Bld.n1_isb {own : List Int} (ho : OwnN [n1] own) (ht : Tl [n1]) : (isb [n1] own).inodes = 1 ∧ (isb [n1] own).ids = 1 ∧ (isb [n1] own).frags = 0 ∧ (isb [n1] own).inodeAt = 64 := by
  have e : own = [0] := own_one ho ⟨by simp, fun x => by simp [n1]⟩
  have h1 := (ht.wi own).bR
  have h2 : 0 < (wq [n1] own).1.R.length := List.length_pos_of_mem (wq_mem [n1] own)
  have h3 : (cont [n1] [n1].length).b = [] := rfl
  have h4 : y1 [n1] = [] := rfl
  rw [List.length_singleton] at h1
  unfold isb sbl sb0
  refine ⟨?_, ?_, ?_, ?_⟩
  · show (((wq [n1] own).1.R.length : Nat) : Int) = 1; omega
  · show ((own.length : Nat) : Int) = 1; rw [e]; rfl
  · show ((((cont [n1] [n1].length).b.length : Nat)) : Int) = 0; rw [h3]; rfl
  · show ((64 + (y1 [n1]).length : Nat) : Int) = 64; rw [h4]; rfl
set_option maxRecDepth 100000 in
set_option maxHeartbeats 4000000 in
theorem shown_any (w : World) (hW : Wid w) : Calls Tryz.prog 8 #[] w fun e w' => e = .returned (.bool true) ∧ Below w.heap.size w w' := by
  obtain ⟨wA, hwA⟩ : ∃ wA, wA = w.alloc (.cells v1.cells 37) := ⟨_, rfl⟩
  have hbA : Below w.heap.size w wA := by rw [hwA]; exact (Below.refl _ w).alloc (Nat.le_refl _) _
  have hpA : wA.heap[w.heap.size]? = some (.cells v1.cells 37 (0, 0)) := by rw [hwA]; exact heap_alloc_new _ _
  have hNs : Ns wA (some ⟨w.heap.size, 0, none⟩) 1 [(v1, n1)] := by
    refine ⟨rfl, fun p hp => ?_, .inr ⟨w.heap.size, 0, rfl, heap_lt hpA, fun i hi => ?_⟩⟩
    · rw [List.mem_singleton.1 hp]; exact n1_rep wA
    · obtain rfl : i = 0 := by omega
      obtain ⟨_, b0, b1, b2, b3, b4, b5, b6, b7, b8, b9⟩ := (show Bk wA w.heap.size v1 from hpA).box
      exact ⟨b0, b1, b2, b3, b4, b5, b6, b7, b8, b9⟩
  have HBd := hide (Build_few (some ⟨w.heap.size, 0, none⟩) 1 1 [(v1, n1)] wA hNs (Nat.le_refl _) (by omega) (by omega) (hW.below hbA hW.pos))
  have HbA := hide hbA
  have HW := hide hW
  have HE : Hid (w.alloc (Obj.cells #[.slice none 0 0, .int .i64 1, .int .i64 1, .int .i64 0, .int .i64 0, .int .i64 0, .slice none 0 0, .string ⟨#[]⟩, .slice none 0 0, .bool false] 37) = wA) := hwA.symm
  clear hwA hbA hpA hNs hW
  go_enter Tryz.func8, Tryz.ntmps8
  go_wp2_with fail
  rw [HE.out]
  refine HBd.out.mono ?_
  rintro r w1 ⟨hb1, ⟨h, _⟩ | ⟨h0, l, own, ib, hc, ho, ht, rfl, hib, hB⟩⟩
  · exact absurd n1_check h
  have hl : l = [n1] := n1_canon hc
  subst hl
  obtain ⟨hg, hs⟩ := ht.good ho
  obtain ⟨i1, i2, i3, i4⟩ := n1_isb ho ht
  have hz := ht.size ho
  generalize isz [n1] own = sz at *
  generalize im [n1] own = I at *
  have HG := hide hg
  have HS := hide hs
  have HB := hide hB
  have HB1 : Hid (Below w.heap.size w w1) := HbA.out.trans (hb1.mono HbA.out.size)
  generalize isb [n1] own = SB at *
  clear hg hs hB hb1 hc ho ht h0 HBd HE hib
  go_wp2_with fail
  refine (New_any w1).mono ?_
  rintro r w2 ⟨rfl, hb2⟩
  obtain ⟨C, hC⟩ : ∃ C, C = tab ent := ⟨_, rfl⟩
  rw [← hC]
  have HCt := hide hC
  have HB2 := hide hb2
  clear hC hb2
  go_wp2_with (refine wpList_store_table rfl _ _ rfl ent C HCt.out rfl rfl _ (by simp) ?_; intro w3 ht3 hT3 hlt3 hb3)
  have b13 : Below w1.heap.size w1 w3 := HB2.out.trans (hb3.mono HB2.out.size)
  have b03 : Below w.heap.size w w3 := HB1.out.trans (b13.mono HB1.out.size)
  have HTk := hide (sTake_any w2.heap.size sz sz ent (some ⟨ib, 0, none⟩) I w3 small_ent hT3 hlt3 (HW.out.below b03 HW.out.pos) (HB.out.below b13) (by omega))
  have HB03 := hide b03
  clear ht3 hT3 hb3 b13 b03 HCt HB2
  refine HTk.out.mono ?_
  rintro r w4 ⟨⟨_, rfl⟩ | ⟨hng, _⟩, hb4⟩
  · rw [HS.out]
    have HB04 : Hid (Below w.heap.size w w4) := HB03.out.trans (hb4.mono HB03.out.size)
    clear hb4 HTk HG HS HB
    unfold sbv
    rw [i1, i2, i3, i4]
    clear i1 i2 i3 i4
    go_wp2
    go_ret
    exact ⟨rfl, HB04.out.alloc HB04.out.size _⟩
  · exact absurd HG.out hng
end Go.Proofs.YtchcejjoncihkaaGreatDoor

/- Layer 14: few: at most 40 nodes, each of them cut. (As layer 7's, with other bounds.) -/
namespace Go.Proofs.YtchcejjoncihkaaGreatDoor
set_option linter.unusedVariables false
open Go.RowKit Go.Maps
open Nam Tre

namespace Tre
/-- A node that is cut. -/
def cut (n : Nod) : Nod := { n with names := n.names.take 18, data := n.data.take 1500, xs := n.xs.take 10 }
end Tre
def cutv (v : Nv) : Nv := { v with nn := min v.nn 18, dn := min v.dn 1500, xn := min v.xn 10 }
theorem rep_cut {w : World} {v : Nv} {n : Nod} (h : Rep w v n) : Rep w (cutv v) (Tre.cut n) where
  names := by
    have := h.names.take (min v.nn 18) (by omega)
    have e : n.names.take (min v.nn 18) = n.names.take 18 := by rw [← h.names.1, Nat.min_comm, ← List.take_take, List.take_length]
    rw [e] at this; exact this
  nc := by have := h.nc; show min v.nn 18 ≤ v.nc; omega
  ncm := h.ncm
  nnil := h.nnil
  ino := h.ino
  in64 := h.in64
  kind := h.kind
  mode := h.mode
  uid := h.uid
  gid := h.gid
  data := by
    have := h.data.take (min v.dn 1500) (by omega)
    have e : n.data.take (min v.dn 1500) = n.data.take 1500 := by rw [← h.data.1, Nat.min_comm, ← List.take_take, List.take_length]
    rw [e] at this; exact this
  dc := by have := h.dc; show min v.dn 1500 ≤ v.dc; omega
  dcm := h.dcm
  dnil := h.dnil
  tg := h.tg
  tgm := h.tgm
  xs := by
    have := h.xs.take (min v.xn 10) (by omega)
    have e : n.xs.take (min v.xn 10) = n.xs.take 10 := by rw [← h.xs.1, Nat.min_comm, ← List.take_take, List.take_length]
    rw [e] at this; exact this
  xc := by have := h.xc; show min v.xn 10 ≤ v.xc; omega
  xcm := h.xcm
  xnil := h.xnil
  op := h.op
/-- What few leaves of a row. -/
def fewL (L : List (Nv × Nod)) : List (Nv × Nod) := (L.take 40).map (fun p => (cutv p.1, Tre.cut p.2))
theorem fewL_length (L : List (Nv × Nod)) : (fewL L).length = min 40 L.length := by simp [fewL]
theorem fewL_rep {w : World} {L : List (Nv × Nod)} (h : ∀ p ∈ L, Rep w p.1 p.2) : ∀ p ∈ fewL L, Rep w p.1 p.2 := by
  intro p hp
  simp only [fewL, List.mem_map] at hp
  obtain ⟨q, hq, rfl⟩ := hp
  exact rep_cut (h q (List.mem_of_mem_take hq))
theorem fewL_take (L : List (Nv × Nod)) (i : Nat) (h : i < L.length) (h2 : i < 40) : ((fewL L).take (i + 1)).map (·.1) = ((fewL L).take i).map (·.1) ++ [cutv (gl L i).1] := by
  rw [List.take_succ_eq_append_getElem (by rw [fewL_length]; omega), List.map_append, gl_lt L i h]
  simp [fewL]
set_option maxRecDepth 100000 in
set_option maxHeartbeats 4000000 in
theorem few_any (a : Option Addr) (n c : Nat) (L : List (Nv × Nod)) (w : World) (hl : Ns w a n L) (hc : n ≤ c) (hcm : c ≤ 9223372036854775807) :
    Calls Tryz.prog 9 #[.slice a n c] w fun e w' => ∃ ao k c', e = .returned (.slice ao k c') ∧ k ≤ 40 ∧ w'.ownsRow w.heap.size 37 10 (.slice ao k c') k (nvs ((fewL L).map (·.1))) ∧ Ns w' ao k (fewL L) ∧ Below w.heap.size w w' := by
  have HL := hide hl
  have HLN := hide hl.1
  clear hl
  go_enter Tryz.func9, Tryz.ntmps9
  go_wp2
  go_loopw [3, 4, 5] (fun r3 r _ wr => ∃ (i : Nat) (ao : Option Addr) (c' : Nat), r3 = .slice ao i c' ∧ r = .int .i64 i ∧ i ≤ n ∧ i ≤ 40 ∧ w.heap.size < wr.heap.size ∧ wr.ownsRow w.heap.size 37 10 (.slice ao i c') i (nvs (((fewL L).take i).map (·.1))) ∧ Below w.heap.size w wr) (fun _ r _ _ => n - (intOf r).toNat)
  case atStart => exact ⟨0, _, _, rfl, rfl, Nat.zero_le _, by omega, by simp, emptyN (Nat.le_refl _), (Below.refl _ _).alloc (Nat.le_refl _) _⟩
  case round =>
    obtain ⟨i, ao, c', rfl, rfl, hi0, hi60, hsz, hown, hbel⟩ := hrel
    have HB := hide hbel
    have HO := hide hown
    by_cases hi : i < n
    · have hd : decide ((i : Int) < n) = true := by simpa using hi
      by_cases h60 : i < 40
      · have hd2 : decide ((i : Int) < 40) = true := by simp; omega
        obtain ⟨ba, oa, rfl, hba, hca⟩ := (HL.out.below hbel).at (by omega)
        obtain ⟨c0, c1, c2, c3, c4, c5, c6, c7, c8, c9⟩ := hca i hi
        have hr := HL.out.rep i hi
        have HT := hide (fewL_take L i (by rw [HLN.out]; exact hi) h60)
        have x1 := hr.nc
        have x2 := hr.ncm
        have x3 := hr.dc
        have x4 := hr.dcm
        have x5 := hr.xc
        have x6 := hr.xcm
        generalize (gl L i).1 = v at *
        obtain ⟨V, hV⟩ : ∃ V, V = ((fewL L).take i).map (·.1) := ⟨_, rfl⟩
        rw [← hV] at hown HT
        have HO2 := hide hown
        clear hca hr hown hbel HO hV
        by_cases h1 : 18 < v.nn
        all_goals by_cases h2 : 1500 < v.dn
        all_goals by_cases h3 : 10 < v.xn
        · have HCV : Hid (cutv v = ⟨v.na, 18, v.nc, v.ino, v.kind, v.mode, v.uid, v.gid, v.da, 1500, v.dc, v.tg, v.xa, 10, v.xc, v.op⟩) := by show _ = _; simp only [cutv]; congr 1 <;> omega
          have g1 : (18 : Int) < v.nn := by omega
          have g2 : (1500 : Int) < v.dn := by omega
          have g3 : (10 : Int) < v.xn := by omega
          rw [HCV.out] at HT
          go_wp2_with (at_builtin; refine wpList_append_nod _ rfl _ _ rfl w.heap.size _ _ _ V rfl ((HO2.out.alloc _).alloc _) _ _ _ _ rfl (sh_one' (v := ⟨v.na, 18, v.nc, v.ino, v.kind, v.mode, v.uid, v.gid, v.da, 1500, v.dc, v.tg, v.xa, 10, v.xc, v.op⟩) (by simp)) (fun h => by cases h) (by omega) (by simp; omega) ?_)
          intro ao2 k2 w2 hown2 hg2
          rw [← HT.out] at hown2
          have e2 := hide (((HB.out.alloc (by omega) _).alloc (by simp; omega) _).grown hg2 (by simp; omega) (fun k e => (HO2.out.lt k e).1))
          have s2 := hg2.size
          simp only [World.size_alloc] at s2
          have HO3 := hide hown2
          clear hown2 hg2 HCV HT
          go_wp2
          exact ⟨⟨i + 1, ao2, k2, rfl, by go_num, by omega, by omega, by omega, HO3.out, e2.out⟩, by simp [intOf]; omega⟩
        · have HCV : Hid (cutv v = ⟨v.na, 18, v.nc, v.ino, v.kind, v.mode, v.uid, v.gid, v.da, 1500, v.dc, v.tg, v.xa, v.xn, v.xc, v.op⟩) := by show _ = _; simp only [cutv]; congr 1 <;> omega
          have g1 : (18 : Int) < v.nn := by omega
          have g2 : (1500 : Int) < v.dn := by omega
          have g3 : ¬ (10 : Int) < v.xn := by omega
          rw [HCV.out] at HT
          go_wp2_with (at_builtin; refine wpList_append_nod _ rfl _ _ rfl w.heap.size _ _ _ V rfl ((HO2.out.alloc _).alloc _) _ _ _ _ rfl (sh_one' (v := ⟨v.na, 18, v.nc, v.ino, v.kind, v.mode, v.uid, v.gid, v.da, 1500, v.dc, v.tg, v.xa, v.xn, v.xc, v.op⟩) (by simp)) (fun h => by cases h) (by omega) (by simp; omega) ?_)
          intro ao2 k2 w2 hown2 hg2
          rw [← HT.out] at hown2
          have e2 := hide (((HB.out.alloc (by omega) _).alloc (by simp; omega) _).grown hg2 (by simp; omega) (fun k e => (HO2.out.lt k e).1))
          have s2 := hg2.size
          simp only [World.size_alloc] at s2
          have HO3 := hide hown2
          clear hown2 hg2 HCV HT
          go_wp2
          exact ⟨⟨i + 1, ao2, k2, rfl, by go_num, by omega, by omega, by omega, HO3.out, e2.out⟩, by simp [intOf]; omega⟩
        · have HCV : Hid (cutv v = ⟨v.na, 18, v.nc, v.ino, v.kind, v.mode, v.uid, v.gid, v.da, v.dn, v.dc, v.tg, v.xa, 10, v.xc, v.op⟩) := by show _ = _; simp only [cutv]; congr 1 <;> omega
          have g1 : (18 : Int) < v.nn := by omega
          have g2 : ¬ (1500 : Int) < v.dn := by omega
          have g3 : (10 : Int) < v.xn := by omega
          rw [HCV.out] at HT
          go_wp2_with (at_builtin; refine wpList_append_nod _ rfl _ _ rfl w.heap.size _ _ _ V rfl ((HO2.out.alloc _).alloc _) _ _ _ _ rfl (sh_one' (v := ⟨v.na, 18, v.nc, v.ino, v.kind, v.mode, v.uid, v.gid, v.da, v.dn, v.dc, v.tg, v.xa, 10, v.xc, v.op⟩) (by simp)) (fun h => by cases h) (by omega) (by simp; omega) ?_)
          intro ao2 k2 w2 hown2 hg2
          rw [← HT.out] at hown2
          have e2 := hide (((HB.out.alloc (by omega) _).alloc (by simp; omega) _).grown hg2 (by simp; omega) (fun k e => (HO2.out.lt k e).1))
          have s2 := hg2.size
          simp only [World.size_alloc] at s2
          have HO3 := hide hown2
          clear hown2 hg2 HCV HT
          go_wp2
          exact ⟨⟨i + 1, ao2, k2, rfl, by go_num, by omega, by omega, by omega, HO3.out, e2.out⟩, by simp [intOf]; omega⟩
        · have HCV : Hid (cutv v = ⟨v.na, 18, v.nc, v.ino, v.kind, v.mode, v.uid, v.gid, v.da, v.dn, v.dc, v.tg, v.xa, v.xn, v.xc, v.op⟩) := by show _ = _; simp only [cutv]; congr 1 <;> omega
          have g1 : (18 : Int) < v.nn := by omega
          have g2 : ¬ (1500 : Int) < v.dn := by omega
          have g3 : ¬ (10 : Int) < v.xn := by omega
          rw [HCV.out] at HT
          go_wp2_with (at_builtin; refine wpList_append_nod _ rfl _ _ rfl w.heap.size _ _ _ V rfl ((HO2.out.alloc _).alloc _) _ _ _ _ rfl (sh_one' (v := ⟨v.na, 18, v.nc, v.ino, v.kind, v.mode, v.uid, v.gid, v.da, v.dn, v.dc, v.tg, v.xa, v.xn, v.xc, v.op⟩) (by simp)) (fun h => by cases h) (by omega) (by simp; omega) ?_)
          intro ao2 k2 w2 hown2 hg2
          rw [← HT.out] at hown2
          have e2 := hide (((HB.out.alloc (by omega) _).alloc (by simp; omega) _).grown hg2 (by simp; omega) (fun k e => (HO2.out.lt k e).1))
          have s2 := hg2.size
          simp only [World.size_alloc] at s2
          have HO3 := hide hown2
          clear hown2 hg2 HCV HT
          go_wp2
          exact ⟨⟨i + 1, ao2, k2, rfl, by go_num, by omega, by omega, by omega, HO3.out, e2.out⟩, by simp [intOf]; omega⟩
        · have HCV : Hid (cutv v = ⟨v.na, v.nn, v.nc, v.ino, v.kind, v.mode, v.uid, v.gid, v.da, 1500, v.dc, v.tg, v.xa, 10, v.xc, v.op⟩) := by show _ = _; simp only [cutv]; congr 1 <;> omega
          have g1 : ¬ (18 : Int) < v.nn := by omega
          have g2 : (1500 : Int) < v.dn := by omega
          have g3 : (10 : Int) < v.xn := by omega
          rw [HCV.out] at HT
          go_wp2_with (at_builtin; refine wpList_append_nod _ rfl _ _ rfl w.heap.size _ _ _ V rfl ((HO2.out.alloc _).alloc _) _ _ _ _ rfl (sh_one' (v := ⟨v.na, v.nn, v.nc, v.ino, v.kind, v.mode, v.uid, v.gid, v.da, 1500, v.dc, v.tg, v.xa, 10, v.xc, v.op⟩) (by simp)) (fun h => by cases h) (by omega) (by simp; omega) ?_)
          intro ao2 k2 w2 hown2 hg2
          rw [← HT.out] at hown2
          have e2 := hide (((HB.out.alloc (by omega) _).alloc (by simp; omega) _).grown hg2 (by simp; omega) (fun k e => (HO2.out.lt k e).1))
          have s2 := hg2.size
          simp only [World.size_alloc] at s2
          have HO3 := hide hown2
          clear hown2 hg2 HCV HT
          go_wp2
          exact ⟨⟨i + 1, ao2, k2, rfl, by go_num, by omega, by omega, by omega, HO3.out, e2.out⟩, by simp [intOf]; omega⟩
        · have HCV : Hid (cutv v = ⟨v.na, v.nn, v.nc, v.ino, v.kind, v.mode, v.uid, v.gid, v.da, 1500, v.dc, v.tg, v.xa, v.xn, v.xc, v.op⟩) := by show _ = _; simp only [cutv]; congr 1 <;> omega
          have g1 : ¬ (18 : Int) < v.nn := by omega
          have g2 : (1500 : Int) < v.dn := by omega
          have g3 : ¬ (10 : Int) < v.xn := by omega
          rw [HCV.out] at HT
          go_wp2_with (at_builtin; refine wpList_append_nod _ rfl _ _ rfl w.heap.size _ _ _ V rfl ((HO2.out.alloc _).alloc _) _ _ _ _ rfl (sh_one' (v := ⟨v.na, v.nn, v.nc, v.ino, v.kind, v.mode, v.uid, v.gid, v.da, 1500, v.dc, v.tg, v.xa, v.xn, v.xc, v.op⟩) (by simp)) (fun h => by cases h) (by omega) (by simp; omega) ?_)
          intro ao2 k2 w2 hown2 hg2
          rw [← HT.out] at hown2
          have e2 := hide (((HB.out.alloc (by omega) _).alloc (by simp; omega) _).grown hg2 (by simp; omega) (fun k e => (HO2.out.lt k e).1))
          have s2 := hg2.size
          simp only [World.size_alloc] at s2
          have HO3 := hide hown2
          clear hown2 hg2 HCV HT
          go_wp2
          exact ⟨⟨i + 1, ao2, k2, rfl, by go_num, by omega, by omega, by omega, HO3.out, e2.out⟩, by simp [intOf]; omega⟩
        · have HCV : Hid (cutv v = ⟨v.na, v.nn, v.nc, v.ino, v.kind, v.mode, v.uid, v.gid, v.da, v.dn, v.dc, v.tg, v.xa, 10, v.xc, v.op⟩) := by show _ = _; simp only [cutv]; congr 1 <;> omega
          have g1 : ¬ (18 : Int) < v.nn := by omega
          have g2 : ¬ (1500 : Int) < v.dn := by omega
          have g3 : (10 : Int) < v.xn := by omega
          rw [HCV.out] at HT
          go_wp2_with (at_builtin; refine wpList_append_nod _ rfl _ _ rfl w.heap.size _ _ _ V rfl ((HO2.out.alloc _).alloc _) _ _ _ _ rfl (sh_one' (v := ⟨v.na, v.nn, v.nc, v.ino, v.kind, v.mode, v.uid, v.gid, v.da, v.dn, v.dc, v.tg, v.xa, 10, v.xc, v.op⟩) (by simp)) (fun h => by cases h) (by omega) (by simp; omega) ?_)
          intro ao2 k2 w2 hown2 hg2
          rw [← HT.out] at hown2
          have e2 := hide (((HB.out.alloc (by omega) _).alloc (by simp; omega) _).grown hg2 (by simp; omega) (fun k e => (HO2.out.lt k e).1))
          have s2 := hg2.size
          simp only [World.size_alloc] at s2
          have HO3 := hide hown2
          clear hown2 hg2 HCV HT
          go_wp2
          exact ⟨⟨i + 1, ao2, k2, rfl, by go_num, by omega, by omega, by omega, HO3.out, e2.out⟩, by simp [intOf]; omega⟩
        · have HCV : Hid (cutv v = ⟨v.na, v.nn, v.nc, v.ino, v.kind, v.mode, v.uid, v.gid, v.da, v.dn, v.dc, v.tg, v.xa, v.xn, v.xc, v.op⟩) := by show _ = _; simp only [cutv]; congr 1 <;> omega
          have g1 : ¬ (18 : Int) < v.nn := by omega
          have g2 : ¬ (1500 : Int) < v.dn := by omega
          have g3 : ¬ (10 : Int) < v.xn := by omega
          rw [HCV.out] at HT
          go_wp2_with (at_builtin; refine wpList_append_nod _ rfl _ _ rfl w.heap.size _ _ _ V rfl ((HO2.out.alloc _).alloc _) _ _ _ _ rfl (sh_one' (v := ⟨v.na, v.nn, v.nc, v.ino, v.kind, v.mode, v.uid, v.gid, v.da, v.dn, v.dc, v.tg, v.xa, v.xn, v.xc, v.op⟩) (by simp)) (fun h => by cases h) (by omega) (by simp; omega) ?_)
          intro ao2 k2 w2 hown2 hg2
          rw [← HT.out] at hown2
          have e2 := hide (((HB.out.alloc (by omega) _).alloc (by simp; omega) _).grown hg2 (by simp; omega) (fun k e => (HO2.out.lt k e).1))
          have s2 := hg2.size
          simp only [World.size_alloc] at s2
          have HO3 := hide hown2
          clear hown2 hg2 HCV HT
          go_wp2
          exact ⟨⟨i + 1, ao2, k2, rfl, by go_num, by omega, by omega, by omega, HO3.out, e2.out⟩, by simp [intOf]; omega⟩
      · have hd2 : decide ((i : Int) < 40) = false := by simp; omega
        have HF : Hid (i = 40) := by show _ = _; omega
        have HN : Hid (wr.ownsRow w.heap.size 37 10 (.slice ao i c') i (nvs ((fewL L).map (·.1))) ∧ Ns wr ao i (fewL L)) := by
          have e : (fewL L).take i = fewL L := List.take_of_length_le (by rw [fewL_length]; omega)
          rw [e] at hown
          exact ⟨hown, (sh_of_owns hown).ns (fewL_rep (HL.out.below hbel).2.1)⟩
        clear hown hbel HO
        go_wp2
        go_ret
        exact ⟨ao, i, c', rfl, by omega, HN.out.1, HN.out.2, HB.out⟩
    · have hd : decide ((i : Int) < n) = false := by simpa using hi
      have HN : Hid (wr.ownsRow w.heap.size 37 10 (.slice ao i c') i (nvs ((fewL L).map (·.1))) ∧ Ns wr ao i (fewL L)) := by
        have e : (fewL L).take i = fewL L := List.take_of_length_le (by rw [fewL_length, HLN.out]; omega)
        rw [e] at hown
        exact ⟨hown, (sh_of_owns hown).ns (fewL_rep (HL.out.below hbel).2.1)⟩
      clear hown hbel HO
      go_wp2
      go_ret
      exact ⟨ao, i, c', rfl, by omega, HN.out.1, HN.out.2, HB.out⟩
end Go.Proofs.YtchcejjoncihkaaGreatDoor

/- Layer 7: nodes that are appended to rows, in regions that draw; parts of rows. -/
namespace Go.Proofs.YtchcejjoncihkaaGreatDoor
set_option linter.unusedVariables false
open Go.RowKit Go.Maps
open Nam Tre

theorem owns_low {w : World} {B B' e size n : Nat} {v : Value} {xs : List Value} (h : w.ownsRow B e size v n xs) (hb : B' ≤ B) : w.ownsRow B' e size v n xs := by
  refine ⟨h.1, ?_⟩
  rcases h.2 with h0 | ⟨g, cap, cur, h1, h2, h3⟩
  · exact .inl h0
  · exact .inr ⟨g, cap, cur, h1, Nat.le_trans hb h2, h3⟩
/-- 'append' of nodes, as it runs. -/
theorem run_append_nod (w : World) (ty : TypeId) (base : Nat) (vo : Option Addr) (n vc : Nat) (V : List Nv) (hown : w.ownsRow base 37 10 (.slice vo n vc) n (nvs V))
    (ao : Option Addr) (m c : Nat) (U : List Nv) (hb : Sh w ao m U) (hnil : ao = none → c = 0) (hbd : n + m ≤ 1000000) (hbase : base ≤ w.heap.size) :
    ∃ ao' c' w', (Builtin.append_ #[22, 22] ty #[.slice vo n vc, .slice ao m c]).run Tryz.prog w = .ok (.slice ao' (n + m) c') w' ∧ w'.ownsRow base 37 10 (.slice ao' (n + m) c') (n + m) (nvs (V ++ U)) ∧ w.grownBy w' (Value.slice vo n vc).ownBlock := by
  obtain ⟨i0, hi, hz0, hz1, hz2⟩ := info_parts infoNode
  obtain ⟨hz, h0⟩ := hb
  cases ao with
  | none =>
    obtain rfl : c = 0 := hnil rfl
    obtain rfl : m = 0 := by
      rcases h0 with h0 | ⟨b, off, h1, _⟩
      · exact h0
      · simp at h1
    obtain rfl : U = [] := List.eq_nil_of_length_eq_zero hz
    refine ⟨vo, vc, w, ?_, by simpa using hown, World.grownBy.refl _ _⟩
    exact run_append_owned_none (P := Tryz.prog) w base 22 ty 37 i0 10 Tryz.underlying22 hi _ n (nvs V) hown
  | some ad =>
    obtain ⟨v', w', hr, ho, hg, _⟩ := run_append_own (P := Tryz.prog) w base 22 ty 37 i0 (.agg (Nv.cells nv0)) 10 136 Tryz.underlying22 hi hz0 hz1 hz2 rfl (by decide) (.slice vo n vc) n (nvs V) hown ad m c (nvs U) (by rw [nvs_length]; omega) (by
      rcases h0 with h0 | ⟨b, off, h1, _, hseg⟩
      · have : U = [] := List.eq_nil_of_length_eq_zero (by omega)
        subst this
        intro j u hu; simp [nvs] at hu
      · obtain rfl := Option.some.inj h1
        intro j u hu
        have hj : j < (nvs U).length := (List.getElem?_eq_some_iff.1 hu).1
        rw [nvs_length, hz] at hj
        have e : j = j / 10 * 10 + j % 10 := by omega
        have hq : j / 10 < m := by omega
        have hr : j % 10 < 10 := by omega
        rw [e, nvs_get U _ _ (by omega) hr] at hu
        rw [Addr.add_lit]
        have := (hseg (j / 10) hq).cell (j % 10) hr
        rw [gv_lt U _ (by omega)] at this
        rw [show off + j = off + j / 10 * 10 + j % 10 by omega, this]
        exact hu) (nvs_one _) (by unfold maxLen; omega) (by omega) hbase
    obtain ⟨ao', c', rfl⟩ := owns_shape ho
    exact ⟨ao', c', w', hr, by rw [nvs_append]; exact ho, hg⟩
theorem step_append_nod (w : World) {ops : Array Oper} {o : Oper} {a : Act} {K : Act → World → Prop} {Q : Exit → Act → World → Prop} {E : Prop} (hgd : o.guard = none) (s x : Operand)
    (ho : o.op = .call { callee := .builtin .append, args := #[s, x], argTypes := #[22, 22] })
    (W : World) (hW : Below W.heap.size W w) (vo : Option Addr) (n vc : Nat) (V : List Nv) (hs : a.eval s = .slice vo n vc) (hown : w.ownsRow W.heap.size 37 10 (.slice vo n vc) n (nvs V))
    (ao : Option Addr) (m c : Nat) (U : List Nv) (hx : a.eval x = .slice ao m c) (hb : Sh w ao m U) (hnil : ao = none → c = 0) (k : Nat) (hk : n + m = k) (T : List Nv) (hT : V ++ U = T) (hbd : k ≤ 1000000)
    (h : ∀ ao' c' w', w'.ownsRow W.heap.size 37 10 (.slice ao' k c') k (nvs T) → w.grownBy w' (Value.slice vo n vc).ownBlock → Below W.heap.size W w' → K (a.put o.dst (.slice ao' k c')) w') :
    if Region.wanted o (yielded ops a.tmps) = true then Oper.wp Tryz.prog o a w K Q else E := by
  subst hk hT
  obtain ⟨ao', c', w', hr, h1, h2⟩ := run_append_nod w o.type W.heap.size vo n vc V hown ao m c U hb hnil hbd hW.size
  exact step_append_run hgd s x _ ho _ _ _ hs hx hr (h ao' c' w' h1 h2 (hW.grown h2 hW.size (fun k e => (hown.lt k e).1)))
theorem up_drewN {W w : World} (h : Below W.heap.size W w) (k : Nat) : Below W.heap.size W (w.drewN k) := h.trans ((drewN_below (B := w.heap.size) w k).mono h.size)
theorem up_drew {W w : World} (h : Below W.heap.size W w) : Below W.heap.size W w.drew := up_drewN h 1
theorem up_alloc {W w : World} (h : Below W.heap.size W w) (o : Obj) : Below W.heap.size W (w.alloc o) := h.alloc h.size o
theorem emptyN' {w : World} {B p : Nat} (hB : B ≤ w.heap.size) (hp : p = w.heap.size) : (w.alloc (.cells #[] 37)).ownsRow B 37 10 (.slice (some ⟨p, 0, none⟩) 0 0) 0 (nvs []) := by subst hp; exact emptyN hB
theorem Sh.take {w : World} {ao : Option Addr} {n : Nat} {V : List Nv} (h : Sh w ao n V) (k : Nat) (hk : k ≤ n) : Sh w ao k (V.take k) := by
  refine ⟨by rw [List.length_take, h.1]; omega, ?_⟩
  rcases h.2 with h0 | ⟨b, off, h1, h2, h3⟩
  · exact .inl (by omega)
  · refine .inr ⟨b, off, h1, h2, fun i hi => ?_⟩
    have := h3 i (by omega)
    rw [gv_lt _ _ (by rw [h.1]; omega)] at this
    rw [gv_lt _ _ (by rw [List.length_take, h.1]; omega), List.getElem_take]
    exact this
theorem Sh.drop {w : World} {b off n : Nat} {V : List Nv} (h : Sh w (some ⟨b, off, none⟩) n V) (k : Nat) (hk : k ≤ n) : Sh w (some ⟨b, off + k * 10, none⟩) (n - k) (V.drop k) := by
  refine ⟨by rw [List.length_drop, h.1], ?_⟩
  rcases h.2 with h0 | ⟨b', off', h1, h2, h3⟩
  · exact .inl (by omega)
  · obtain ⟨rfl, rfl⟩ : b = b' ∧ off = off' := by simpa using h1
    refine .inr ⟨b, off + k * 10, rfl, h2, fun i hi => ?_⟩
    have := h3 (k + i) (by omega)
    rw [gv_lt _ _ (by rw [h.1]; omega)] at this
    rw [gv_lt _ _ (by rw [List.length_drop, h.1]; omega), List.getElem_drop, show off + k * 10 + i * 10 = off + (k + i) * 10 by omega]
    exact this
end Go.Proofs.YtchcejjoncihkaaGreatDoor

/- Layer 7: nodes that came in, opened: one, and a slice of them. -/
namespace Go.Proofs.YtchcejjoncihkaaGreatDoor
set_option linter.unusedVariables false
set_option maxRecDepth 100000
open Go.RowKit Go.Maps Go.ChangeShapes Go.WideShapes Go.ChangeAt
open Nam Tre
open Lz (g)

section
variable {H : Type} {enc : TypeId × Value → H} {W : World} {fuel : Nat} {cs : List Value} {y : DataW H × List MemPlace}
theorem names_trod (hf : DataW.trod enc Tryz.prog W 0 (fun _ => true) true fuel 32 cs = some y) : ∃ a len cap l, cs = [.slice a len cap] ∧ Rs W a len l ∧ len ≤ cap ∧ cap ≤ 9223372036854775807 ∧ (a = none → cap = 0) := by
  rcases Deep.open_strs Tryz.underlying32 Tryz.underlying9 (by kernel_rfl) hf with ⟨hcs, _⟩ | ⟨x, l, c, m, Sx, hcs, _, hl, hm, hmm, _, hr⟩
  · exact ⟨none, 0, 0, [], hcs, Rs.nil _ _, by omega, by omega, fun _ => rfl⟩
  · simp only [if_true] at hmm
    subst hmm
    refine ⟨_, _, _, (List.range l).map Sx, hcs, ⟨by simp, ?_⟩, hl, by unfold maxLen at hm; omega, fun h => by cases h⟩
    by_cases e : l = 0
    · exact .inl e
    · obtain ⟨b, off, spot⟩ := x
      have hc0 := (hr 0 (by omega)).1
      have hspot : spot = none := by simpa [Addr.add] using World.cell?_spot hc0
      subst hspot
      have hlt : b < W.heap.size := by
        have := World.block_lt_of_cell? W _ hc0
        simpa [Addr.add] using this
      refine .inr ⟨b, off, rfl, hlt, fun i hi => ?_⟩
      simp at hi
      rw [gs_lt _ _ (by simpa using hi)]
      have := (hr i (by omega)).1
      rw [Addr.add_lit] at this
      simpa using this
theorem bytes_trod (hf : DataW.trod enc Tryz.prog W 0 (fun _ => true) true fuel 25 cs = some y) : ∃ a len cap l, cs = [.slice a len cap] ∧ Bs W a len l ∧ len ≤ cap ∧ cap ≤ 9223372036854775807 ∧ (a = none → cap = 0) := by
  rcases open_ints Tryz.underlying25 Tryz.underlying5 (by kernel_rfl) hf with ⟨hcs, _⟩ | ⟨x, l, c, zs, hcs, _, hl, hm, hz, _, hcell, hwz⟩
  · exact ⟨none, 0, 0, [], hcs, ⟨rfl, fun i => by simp [g], .inl rfl⟩, by omega, by omega, fun _ => rfl⟩
  · have hz' : zs.length = c := by simpa using hz
    have hrow : RowB W (some x) l c zs := .inr ⟨x, rfl, hl, hm, hz', hcell, hwz⟩
    obtain ⟨h1, h2, h3, _, h5⟩ := hrow.bs l (Nat.le_refl _)
    exact ⟨_, _, _, _, hcs, h1, h2, h3, h5⟩
theorem xat_trod (hf : DataW.trod enc Tryz.prog W 0 (fun _ => true) true fuel 144 cs = some y) : ∃ s va vn vc z, cs = [.string s, .slice va vn vc] ∧ Bs W va vn z ∧ vn ≤ vc ∧ vc ≤ 9223372036854775807 ∧ (va = none → vc = 0) ∧ s.size ≤ 9223372036854775807 := by
  have c9 : Tryz.prog.cellsOf 9 = 1 := by kernel_rfl
  have c39 : Tryz.prog.cellsOf 25 = 1 := by kernel_rfl
  have ce : Tryz.prog.cellsOf 144 = 2 := by kernel_rfl
  obtain ⟨xs, k, hk, hxy, hlen, hxl, hfld⟩ := DataW.trod_struct Tryz.underlying144 hf
  rw [ce] at hlen
  match xs, hxl, cs, hlen with
  | [y0, y1], _, [v0, v1], _ =>
    have g0 := hfld 0 _ rfl
    have g1 := hfld 1 _ rfl
    simp [c9, c39] at g0 g1
    obtain ⟨s, q0, _, w0⟩ := DataW.trod_string Tryz.underlying9 g0
    obtain ⟨a, len, cap, l, q1, h1, h2, h3, h4⟩ := bytes_trod g1
    simp at q0 q1
    subst q0 q1
    exact ⟨s, a, len, cap, l, rfl, h1, h2, h3, h4, by unfold maxLen at w0; omega⟩
theorem xs_trod (hf : DataW.trod enc Tryz.prog W 0 (fun _ => true) true fuel 35 cs = some y) : ∃ a len cap l, cs = [.slice a len cap] ∧ XsR W a len l ∧ len ≤ cap ∧ cap ≤ 9223372036854775807 ∧ (a = none → cap = 0) := by
  rcases Deep.open_slice Tryz.underlying35 hf with ⟨hcs, _⟩ | ⟨x, len, cap, m, n, D, Pl, hcs, _, hl, hm, hmm, _, hx⟩
  · exact ⟨none, 0, 0, [], hcs, XsR.nil _ _, by omega, by omega, fun _ => rfl⟩
  · have ce : Tryz.prog.cellsOf 144 = 2 := by kernel_rfl
    have hlm : len ≤ m := by rw [hmm]; simp; exact hl
    have each : ∀ i, i < len → ∃ o : ByteArray × List Int, W.cell? (x.add (i * 2)) = some (.string o.1) ∧ ∃ va vn vc, W.cell? (x.add (i * 2 + 1)) = some (.slice va vn vc) ∧ Bs W va vn o.2 ∧ vn ≤ vc ∧ vc ≤ 9223372036854775807 ∧ (va = none → vc = 0) ∧ o.1.size ≤ 9223372036854775807 := by
      intro i hi
      obtain ⟨cs', h1, h2⟩ := hx i (by omega)
      rw [ce] at h1
      obtain ⟨_, hlen, hcell⟩ := World.cells?_some h1
      obtain ⟨s, va, vn, vc, z, rfl, r1, r2, r3, r4⟩ := xat_trod h2
      have e0 := hcell 0 (by omega)
      have e1 := hcell 1 (by omega)
      rw [Deep.add_add] at e0 e1
      exact ⟨(s, z), by simpa using e0, va, vn, vc, by simpa using e1, r1, r2, r3, r4⟩
    obtain ⟨O, hO⟩ : ∃ O : Nat → ByteArray × List Int, ∀ i, i < len → W.cell? (x.add (i * 2)) = some (.string (O i).1) ∧ ∃ va vn vc, W.cell? (x.add (i * 2 + 1)) = some (.slice va vn vc) ∧ Bs W va vn (O i).2 ∧ vn ≤ vc ∧ vc ≤ 9223372036854775807 ∧ (va = none → vc = 0) ∧ (O i).1.size ≤ 9223372036854775807 := by
      refine ⟨fun i => if h : i < len then (each i h).choose else (⟨#[]⟩, []), fun i hi => ?_⟩
      simp only [dif_pos hi]
      exact (each i hi).choose_spec
    refine ⟨_, len, cap, (List.range len).map O, hcs, ⟨by simp, ?_⟩, hl, by unfold maxLen at hm; omega, fun h => by cases h⟩
    by_cases e : len = 0
    · exact .inl e
    · obtain ⟨b, off, spot⟩ := x
      have h00 := (hO 0 (by omega)).1
      have hspot : spot = none := by simpa [Addr.add] using World.cell?_spot h00
      subst hspot
      have hlt : b < W.heap.size := by
        have := World.block_lt_of_cell? W _ h00
        simpa [Addr.add] using this
      refine .inr ⟨b, off, rfl, hlt, fun i hi => ?_⟩
      have := hO i hi
      simp only [Addr.add_lit, ← Nat.add_assoc] at this
      rw [gx_lt _ _ (by simpa using hi)]
      simp only [List.getElem_map, List.getElem_range]
      exact this
theorem attr_trod (hf : DataW.trod enc Tryz.prog W 0 (fun _ => true) true fuel 34 cs = some y) : ∃ a b c : Int, cs = [.int .i64 a, .int .i64 b, .int .i64 c] := by
  have c3 : Tryz.prog.cellsOf 3 = 1 := by kernel_rfl
  have ce : Tryz.prog.cellsOf 34 = 3 := by kernel_rfl
  obtain ⟨xs, k, hk, hxy, hlen, hxl, hfld⟩ := DataW.trod_struct Tryz.underlying34 hf
  rw [ce] at hlen
  match xs, hxl, cs, hlen with
  | [y0, y1, y2], _, [v0, v1, v2], _ =>
    have g0 := hfld 0 _ rfl
    have g1 := hfld 1 _ rfl
    have g2 := hfld 2 _ rfl
    simp [c3] at g0 g1 g2
    obtain ⟨n0, q0, _, w0⟩ := DataW.trod_int Tryz.underlying3 g0
    obtain ⟨n1, q1, _, w1⟩ := DataW.trod_int Tryz.underlying3 g1
    obtain ⟨n2, q2, _, w2⟩ := DataW.trod_int Tryz.underlying3 g2
    simp at q0 q1 q2
    subst q0 q1 q2
    exact ⟨n0, n1, n2, rfl⟩
theorem nod_trod (hf : DataW.trod enc Tryz.prog W 0 (fun _ => true) true fuel 37 cs = some y) : ∃ v n, cs = v.cells.toList ∧ Rep W v n := by
  have c3 : Tryz.prog.cellsOf 3 = 1 := by kernel_rfl
  have c4 : Tryz.prog.cellsOf 4 = 1 := by kernel_rfl
  have c9 : Tryz.prog.cellsOf 9 = 1 := by kernel_rfl
  have c31 : Tryz.prog.cellsOf 32 = 1 := by kernel_rfl
  have c38 : Tryz.prog.cellsOf 34 = 3 := by kernel_rfl
  have c39 : Tryz.prog.cellsOf 25 = 1 := by kernel_rfl
  have c40 : Tryz.prog.cellsOf 35 = 1 := by kernel_rfl
  have ce : Tryz.prog.cellsOf 37 = 10 := by kernel_rfl
  obtain ⟨xs, k, hk, hxy, hlen, hxl, hfld⟩ := DataW.trod_struct Tryz.underlying37 hf
  rw [ce] at hlen
  match xs, hxl, cs, hlen with
  | [y0, y1, y2, y3, y4, y5, y6, y7], _, [v0, v1, v2, v3, v4, v5, v6, v7, v8, v9], _ =>
    have g0 := hfld 0 _ rfl
    have g1 := hfld 1 _ rfl
    have g2 := hfld 2 _ rfl
    have g3 := hfld 3 _ rfl
    have g4 := hfld 4 _ rfl
    have g5 := hfld 5 _ rfl
    have g6 := hfld 6 _ rfl
    have g7 := hfld 7 _ rfl
    simp [c3, c4, c9, c31, c38, c39, c40] at g0 g1 g2 g3 g4 g5 g6 g7
    obtain ⟨na, nn, nc, nl, q0, r1, r2, r3, r4⟩ := names_trod g0
    obtain ⟨ino, q1, _, w1⟩ := DataW.trod_int Tryz.underlying3 g1
    obtain ⟨kind, q2, _, _⟩ := DataW.trod_int Tryz.underlying3 g2
    obtain ⟨a, b, c, q3⟩ := attr_trod g3
    obtain ⟨da, dn, dc, dl, q4, s1, s2, s3, s4⟩ := bytes_trod g4
    obtain ⟨t, q5, _, wt⟩ := DataW.trod_string Tryz.underlying9 g5
    obtain ⟨xa, xn, xc, xl, q6, t1, t2, t3, t4⟩ := xs_trod g6
    obtain ⟨o, q7, _⟩ := DataW.trod_bool Tryz.underlying4 g7
    simp at q0 q1 q2 q3 q4 q5 q6 q7
    obtain ⟨rfl, rfl, rfl⟩ := q3
    subst q0 q1 q2 q4 q5 q6 q7
    exact ⟨⟨na, nn, nc, ino, kind, _, _, _, da, dn, dc, t, xa, xn, xc, o⟩, ⟨nl, ino, kind, _, _, _, dl, t, xl, o⟩, rfl, ⟨r1, r2, r3, r4, rfl, w1, rfl, rfl, rfl, rfl, s1, s2, s3, s4, rfl, by unfold maxLen at wt; exact wt, t1, t2, t3, t4, rfl⟩⟩
end
/-- A slice of nodes that came in. -/
theorem open_nodes {H : Type} {enc : TypeId × Value → H} {W : World} {base : Nat} {v : Value} {d : DataW H} {p : List MemPlace} (hok : Value.okWide Tryz.prog W .any base 22 v)
    (h : DataW.Trod enc Tryz.prog W 0 (fun _ => true) true 22 v d p) : ∃ a len cap L, v = .slice a len cap ∧ Ns W a len L ∧ len ≤ cap ∧ cap ≤ 9223372036854775807 := by
  obtain ⟨a, len, cap, rfl⟩ := okWide_slice Tryz.underlying22 hok
  obtain ⟨fuel, hf⟩ := h
  rcases Deep.open_slice Tryz.underlying22 hf with ⟨hcs, _⟩ | ⟨x, l, c, m, n, D, Pl, hcs, _, hl, hm, hmm, _, hx⟩
  · simp [Value.cells] at hcs
    obtain ⟨rfl, rfl, rfl⟩ := hcs
    exact ⟨none, 0, 0, [], rfl, Ns.nil _ _, by omega, by omega⟩
  · simp [Value.cells] at hcs
    obtain ⟨rfl, rfl, rfl⟩ := hcs
    have ce : Tryz.prog.cellsOf 37 = 10 := by kernel_rfl
    have hlm : len ≤ m := by rw [hmm]; simp; exact hl
    have each : ∀ i, i < len → ∃ o : Nv × Nod, (∀ k, k < 10 → W.cell? (x.add (i * 10 + k)) = (o.1.cells.toList)[k]?) ∧ Rep W o.1 o.2 := by
      intro i hi
      obtain ⟨cs', h1, h2⟩ := hx i (by omega)
      rw [ce] at h1
      obtain ⟨_, hlen, hcell⟩ := World.cells?_some h1
      obtain ⟨u, nd, rfl, hr⟩ := nod_trod h2
      refine ⟨(u, nd), fun k hk => ?_, hr⟩
      have e0 := hcell k (by omega)
      rw [Deep.add_add] at e0
      exact e0
    obtain ⟨O, hO⟩ : ∃ O : Nat → Nv × Nod, ∀ i, i < len → (∀ k, k < 10 → W.cell? (x.add (i * 10 + k)) = ((O i).1.cells.toList)[k]?) ∧ Rep W (O i).1 (O i).2 := by
      refine ⟨fun i => if h : i < len then (each i h).choose else (nv0, nod0), fun i hi => ?_⟩
      simp only [dif_pos hi]
      exact (each i hi).choose_spec
    refine ⟨_, len, cap, (List.range len).map O, rfl, ⟨by simp, fun p hp => ?_, ?_⟩, hl, by unfold maxLen at hm; omega⟩
    · simp only [List.mem_map, List.mem_range] at hp
      obtain ⟨i, hi, rfl⟩ := hp
      exact (hO i hi).2
    · by_cases e : len = 0
      · exact .inl e
      · obtain ⟨b, off, spot⟩ := x
        have h00 := (hO 0 (by omega)).1 0 (by omega)
        have h01 : W.cell? ((⟨b, off, spot⟩ : Addr).add (0 * 10 + 0)) = some (.slice (O 0).1.na (O 0).1.nn (O 0).1.nc) := h00
        have hspot : spot = none := by simpa [Addr.add] using World.cell?_spot h01
        subst hspot
        have hlt : b < W.heap.size := by
          have := World.block_lt_of_cell? W _ h01
          simpa [Addr.add] using this
        refine .inr ⟨b, off, rfl, hlt, fun i hi => ?_⟩
        rw [gl_lt _ _ (by simpa using hi)]
        simp only [List.getElem_map, List.getElem_range]
        have hk := (hO i hi).1
        have key : ∀ k, k < 10 → W.cell? ⟨b, off + i * 10 + k, none⟩ = ((O i).1.cells.toList)[k]? := fun k hk' => by
          have := hk k hk'
          rw [Addr.add_lit, ← Nat.add_assoc] at this
          exact this
        exact ⟨key 0 (by omega), key 1 (by omega), key 2 (by omega), key 3 (by omega), key 4 (by omega), key 5 (by omega), key 6 (by omega), key 7 (by omega), key 8 (by omega), key 9 (by omega)⟩
end Go.Proofs.YtchcejjoncihkaaGreatDoor

/- Layer 7: what TreeOrder wants: ints that came in, Inos changed by XOR. -/
namespace Go.Proofs.YtchcejjoncihkaaGreatDoor
set_option linter.unusedVariables false
set_option maxRecDepth 100000
open Go.RowKit Go.Maps Go.ChangeShapes Go.WideShapes Go.ChangeAt
open Nam Tre

/-- Two numbers' XOR. -/
def xo (a x : Int) : Int := IntKind.i64.wrap (((BitVec.ofInt 64 a ^^^ BitVec.ofInt 64 x).toNat : Nat) : Int)
theorem wrap_wf (y : Int) : (Lit.int .i64 (IntKind.wrap .i64 y)).wf = true := by
  simp [Lit.wf, IntKind.wrap, IntKind.min, IntKind.max, IntKind.signed, IntKind.bits] <;> (try split) <;> omega
theorem xo_wf (a x : Int) : (Lit.int .i64 (xo a x)).wf = true := wrap_wf _
theorem xo_inj {a b x : Int} (ha : In64 a) (hb : In64 b) (h : xo a x = xo b x) : a = b := by
  have key : ∀ p q : BitVec 64, IntKind.i64.wrap ((p.toNat : Nat) : Int) = IntKind.i64.wrap ((q.toNat : Nat) : Int) → p = q := fun p q e => by
    rw [IntKind.wrap_i64, IntKind.wrap_i64] at e
    have h1 := p.isLt
    have h2 := q.isLt
    apply BitVec.eq_of_toNat_eq
    omega
  have h1 := key _ _ h
  have h2 : BitVec.ofInt 64 a = BitVec.ofInt 64 b := by
    have := congrArg (· ^^^ BitVec.ofInt 64 x) h1
    simpa [BitVec.xor_assoc] using this
  have h3 := congrArg BitVec.toInt h2
  unfold In64 at ha hb
  rw [BitVec.toInt_ofInt, BitVec.toInt_ofInt] at h3
  rw [Int.bmod_eq_of_le (by omega) (by omega), Int.bmod_eq_of_le (by omega) (by omega)] at h3
  exact h3
/-- A node with its Ino changed. -/
def rx (x : Int) (p : Nv × Nod) : Nv × Nod := ({ p.1 with ino := xo p.1.ino x }, { p.2 with ino := xo p.1.ino x })
theorem rep_rx {w : World} {p : Nv × Nod} (h : Rep w p.1 p.2) (x : Int) : Rep w (rx x p).1 (rx x p).2 := { h with ino := rfl, in64 := xo_wf _ _ }
theorem nds_rx {w : World} (x : Int) (L : List (Nv × Nod)) (h : ∀ p ∈ L, Rep w p.1 p.2) : nds (L.map (rx x)) = (nds L).map (ri (fun z => xo z x)) := by
  unfold nds
  rw [List.map_map, List.map_map]
  apply List.map_congr_left
  intro p hp
  simp [rx, ri, (h p hp).ino]
theorem inj_xo {w : World} (x : Int) (L : List (Nv × Nod)) (h : ∀ p ∈ L, Rep w p.1 p.2) : InjOn (fun z => xo z x) (nds L) := by
  intro a ha b hb e
  unfold nds at ha hb
  obtain ⟨p, hp, rfl⟩ := List.mem_map.1 ha
  obtain ⟨q, hq, rfl⟩ := List.mem_map.1 hb
  have h1 := wf_i64_bd (h p hp).in64
  have h2 := wf_i64_bd (h q hq).in64
  rw [← (h p hp).ino] at h1
  rw [← (h q hq).ino] at h2
  exact xo_inj h1 h2 e
end Go.Proofs.YtchcejjoncihkaaGreatDoor

/- Layer 14: the statement BuildOrder, walked. -/
namespace Go.Proofs.YtchcejjoncihkaaGreatDoor
set_option linter.unusedVariables false
open Go.RowKit Go.Maps
open Lz (g)
open Crc (ent)
open Nam Tre Bld

/-- Two rows of nodes of one's own: what is left of X, and what of X was turned. -/
structure TwoT (x : Int) (w wr : World) (X : List (Nv × Nod)) (ra : Option Addr) (na ca : Nat) (A : List (Nv × Nod)) (rb : Option Addr) (nb cb : Nat) (B : List (Nv × Nod)) : Prop where
  row : wr.ownsRow w.heap.size 37 10 (.slice ra na ca) na (nvs (A.map (fun p => p.1)))
  rob : wr.ownsRow w.heap.size 37 10 (.slice rb nb cb) nb (nvs (B.map (fun p => p.1)))
  perm : (A.map (rx x) ++ B).Perm (X.map (rx x))
  bel : Below w.heap.size w wr
  ne : ∀ p, (Value.slice ra na ca).ownBlock = some p → (Value.slice rb nb cb).ownBlock ≠ some p
theorem TwoT.next {x : Int} {w wr w6 w8 : World} {X A B : List (Nv × Nod)} {ra rb rb2 a8 : Option Addr} {na ca nb cb cb2 c8 t : Nat} (h : TwoT x w wr X ra na ca A rb nb cb B) (hA : A.length = na) (ht : t < na)
    (ho : w6.ownsRow w.heap.size 37 10 (.slice rb2 (nb + 1) cb2) (nb + 1) (nvs (B.map (fun p => p.1) ++ [(rx x (gl A t)).1]))) (hb6 : Below w.heap.size w w6)
    (h8 : w8.ownsRow w6.heap.size 37 10 (.slice a8 (na - 1) c8) (na - 1) (nvs ((A.map (fun p => p.1)).take t ++ (A.map (fun p => p.1)).drop (t + 1)))) (hb8 : Below w6.heap.size w6 w8) :
    TwoT x w w8 X a8 (na - 1) c8 (A.take t ++ A.drop (t + 1)) rb2 (nb + 1) cb2 (B ++ [rx x (gl A t)]) := by
  refine ⟨?_, ?_, ?_, hb6.trans (hb8.mono hb6.size), ?_⟩
  · have := owns_low h8 hb6.size
    simpa using this
  · have := owns_below ho hb8
    simpa using this
  · refine List.Perm.trans ?_ h.perm
    have e : A = A.take t ++ ([gl A t] ++ A.drop (t + 1)) := by
      conv => lhs; rw [← List.take_append_drop t A]
      rw [List.drop_eq_getElem_cons (by omega), gl_lt A t (by omega)]; rfl
    conv => rhs; rw [e]
    rw [List.map_append, List.map_append, List.map_append, List.append_assoc, List.append_assoc, List.append_assoc]
    refine List.Perm.append_left _ ?_
    rw [← List.append_assoc]
    exact List.perm_append_comm
  · intro p hp e
    have h1 := (h8.lt p hp).1
    have h2 := (ho.lt p e).2
    omega
set_option maxRecDepth 100000 in
set_option maxHeartbeats 16000000 in
theorem order_walk (a : Option Addr) (n c : Nat) (L : List (Nv × Nod)) (oa : Option Addr) (on oc : Nat) (Z : Nat → Int) (x : Int) (w : World) (hl : Ns w a n L) (hc : n ≤ c) (hcm : c ≤ 9223372036854775807) (hz : IntsB w oa on oc Z) (hxw : (Lit.int .i64 x).wf = true) (hW : Wid w) :
    Calls Tryz.prog 4 #[.slice a n c, .slice oa on oc, .int .i64 x] w fun e w' => e = .returned (.bool true) ∧ Below w.heap.size w w' := by
  have HL := hide hl
  have HZI := hide hz
  have HW := hide hW
  clear hl hz hxw hW
  go_enter Tryz.func4, Tryz.ntmps4
  go_wp2_with (go_at_call 8; refine (shown_any _ HW.out).mono ?_)
  rintro e w1 ⟨rfl, hb1⟩
  have E1 := hide hb1
  clear hb1
  go_wp2_with (go_at_call 9; refine (few_any a n c L _ (HL.out.below E1.out) hc hcm).mono ?_)
  rintro e w2 ⟨ao, k, c', rfl, hk, hown, hns, hb2⟩
  have hcap := cap_owns hown
  have E2 := hide (E1.out.trans (hb2.mono E1.out.size))
  have HN := hide hns
  have HSh := hide (sh_of_owns hown)
  obtain ⟨h1, h2, h3⟩ := hcap
  have H3 := hide h3
  clear hown hns hb2 h3
  generalize fewL L = F at *
  have HB1 := hide (Build_few ao k c' F w2 HN.out h1 h2 hk (HW.out.below E2.out HW.out.pos))
  go_wp2_with (go_at_call 10; refine HB1.out.mono ?_)
  rintro e w4 ⟨hb4, hAns⟩
  obtain ⟨xo', xn, xc, ze, IM, rfl, hBx, hdec⟩ : ∃ xo' xn xc ze IM, e = .returned (.tuple #[.slice xo' xn xc, .int .i64 ze]) ∧ Bs w4 xo' xn IM ∧ ((check (nds F) ≠ 0 ∧ IM = [] ∧ ze = check (nds F)) ∨ (check (nds F) = 0 ∧ ze = 0 ∧ ∃ l own, IsCanon (nds F) l ∧ OwnN l own ∧ IM = im l own)) := by
    rcases hAns with ⟨h, rfl⟩ | ⟨h0, l, own, ib, hc, ho, ht, rfl, hib, hB⟩
    · exact ⟨none, 0, 0, _, [], rfl, ⟨rfl, fun i => by simp [g], .inl rfl⟩, .inl ⟨h, rfl, rfl⟩⟩
    · exact ⟨_, _, _, _, _, rfl, hB, .inr ⟨h0, rfl, l, own, hc, ho, rfl⟩⟩
  have E4 := hide (E2.out.trans (hb4.mono E2.out.size))
  have HN4 := hide (HN.out.below hb4)
  have HSh4 := hide (HSh.out.below hb4)
  have HBx := hide hBx
  have HDec := hide hdec
  have HFL := hide HN.out.1
  clear hBx hdec hAns hb4 HB1 HSh
  go_wp2_with (at_builtin; refine wpList_append_nod _ rfl _ _ rfl w4.heap.size _ _ _ [] rfl (by simpa using emptyN (Nat.le_refl _)) _ _ _ (F.map (fun p => p.1)) rfl (HSh4.out.below ((Below.refl _ w4).alloc (Nat.le_refl _) _)) H3.out (by omega) (by simp) ?_; intro ro rc w5 hown5 hg5)
  have e0 : nvs ([] ++ F.map (fun p => p.1)) = nvs (F.map (fun p => p.1)) := by rw [List.nil_append]
  rw [e0] at hown5
  have hs5 := hg5.size
  simp only [World.size_alloc] at hs5
  have hb5 : Below w4.heap.size w4 w5 := ((Below.refl _ w4).alloc (Nat.le_refl _) _).grown hg5 (by simp) (fun p e => by simp [Value.ownBlock] at e; omega)
  rw [Nat.zero_add] at hown5
  have HT0 : Hid (TwoT x w4 (w5.alloc (.cells #[] 37)) F ro k rc F (some ⟨w5.heap.size, 0, none⟩) 0 0 []) := by
    refine ⟨hown5.alloc _, by simpa using emptyN hb5.size, by simp, hb5.alloc hb5.size _, fun p hp => ?_⟩
    have := (hown5.lt p hp).2
    simp [Value.ownBlock]; omega
  clear hown5 hg5 hs5 hb5 e0 HSh4 H3
  go_loopw [10, 11, 12, 13, 14] (fun r10 r11 r12 _ _ wr => ∃ (na nb ca cb : Nat) (ra rb : Option Addr) (A B : List (Nv × Nod)), r10 = .slice ra na ca ∧ r11 = .slice rb nb cb ∧ r12 = .int .i64 nb ∧ TwoT x w4 wr F ra na ca A rb nb cb B) (fun r10 _ _ _ _ _ => match r10 with | .slice _ n _ => n | _ => 0)
  case atStart => exact ⟨k, 0, rc, 0, ro, _, _, [], rfl, rfl, rfl, HT0.out⟩
  case round =>
    obtain ⟨na, nb, ca, cb, ra, rb, A, B, rfl, rfl, rfl, htw⟩ := hrel
    have HTW := hide htw
    by_cases hn0 : 0 < na
    · have hdn : decide ((0 : Int) < na) = true := by simp; omega
      have hn1 : (0 : Int) < na := by omega
      have HZW := hide ((HZI.out.below E4.out).below (show Below w4.heap.size w4 wr from htw.bel))
      have hal : A.length = na := by have := htw.row.1; rw [nvs_length, List.length_map] at this; omega
      have hbl : B.length = nb := by have := htw.rob.1; rw [nvs_length, List.length_map] at this; omega
      have hpl := htw.perm.length_eq
      rw [List.length_append, List.length_map, hal, hbl, List.length_map, HFL.out] at hpl
      have hna60 : na ≤ 60 := by omega
      have hnb60 : nb ≤ 60 := by omega
      clear htw HT0 hpl hal hbl
      go_upto_if 37 with fail
      go_cut [13] from 29 to 71 (fun s15 wx => ∃ m : Int, s15 = .int .i64 m ∧ -(na : Int) < m ∧ m < na ∧ wx = wr)
      case first =>
        by_cases hj : nb < on
        · have hdj : decide ((nb : Int) < on) = true := by simpa using hj
          have hj1 : (nb : Int) < on := by omega
          obtain ⟨ob, off, rfl, hob, hcz⟩ : ∃ b off, oa = some ⟨b, off, none⟩ ∧ b < wr.heap.size ∧ ∀ i, i < on → wr.cell? ⟨b, off + i, none⟩ = some (.int .i64 (Z i)) ∧ In64 (Z i) := by
            rcases HZW.out.2 with h | h
            · omega
            · exact h
          have cz := (hcz nb hj).1
          obtain ⟨m, hm⟩ : ∃ m, (Z nb).tmod na = m := ⟨_, rfl⟩
          have hm1 : -(na : Int) < m ∧ m < na := by
            rw [← hm]
            have := Int.lt_tmod_of_pos (Z nb) hn1
            have := Int.tmod_lt_of_pos (Z nb) hn1
            omega
          have HM1 := hide hm1
          have hnz : ((na : Int) == 0) = false := by simp; omega
          have hnz2 : ¬ (na : Int) = 0 := by omega
          clear hcz hm1
          go_wp2_with fail
          go_meet
          exact ⟨m, rfl, HM1.out.1, HM1.out.2, rfl⟩
        · have hdj : decide ((nb : Int) < on) = false := by simpa using hj
          go_wp2_with fail
          go_meet
          exact ⟨0, rfl, by omega, by omega, rfl⟩
      case rest =>
        obtain ⟨m, rfl, hm1, hm2, rfl⟩ := hcut
        go_upto_if 46 with fail
        go_cut [13] from 29 to 71 (fun s15 wx => ∃ t : Nat, s15 = .int .i64 t ∧ t < na ∧ wx = wc)
        case first =>
          by_cases hm : m < 0
          · have hdm : decide (m < 0) = true := by simpa using hm
            have hwn : IntKind.i64.wrap (-m) = -m := IntWalk.i64_in _ (by omega)
            go_wp2_with fail
            go_meet
            exact ⟨(-m).toNat, by congr 1; omega, by omega, rfl⟩
          · have hdm : decide (m < 0) = false := by simpa using hm
            go_wp2_with fail
            go_meet
            exact ⟨m.toNat, by congr 1; omega, by omega, rfl⟩
        case rest =>
          obtain ⟨t, rfl, ht, rfl⟩ := hcut
          have hal : A.length = na := by have := HTW.out.row.1; rw [nvs_length, List.length_map] at this; omega
          obtain ⟨ga, ca', hv, hga, hgl⟩ := HTW.out.row.form hn0
          obtain ⟨rfl, _, rfl⟩ : ra = some ⟨ga, 0, none⟩ ∧ na = na ∧ ca = ca' := by simpa using hv
          obtain ⟨b', off', hbo, hb', hat⟩ := (sh_of_owns HTW.out.row).at hn0
          obtain ⟨rfl, rfl⟩ : ga = b' ∧ 0 = off' := by simpa using hbo
          obtain ⟨v, hvv, hat2⟩ : ∃ v, v = (gl A t).1 ∧ NodAt wc ga (t * 10) v := ⟨_, rfl, by have := hat t ht; rw [Nat.zero_add, gv_map A t (by omega)] at this; exact this⟩
          obtain ⟨d0, d1, d2, d3, d4, d5, d6, d7, d8, d9⟩ := hat2
          have HVV : Hid ((rx x (gl A t)).1 = { v with ino := xo v.ino x }) := by show _ = _; rw [hvv]; rfl
          have HAL := hide hal
          have hsz := HTW.out.bel.size
          have ht1 : (t : Int) < na := by omega
          obtain ⟨q1, q2, _⟩ := cap_owns HTW.out.row
          clear hat hbo hv hvv hal hm1 hm2
          go_wp2_with (at_builtin; refine wpList_append_nod _ rfl _ _ rfl w4.heap.size _ _ _ (B.map (fun p => p.1)) rfl ((HTW.out.rob.alloc _).alloc _) _ _ _ _ rfl (sh_one' (v := ⟨v.na, v.nn, v.nc, bits .xor .i64 v.ino x, v.kind, v.mode, v.uid, v.gid, v.da, v.dn, v.dc, v.tg, v.xa, v.xn, v.xc, v.op⟩) (by simp)) (fun h => by cases h) (by omega) (by simp; omega) ?_)
          intro rb2 cb2 w6 hown6 hg6
          have hb6 : Below w4.heap.size w4 w6 := ((HTW.out.bel.alloc hsz _).alloc (by simp; omega) _).grown hg6 (by simp; omega) (fun k e => (HTW.out.rob.lt k e).1)
          have hrA := ((HTW.out.row.alloc (.cells (Nv.cells ⟨v.na, v.nn, v.nc, bits .xor .i64 v.ino x, v.kind, v.mode, v.uid, v.gid, v.da, v.dn, v.dc, v.tg, v.xa, v.xn, v.xc, v.op⟩) 37)).alloc (.cells (Nv.cells ⟨v.na, v.nn, v.nc, bits .xor .i64 v.ino x, v.kind, v.mode, v.uid, v.gid, v.da, v.dn, v.dc, v.tg, v.xa, v.xn, v.xc, v.op⟩) 37)).kept hg6 (.inr (fun e => HTW.out.ne ga rfl e.symm))
          have HB6 := hide hb6
          have HO6 : Hid (w6.ownsRow w4.heap.size 37 10 (.slice rb2 (nb + 1) cb2) (nb + 1) (nvs (B.map (fun p => p.1) ++ [(rx x (gl A t)).1]))) := by rw [HVV.out]; exact hown6
          have hshA := sh_of_owns hrA
          have HOJ := hide (hshA.take t (by omega))
          have SHD : Hid (∀ W, Below w6.heap.size w6 W → ∀ off', (off' = (t + 1) * 10 ∨ na - (t + 1) = 0) → Sh W (some ⟨ga, off', none⟩) (na - (t + 1)) ((A.map (fun p => p.1)).drop (t + 1))) := fun W hW off' ho => by
            rcases ho with rfl | ho
            · have := (hshA.below hW).drop (t + 1) (by omega)
              rw [Nat.zero_add] at this
              exact this
            · exact ⟨by rw [List.length_drop, List.length_map, HAL.out], .inl ho⟩
          have hw1 : IntKind.i64.wrap ((t : Int) + 1) = (t : Int) + 1 := IntWalk.i64_in _ (by omega)
          have hb1 : (t : Int) + 1 ≤ na := by omega
          have hb2 : (t : Int) ≤ ca := by omega
          have hb0 : (0 : Int) ≤ (t : Int) := by omega
          have hb3 : (na : Int) ≤ ca := by omega
          have hb4 : (t : Int) + 1 ≤ ca := by omega
          have hb5 : (0 : Int) ≤ (t : Int) + 1 := by omega
          clear hown6 hg6 hb6 hrA hshA d0 d1 d2 d3 d4 d5 d6 d7 d8 d9
          by_cases hcj : ca = t + 1
          · have hij : Hid (na - (t + 1) = 0) := by show _ = _; omega
            have hb6 : (t : Int) ≤ (t : Int) + 1 := by omega
            go_wp2
            go_region_held3 (fun _ => True) (trivial)
              ((first
                | (refine step_append_nod _ (by rfl) (.tmp 62) (.tmp 65) (by rfl) w6 (by repeat (first | exact HB5.out | exact HB4.out | exact HB3.out | exact Below.refl _ _ | apply up_drew | apply up_drewN | apply up_alloc)) _ _ _ [] (by rfl) (emptyN' (by simp) (by simp)) _ _ _ ((A.map (fun p => p.1)).take t) (by rfl) (HOJ.out.below (by repeat (first | exact HB5.out | exact HB4.out | exact HB3.out | exact Below.refl _ _ | apply up_drew | apply up_drewN | apply up_alloc))) (fun h => by cases h) t (by omega) _ rfl (by omega) ?_; intro a7 c7 w7 hown7 hg7 hb7; have HO7 := hide hown7; have HB3 := hide hb7; clear hown7 hg7 hb7)
                | (refine step_append_nod _ (by rfl) (.tmp 66) (.tmp 70) (by rfl) w6 (by repeat (first | exact HB5.out | exact HB4.out | exact HB3.out | exact Below.refl _ _ | apply up_drew | apply up_drewN | apply up_alloc)) _ _ _ ((A.map (fun p => p.1)).take t) (by rfl) (by exact HO7.out) _ _ _ ((A.map (fun p => p.1)).drop (t + 1)) (by rfl) (SHD.out _ (by repeat (first | exact HB5.out | exact HB4.out | exact HB3.out | exact Below.refl _ _ | apply up_drew | apply up_drewN | apply up_alloc)) _ (by first | exact .inl rfl | exact .inr hij.out)) (fun h => by cases h) (na - 1) (by omega) _ rfl (by omega) ?_; intro a8 c8 w8 hown8 hg8 hb8; have HO8 := hide hown8; have HB4 := hide hb8; clear hown8 hg8 hb8)))
            all_goals (
              have HNX := hide (HTW.out.next HAL.out ht HO6.out HB6.out HO8.out HB4.out)
              clear SHD HOJ HO6 HB6 HO8 HB4 HO7 HB3
              go_wp2
              exact ⟨⟨na - 1, nb + 1, c8, cb2, a8, rb2, _, _, rfl, rfl, by go_num, HNX.out⟩, by show na - 1 < na; omega⟩)
          · go_wp2
            go_region_held3 (fun _ => True) (trivial)
              ((first
                | (refine step_append_nod _ (by rfl) (.tmp 62) (.tmp 65) (by rfl) w6 (by repeat (first | exact HB5.out | exact HB4.out | exact HB3.out | exact Below.refl _ _ | apply up_drew | apply up_drewN | apply up_alloc)) _ _ _ [] (by rfl) (emptyN' (by simp) (by simp)) _ _ _ ((A.map (fun p => p.1)).take t) (by rfl) (HOJ.out.below (by repeat (first | exact HB5.out | exact HB4.out | exact HB3.out | exact Below.refl _ _ | apply up_drew | apply up_drewN | apply up_alloc))) (fun h => by cases h) t (by omega) _ rfl (by omega) ?_; intro a7 c7 w7 hown7 hg7 hb7; have HO7 := hide hown7; have HB3 := hide hb7; clear hown7 hg7 hb7)
                | (refine step_append_nod _ (by rfl) (.tmp 66) (.tmp 70) (by rfl) w6 (by repeat (first | exact HB5.out | exact HB4.out | exact HB3.out | exact Below.refl _ _ | apply up_drew | apply up_drewN | apply up_alloc)) _ _ _ ((A.map (fun p => p.1)).take t) (by rfl) (by exact HO7.out) _ _ _ ((A.map (fun p => p.1)).drop (t + 1)) (by rfl) (SHD.out _ (by repeat (first | exact HB5.out | exact HB4.out | exact HB3.out | exact Below.refl _ _ | apply up_drew | apply up_drewN | apply up_alloc)) _ (by first | exact .inl rfl | exact .inr hij.out)) (fun h => by cases h) (na - 1) (by omega) _ rfl (by omega) ?_; intro a8 c8 w8 hown8 hg8 hb8; have HO8 := hide hown8; have HB4 := hide hb8; clear hown8 hg8 hb8)))
            all_goals (
              have HNX := hide (HTW.out.next HAL.out ht HO6.out HB6.out HO8.out HB4.out)
              clear SHD HOJ HO6 HB6 HO8 HB4 HO7 HB3
              go_wp2
              exact ⟨⟨na - 1, nb + 1, c8, cb2, a8, rb2, _, _, rfl, rfl, by go_num, HNX.out⟩, by show na - 1 < na; omega⟩)
    · obtain rfl : na = 0 := by omega
      have hal : A.length = 0 := by have := htw.row.1; rw [nvs_length, List.length_map] at this; omega
      have hA : A = [] := List.eq_nil_of_length_eq_zero (by omega)
      have hbl : B.length = nb := by have := htw.rob.1; rw [nvs_length, List.length_map] at this; omega
      have hpm : B.Perm (F.map (rx x)) := by have := htw.perm; rw [hA] at this; exact this
      have hnb : nb = k := by rw [← hbl, hpm.length_eq, List.length_map]; exact HFL.out
      have hnW : Ns wr ao k F := HN4.out.below htw.bel
      have hrB : ∀ p ∈ B, Rep wr p.1 p.2 := fun p hp => by
        obtain ⟨q, hq, rfl⟩ := List.mem_map.1 (hpm.mem_iff.1 hp)
        exact rep_rx (hnW.2.1 q hq) x
      have hpn : (nds B).Perm ((nds F).map (ri (fun z => xo z x))) := by rw [← nds_rx x F hnW.2.1]; exact hpm.map _
      have hinj : InjOn (fun z => xo z x) (nds F) := inj_xo x F hnW.2.1
      have hNB := (sh_of_owns htw.rob).ns hrB
      have HCK := hide (again_check hinj hpn)
      have HCN := hide (fun r (h : IsCanon (nds F) r) => again_canon hinj hpn h)
      have E5 := hide (E4.out.trans (htw.bel.mono E4.out.size))
      obtain ⟨p1, p2, _⟩ := cap_owns htw.rob
      have HB2 := hide (Build_few rb nb cb B wr hNB p1 p2 (by omega) (HW.out.below E5.out HW.out.pos))
      have HBx2 := hide (HBx.out.below htw.bel)
      clear htw HT0 hal hA hbl hpm hnW hrB hpn hinj HTW hnb hn0 hNB HBx
      go_wp2_with (go_at_call 10; refine HB2.out.mono ?_)
      rintro e w7 ⟨hb7, hAns⟩
      obtain ⟨yo, yn, yc, zf, rfl, hBy, hee⟩ : ∃ yo yn yc zf, e = .returned (.tuple #[.slice yo yn yc, .int .i64 zf]) ∧ Bs w7 yo yn IM ∧ (ze == 0) = (zf == 0) := by
        rcases hAns with ⟨h, rfl⟩ | ⟨h0, l2, own2, ib, hc2, ho2, ht2, rfl, hib, hB⟩
        · rcases HDec.out with ⟨d1, rfl, rfl⟩ | ⟨d1, _⟩
          · refine ⟨none, 0, 0, _, rfl, ⟨rfl, fun i => by simp [g], .inl rfl⟩, ?_⟩
            rw [beq_eq_false_iff_ne.2 d1, beq_eq_false_iff_ne.2 h]
          · exact absurd (HCK.out.2 d1) h
        · rcases HDec.out with ⟨d1, _⟩ | ⟨d1, rfl, l, own, hc, ho, rfl⟩
          · exact absurd (HCK.out.1 h0) d1
          · have e1 : l = l2 := canon_one (check_zero h0).2.2.2.1 (HCN.out l hc) hc2
            subst e1
            have e2 := own_one ho ho2
            subst e2
            exact ⟨_, _, _, _, rfl, hB, rfl⟩
      have s1 : (convert 25 9 (.slice xo' xn xc)).run Tryz.prog w7 = .ok (.string (strOfNums IM)) w7 := str_any (HBx2.out.below hb7) xc
      have s2 : (convert 25 9 (.slice yo yn yc)).run Tryz.prog w7 = .ok (.string (strOfNums IM)) w7 := str_any hBy yc
      have g2 : ((strOfNums IM).toList == (strOfNums IM).toList) = true := by simp
      have E6 := hide (E5.out.trans (hb7.mono E5.out.size))
      generalize strOfNums IM = sI at *
      clear hAns hb7 hBy HBx2 HB2 HDec HCK HCN
      cases hz : (zf == 0) with
      | true =>
        rw [hz] at hee
        go_wp2
        go_ret
        exact ⟨rfl, E6.out⟩
      | false =>
        rw [hz] at hee
        go_wp2
        go_ret
        exact ⟨rfl, E6.out⟩
end Go.Proofs.YtchcejjoncihkaaGreatDoor

/- What the package variable holds, out of the row's condition. -/
namespace Go.Proofs.YtchcejjoncihkaaGreatDoor
set_option linter.unusedVariables false
set_option maxRecDepth 100000
open Go.RowKit Go.Maps Go.ChangeShapes Go.WideShapes Go.ChangeAt
open Sup

theorem gWid : Tryz.prog.globalNamed "lamella/super.widths" = some 0 := by kernel_rfl
theorem tWid : (Tryz.prog.globals[0]?).map (·.type) = some 148 := by kernel_rfl
/-- The program's own initialiser lays the widths; what the row lists. -/
def laid1 : List (String × DataW Unit) := [("lamella/super.widths", Rows.laid_lamella_super_widths)]
theorem wid_of_laid {W : World} (h : laidMetH Tryz.prog laid1 W) : Wid W := by
  rw [MakeChecks.laidMetH_plain _ _ _ (by kernel_rfl)] at h
  have ht : Lib.TabIs Tryz.prog W "lamella/super.widths" .i64 [4, 4, 4, 4, 4, 4, 4, 2, 2, 2] :=
    Lib.tabIs_of_head gWid tWid Tryz.underlying148 Tryz.underlying3 (by kernel_rfl) (by kernel_rfl) h
  unfold Lib.TabIs World.var? at ht
  rw [gWid] at ht
  simp only [Option.bind_some] at ht
  cases hc : W.heap[0]? with
  | none => rw [hc] at ht; simp at ht
  | some o =>
    cases o with
    | cells cs t fz =>
      rw [hc] at ht
      obtain rfl := Option.some.inj ht
      exact ⟨t, fz, hc⟩
    | _ => rw [hc] at ht; simp at ht
/-- The heap that the initialisers leave meets the row's condition. -/
theorem door_met (os : Os) (args : Array Value) : laidMetH Tryz.prog laid1 ((World.doorLaid Tryz.prog 14 os).forCall (fun _ _ => 0) ⟨#[], args, []⟩).memory :=
  laidMetH_of_parts3 (fuel := 8) (laidMet_of_run' 8 (by kernel_rfl) (by kernel_rfl)) (by kernel_rfl) (by kernel_rfl)
end Go.Proofs.YtchcejjoncihkaaGreatDoor

/- What the proof stands on: BldBuild, BldOk, BldShown, BldShortP, BldMost, BldShort, with what the proof reaches of it. -/
import Derived.Test.YtoohanojfoichaaGreatDoorSBldRecs
import Derived.Test.YtoohanojfoichaaGreatDoorSBldCont
import Derived.Test.YtoohanojfoichaaGreatDoorSSupTake2
import Derived.Test.YtoohanojfoichaaGreatDoorSTreOpen

/- Layer 14: Build: a tree's image. -/
namespace Go.Proofs.YtoohanojfoichaaGreatDoor
set_option linter.unusedVariables false
open Go.RowKit Go.Maps
open Lz (g)
open Crc (ent)
open Frm Mtr Tre Nam Tab Bld

namespace Bld
/-- The parts of a canonical tree's image. -/
def bk (l : List Nod) : List Int × List Int := plc (cont l l.length).b (cont l l.length).s.1 (cont l l.length).b.length
def wq (l : List Nod) (own : List Int) : Ws × Nat := wr l own (cont l l.length).m 17 0 ws0
def y1 (l : List Nod) : List Int := (bk l).1
def y2 (l : List Nod) (own : List Int) : List Int := done ent (wq l own).1.I
def y3 (l : List Nod) (own : List Int) : List Int := done ent (wq l own).1.D
def y4 (l : List Nod) : List Int := done ent (putN 4 (bk l).2).1
def y5 (own : List Int) : List Int := done ent (putN 2 own).1
def y6 (l : List Nod) (own : List Int) : List Int := done ent (wq l own).1.X
def sb0 (l : List Nod) (own : List Int) : Sup.Sb := ⟨0, ((wq l own).1.R.length : Nat), 0, 0, 0, 0, 0, (own.length : Nat), ((cont l l.length).b.length : Nat), ((wq l own).2 : Nat)⟩
/-- How long the image is. -/
def isz (l : List Nod) (own : List Int) : Nat := 64 + ((y1 l).length + (y2 l own).length + (y3 l own).length + (y4 l).length + (y5 own).length + (y6 l own).length)
def isb (l : List Nod) (own : List Int) : Sup.Sb := sbl (sb0 l own) (y1 l).length (y2 l own).length (y3 l own).length (y4 l).length (y5 own).length (y6 l own).length
def im (l : List Nod) (own : List Int) : List Int := fst64 (isb l own) ++ (y1 l ++ (y2 l own ++ (y3 l own ++ (y4 l ++ (y5 own ++ y6 l own)))))
end Bld
/-- What holds of a canonical row. -/
theorem tn_of {L L' : List (Nv × Nod)} (h0 : check (nds L) = 0) (hc : IsCanon (nds L) (nds L')) (hn : L.length ≤ 40) : Tn L' := by
  have hF := canF h0 hc
  obtain ⟨k1, k2, k3, k4, k5, k6, k7, k8⟩ := check_zero (canon_check h0 hc)
  have hlen : L'.length = L.length := by have := hF.len; rw [nds_length, nds_length] at this; exact this
  have hpos : 0 < L'.length := by have := hF.pos; rw [nds_length] at this; exact this
  refine ⟨hpos, by omega, fun i hi => ?_, fun i j hi hj e hk => ?_, k4, canP hF, fun n hn => List.all_eq_true.1 k7 n hn, fun n hn => ?_, fun n hn s hs => ?_⟩
  · have h1 := hF.ino i (by rw [nds_length]; exact hi)
    have h2 := hF.top i (by rw [nds_length]; omega)
    exact WalkArith.wf_i64 (by omega)
  · rcases Nat.lt_trichotomy i j with c | c | c
    · have := List.pairwise_iff_getElem.1 k8 i j hi hj c
      rw [← gn_lt _ _ hi, ← gn_lt _ _ hj] at this
      obtain ⟨h1, h2⟩ := this e
      exact absurd (((alike_iff _ _).1 h2).1 ▸ hk) h1
    · exact c
    · have := List.pairwise_iff_getElem.1 k8 j i hj hi c
      rw [← gn_lt _ _ hi, ← gn_lt _ _ hj] at this
      exact absurd hk (this e.symm).1
  · have := List.any_eq_false.1 k3 n hn
    unfold deep at this
    simpa using this
  · have h1 := fv_zero _ (wrong_zero _ k2 n hn) s hs
    have h2 := (valid_zero h1).1
    rw [toList_length] at h2
    exact h2
theorem may_data {n : Nod} (h : Tre.may n = true) : n.data.length ≤ 4096 := by
  unfold Tre.may at h
  simp only [Bool.and_eq_true] at h
  have h1 := h.1.1.1
  unfold kdOk at h1
  split at h1
  · simp only [Bool.and_eq_true, decide_eq_true_eq] at h1; omega
  · split at h1
    · simp only [Bool.and_eq_true, decide_eq_true_eq] at h1; omega
    · split at h1
      · simp only [Bool.and_eq_true, decide_eq_true_eq] at h1; omega
      · simp at h1
theorem load_sb {w : World} {b t : Nat} {cs : Array Value} {fr : Nat × Nat} (h : w.heap[b]? = some (.cells cs t fr)) (hs : cs.size = 10) : (loadVar 35 ⟨b, 0, none⟩).run Tryz.prog w = .ok (.agg cs) w :=
  run_loadVar_row w b t 35 cs fr _ h Tryz.underlying35 rfl (by rw [hs]; exact infoSb)
theorem plc_in (B : Frg.Bl) (hk : Frg.Ok B) (t : List Int) : ∀ k, k ≤ B.length → ∀ y ∈ (plc B t k).2, 0 ≤ y ∧ y ≤ ((64 + t.length + 135 * k : Nat) : Int)
  | 0, _, y, hy => by simp [plc] at hy
  | k + 1, h, y, hy => by
    rw [plc] at hy
    simp only [List.mem_append, List.mem_singleton] at hy
    rcases hy with hy | rfl
    · have := plc_in B hk t k (by omega) y hy; omega
    · have := (plc_len B hk t k (by omega)).1; omega
theorem done_le (z : List Int) : (done ent z).length ≤ 135 * ((z.length + 127) / 128) := fr_length ent z _
/-- What Build answers. -/
def BAns (L : List (Nv × Nod)) (w : World) (e : Ending) (w' : World) : Prop :=
  (check (nds L) ≠ 0 ∧ e = .returned (.tuple #[.slice none 0 0, .int .i64 (check (nds L))]) ∧ Below w.heap.size w w') ∨
  (check (nds L) = 0 ∧ ∃ l own, IsCanon (nds L) l ∧ OwnN l own ∧ Below w.heap.size w w' ∧
    ((1048576 < isz l own ∧ e = .returned (.tuple #[.slice none 0 0, .int .i64 3])) ∨
     (isz l own ≤ 1048576 ∧ ∃ ib, e = .returned (.tuple #[.slice (some ⟨ib, 0, none⟩) (isz l own) (isz l own), .int .i64 0]) ∧ w.heap.size ≤ ib ∧ w'.heap[ib]? = some (.cells (bv (im l own)).toArray 5 (0, 0)) ∧ Bytes (im l own))))
set_option maxRecDepth 100000 in
set_option maxHeartbeats 4000000 in
theorem Build_any (a : Option Addr) (n c : Nat) (L : List (Nv × Nod)) (w : World) (hN : Ns w a n L) (hc : n ≤ c) (hcm : c ≤ 9223372036854775807) (hn : n ≤ 40) (hW : Wid w) :
    Calls Tryz.prog 7 #[.slice a n c] w (BAns L w) := by
  have hl := hN.1
  by_cases h0 : check (nds L) = 0
  · have HC := hide (Canon_ok a n c L w hN hc hcm h0)
    have HW := hide hW
    have H0 := hide h0
    clear hN h0 hW
    go_enter Tryz.func7, Tryz.ntmps7
    go_wp2_with fail
    refine HC.out.mono ?_
    rintro r w1 ⟨blk, L', rfl, hO1, hG1, hI1, hb1⟩
    have hN1 : Ns w1 (some ⟨blk, 0, none⟩) n L' := (sh_of_owns hO1).ns (fun p hp => (hG1 p hp).rep)
    have hl1 := hN1.1
    have ht := tn_of H0.out hI1 (by omega)
    have HN1 := hide hN1
    have HTn := hide ht
    have HI1 := hide hI1
    have HB1 := hide hb1
    clear hO1 hG1 hI1 hb1 hN1 ht HC
    go_wp2_with fail
    refine (New_any w1).mono ?_
    rintro r w2 ⟨rfl, hb2⟩
    obtain ⟨C, hC⟩ : ∃ C, C = tab ent := ⟨_, rfl⟩
    rw [← hC]
    have HCt := hide hC
    have HB2 := hide hb2
    clear hC hb2
    go_wp2_with (refine wpList_store_table rfl _ _ rfl ent C HCt.out rfl rfl _ (by simp) ?_; intro w3 ht3 hT3 hlt3 hb3)
    obtain ⟨tb, htb⟩ : ∃ tb, tb = w2.heap.size := ⟨_, rfl⟩
    rw [← htb] at hT3 hlt3 ⊢
    have b13 : Below w1.heap.size w1 w3 := HB2.out.trans (hb3.mono HB2.out.size)
    have HT3 := hide hT3
    have HB13 := hide b13
    clear ht3 hT3 hb3 HCt b13 htb HB2
    have HCo := hide (cont_any (some ⟨blk, 0, none⟩) n n tb L' w3 (HN1.out.below HB13.out) HT3.out hlt3 hn (fun p hp => (may_data (HTn.out.may p.2 (List.mem_map.2 ⟨p, hp, rfl⟩)))) (fun p hp => by
      obtain ⟨j, hj, rfl⟩ := List.getElem_of_mem hp
      have := HTn.out.ino j hj
      rw [gn_nds L' j hj, gl_lt L' j hj] at this
      exact this))
    unfold CAns at HCo
    obtain ⟨l, hle⟩ : ∃ l, l = nds L' := ⟨_, rfl⟩
    rw [← hle] at HCo
    have eb : plc (cont l l.length).b (cont l l.length).s.1 (cont l l.length).b.length = bk l := rfl
    rw [eb] at HCo
    have hCI := cont_inv l l.length
    have hpl := plc_len (cont l l.length).b hCI.ok (cont l l.length).s.1 (cont l l.length).b.length (Nat.le_refl _)
    rw [eb] at hpl
    have hll : l.length = n := by rw [hle, nds_length]; exact hl1
    have hbw : sm (bw l) l.length ≤ 4320 * l.length := sm_const l.length (fun k hk => by
      have := may_data (HTn.out.may (gn l k) (by rw [gn_lt _ _ hk, ← hle]; exact List.getElem_mem hk))
      unfold bw; omega)
    have hbl : (cont l l.length).b.length ≤ 40 := by have := hCI.b; omega
    have hy1 : (bk l).1.length ≤ 400000 := by have := hCI.s1; omega
    have hy12 := hpl.2
    have HBk := hide hbl
    have HY1 := hide hy1
    have HY12 := hide hy12
    have HLe := hide hle
    have HLl := hide hll
    have HBw := hide hbw
    clear eb hpl hCI hbw hbl hy1 hy12 hle hll
    go_wp2_with fail
    refine HCo.out.mono ?_
    rintro r w4 ⟨bo, bc, po, pc, fb, rfl, hB4, hnil4, hZ4, hF4, hb4⟩
    obtain ⟨yl, hyl⟩ : ∃ yl, yl = (bk l).1.length := ⟨_, rfl⟩
    obtain ⟨bl, hbl⟩ : ∃ bl, bl = (cont l l.length).b.length := ⟨_, rfl⟩
    rw [← hyl] at hB4
    rw [← hbl] at hZ4
    rw [← hyl, ← hbl]
    have HYl := hide hyl
    have HBl := hide hbl
    have b14 : Below w1.heap.size w1 w4 := HB13.out.trans (hb4.mono HB13.out.size)
    obtain ⟨w5, hw5⟩ : ∃ w5, w5 = w4.alloc (.cells #[.slice bo yl bc, .slice po bl pc, .map (some fb)] 52) := ⟨_, rfl⟩
    have hb5 : Below w4.heap.size w4 w5 := by rw [hw5]; exact (Below.refl _ w4).alloc (Nat.le_refl _) _
    have hp5 : w5.heap[w4.heap.size]? = some (.cells #[.slice bo yl bc, .slice po bl pc, .map (some fb)] 52 (0, 0)) := by rw [hw5]; exact heap_alloc_new _ _
    have b15 : Below w1.heap.size w1 w5 := b14.trans (hb5.mono b14.size)
    have hT5 : Tb w5 tb ent := (HT3.out.below hb4 hlt3).below hb5 (Nat.lt_of_lt_of_le hlt3 hb4.size)
    have hlt5 : tb < w5.heap.size := Nat.lt_of_lt_of_le hlt3 (Nat.le_trans hb4.size hb5.size)
    have HRc := hide (newRecords_any (some ⟨blk, 0, none⟩) n n tb fb L' (cont l l.length).m w5 (HN1.out.below b15) (Nat.le_refl _) (by omega) hT5 hlt5 (hF4.same (hb5.block _ hF4.lt)) HTn.out)
    have HB5 := hide (hB4.below hb5)
    have HZ5 := hide (hZ4.below hb5)
    have Hnil := hide hnil4
    have HB15 := hide b15
    have HT5 := hide hT5
    have HP5 := hide hp5
    have e2c : w5.cell? ⟨w4.heap.size, 2, none⟩ = some (.map (some fb)) := by simp [World.cell?, hp5]
    have HE5 : Hid (w4.alloc (.cells #[.slice bo yl bc, .slice po bl pc, .map (some fb)] 52) = w5) := hw5.symm
    obtain ⟨cb, hcb⟩ : ∃ cb, cb = w4.heap.size := ⟨_, rfl⟩
    have HCb := hide hcb
    clear hB4 hnil4 hZ4 hF4 hb4 hyl hbl b14 hw5 hb5 hp5 b15 hT5 hcb HCo HT3 HB13 HN1 hlt3
    go_upto_region 6 with fail
    rw [HE5.out]
    rw [← HCb.out] at e2c HP5 ⊢
    clear HE5 HCb
    go_wp2_with fail
    refine HRc.out.mono ?_
    rintro r w6 ⟨x, O, rfl, hxL, hxf, hxn, hxt, hxo, hSt, hRS, hOg, hb6⟩
    have HWr := hide (write_any x w5 hSt 17 0 O ws0 w6 (by rw [hxn]; have := HTn.out.pos; omega) hRS (wi0 _) (by omega))
    unfold WAns at HWr
    obtain ⟨own, hown⟩ : ∃ own, own = x.own := ⟨_, rfl⟩
    have eq : wr (nds x.L) x.own x.fm 17 0 ws0 = wq l own := by unfold wq; rw [hxL, hxf, ← HLe.out, hown]
    rw [eq] at HWr
    have hWI := wr_inv (l := nds x.L) (own := x.own) (fm := x.fm) hSt.uno 17 0 ws0 (by rw [nds_length, hSt.ns.1, hxn]; have := HTn.out.pos; omega) (wi0 _)
    rw [eq] at hWI
    have hIb : (wq l own).1.I.length ≤ 100000 := by have := hWI.bI; have := hSt.i_sum; omega
    have hDb : (wq l own).1.D.length ≤ 100000 := by have := hWI.bD hSt.nod; have := hSt.names_sum; omega
    have hXb : (wq l own).1.X.length ≤ 100000 := by have := hWI.bX; have := hSt.x_sum; omega
    have HRv := hide hWI.Rv
    have HOwn : Hid (OwnN l own) := by rw [hown, HLe.out]; exact hxo
    have HSt := hide hSt
    have HOe := hide hown
    clear hxL hxf hxo hSt hRS hOg hb6 hown eq hWI HRc
    obtain ⟨Q, hQ⟩ : ∃ Q, Q = wq l own := ⟨_, rfl⟩
    rw [← hQ] at HWr hIb hDb hXb HRv
    have HQ := hide hQ
    clear hQ e2c
    go_wp2_with fail
    refine HWr.out.mono ?_
    rintro r w7 ⟨rfl, O7, hR7, hF7, hG7⟩
    have hb7 := hR7.bel
    have HR7 := hide hR7
    have HB57 := hide hb7
    have hp7 := (hb7.block _ (heap_lt HP5.out)).trans HP5.out
    have HP7 := hide hp7
    have HLk : Hid (∀ wX, Below w7.heap.size w7 wX → wX.cell? ⟨x.rp, 7, none⟩ = some (.map (some x.mr)) ∧ wX.cell? ⟨x.rp, 2, none⟩ = some (.slice x.oa x.on x.oc) ∧ wX.cell? ⟨cb, 1, none⟩ = some (.slice po bl pc) ∧ (Builtin.len_ #[59] 3 #[.map (some x.mr)]).run Tryz.prog wX = .ok (.int .i64 (Q.1.R.length : Int)) wX) := fun wX hX => by
      have hRX := HR7.out.below hX
      have hpX := (hX.block _ (heap_lt HP7.out)).trans HP7.out
      refine ⟨by simp [World.cell?, hRX.rc, rcv], by simp [World.cell?, hRX.rc, rcv], by simp [World.cell?, hpX], ?_⟩
      obtain ⟨oi, od, ox, rfl, hRst⟩ := hRX
      exact hRst.mr.len 3
    clear hR7 hF7 hG7 hb7 hp7 HWr
    go_wp2_with fail
    have HD0 : Hid (Below w7.heap.size w7 w7.drew) := drewN_below w7 1
    have HD1 : Hid (∀ o, Below w7.heap.size w7 (w7.alloc o).drew) := fun o => ((Below.refl _ w7).alloc (Nat.le_refl _) o).trans (drewN_below _ 1)
    generalize hRl : Q.1.R.length = Rl at *
    go_region_held3 (fun wX => wX.cell? ⟨x.rp, 7, none⟩ = some (.map (some x.mr)) ∧ wX.cell? ⟨x.rp, 2, none⟩ = some (.slice x.oa x.on x.oc) ∧ wX.cell? ⟨cb, 1, none⟩ = some (.slice po bl pc) ∧ (Builtin.len_ #[59] 3 #[.map (some x.mr)]).run Tryz.prog wX = .ok (.int .i64 (Rl : Int)) wX) (exact HLk.out _ (by first | exact HD0.out | exact HD1.out _)) (fail)
    rename_i hHd
    clear hHd HLk HD0
    obtain ⟨SB, hSB⟩ : ∃ SB : Sup.Sb, SB = ⟨0, (Rl : Int), 0, 0, 0, 0, 0, (x.on : Int), (bl : Int), (Q.2 : Int)⟩ := ⟨_, rfl⟩
    obtain ⟨w8, hw8⟩ : ∃ w8, w8 = (w7.alloc (.cells (sbv SB) 35)).drew := ⟨_, rfl⟩
    have e8 : (w7.alloc (Obj.cells #[.int .i64 0, .int .i64 (Rl : Int), .int .i64 0, .int .i64 0, .int .i64 0, .int .i64 0, .int .i64 0, .int .i64 (x.on : Int), .int .i64 (bl : Int), .int .i64 (Q.2 : Int)] 35)).drew = w8 := by rw [hw8, hSB]; rfl
    rw [e8]
    have hb8 : Below w7.heap.size w7 w8 := by rw [hw8]; exact HD1.out _
    have hk8 : w8.heap[w7.heap.size]? = some (.cells (sbv SB) 35 (0, 0)) := by rw [hw8]; exact heap_alloc_new _ _
    obtain ⟨sk, hsk⟩ : ∃ sk, sk = w7.heap.size := ⟨_, rfl⟩
    rw [← hsk] at hk8 ⊢
    have hR8 := HR7.out.below hb8
    have hp8 := (hb8.block _ (heap_lt HP7.out)).trans HP7.out
    have b58 : Below w5.heap.size w5 w8 := HB57.out.trans (hb8.mono HB57.out.size)
    have HSk : Hid (∀ wX, Below w8.heap.size w8 wX → wX.heap[sk]? = some (.cells (sbv SB) 35 (0, 0))) := fun wX hX => (hX.block _ (heap_lt hk8)).trans hk8
    have HLd : Hid (∀ wX, Below w8.heap.size w8 wX → wX.cell? ⟨x.rp, 3, none⟩ = some (.pointer (some ⟨x.pi, 0, none⟩)) ∧ wX.cell? ⟨x.rp, 4, none⟩ = some (.pointer (some ⟨x.pd, 0, none⟩)) ∧ wX.cell? ⟨x.rp, 5, none⟩ = some (.pointer (some ⟨x.px, 0, none⟩)) ∧ wX.cell? ⟨x.rp, 2, none⟩ = some (.slice x.oa x.on x.oc) ∧ wX.cell? ⟨cb, 0, none⟩ = some (.slice bo yl bc) ∧ wX.cell? ⟨cb, 1, none⟩ = some (.slice po bl pc)) := fun wX hX => by
      have hRX := hR8.below hX
      have hpX := (hX.block _ (heap_lt hp8)).trans hp8
      exact ⟨by simp [World.cell?, hRX.rc, rcv], by simp [World.cell?, hRX.rc, rcv], by simp [World.cell?, hRX.rc, rcv], by simp [World.cell?, hRX.rc, rcv], by simp [World.cell?, hpX], by simp [World.cell?, hpX]⟩
    have b0s : Below w.heap.size w w5 := HB1.out.trans (HB15.out.mono HB1.out.size)
    obtain ⟨zA, hzA⟩ : ∃ z, z = y2 l own := ⟨_, rfl⟩
    obtain ⟨zB, hzB⟩ : ∃ z, z = y3 l own := ⟨_, rfl⟩
    obtain ⟨zC, hzC⟩ : ∃ z, z = y4 l := ⟨_, rfl⟩
    obtain ⟨zD, hzD⟩ : ∃ z, z = y5 own := ⟨_, rfl⟩
    obtain ⟨zE, hzE⟩ : ∃ z, z = y6 l own := ⟨_, rfl⟩
    obtain ⟨nA, hnA⟩ : ∃ k, k = zA.length := ⟨_, rfl⟩
    obtain ⟨nB, hnB⟩ : ∃ k, k = zB.length := ⟨_, rfl⟩
    obtain ⟨nC, hnC⟩ : ∃ k, k = zC.length := ⟨_, rfl⟩
    obtain ⟨nD, hnD⟩ : ∃ k, k = zD.length := ⟨_, rfl⟩
    obtain ⟨nE, hnE⟩ : ∃ k, k = zE.length := ⟨_, rfl⟩
    have HA : Hid (∀ wX, Below w8.heap.size w8 wX → Calls Tryz.prog 19 #[.pointer (some ⟨x.pi, 0, none⟩)] wX fun r w' => ∃ ao c, r = .returned (.slice ao nA c) ∧ Bs w' ao nA zA ∧ Below wX.heap.size wX w') := fun wX hX => by
      obtain ⟨oi, od, ox, e, hRst⟩ := hR8.below hX
      obtain ⟨t1, t2⟩ := hRst.tb HSt.out
      refine (metaDone_any x.pi x.tb oi ent Q.1.I wX hRst.wi t1 t2 small_ent hIb).mono ?_
      rintro r w' ⟨ao, c, rfl, hF⟩
      have ez : done ent Q.1.I = zA := by rw [hzA, HQ.out]; rfl
      rw [ez, ← hnA] at hF ⊢
      exact ⟨ao, c, rfl, hF.bs, hF.bel⟩
    have HB : Hid (∀ wX, Below w8.heap.size w8 wX → Calls Tryz.prog 19 #[.pointer (some ⟨x.pd, 0, none⟩)] wX fun r w' => ∃ ao c, r = .returned (.slice ao nB c) ∧ Bs w' ao nB zB ∧ Below wX.heap.size wX w') := fun wX hX => by
      obtain ⟨oi, od, ox, e, hRst⟩ := hR8.below hX
      obtain ⟨t1, t2⟩ := hRst.tb HSt.out
      refine (metaDone_any x.pd x.tb od ent Q.1.D wX hRst.wd t1 t2 small_ent hDb).mono ?_
      rintro r w' ⟨ao, c, rfl, hF⟩
      have ez : done ent Q.1.D = zB := by rw [hzB, HQ.out]; rfl
      rw [ez, ← hnB] at hF ⊢
      exact ⟨ao, c, rfl, hF.bs, hF.bel⟩
    have HE : Hid (∀ wX, Below w8.heap.size w8 wX → Calls Tryz.prog 19 #[.pointer (some ⟨x.px, 0, none⟩)] wX fun r w' => ∃ ao c, r = .returned (.slice ao nE c) ∧ Bs w' ao nE zE ∧ Below wX.heap.size wX w') := fun wX hX => by
      obtain ⟨oi, od, ox, e, hRst⟩ := hR8.below hX
      obtain ⟨t1, t2⟩ := hRst.tb HSt.out
      refine (metaDone_any x.px x.tb ox ent Q.1.X wX hRst.wx t1 t2 small_ent hXb).mono ?_
      rintro r w' ⟨ao, c, rfl, hF⟩
      have ez : done ent Q.1.X = zE := by rw [hzE, HQ.out]; rfl
      rw [ez, ← hnE] at hF ⊢
      exact ⟨ao, c, rfl, hF.bs, hF.bel⟩
    have h64 : ∀ y ∈ (bk l).2, In64 y := fun y hy => by
      have hCI := cont_inv l l.length
      have := plc_in (cont l l.length).b hCI.ok (cont l l.length).s.1 (cont l l.length).b.length (Nat.le_refl _) y hy
      have h2 := hCI.s1
      have h3 := HBw.out
      have h4 := hCI.b
      have h5 := HLl.out
      exact ⟨by omega, by omega⟩
    have HC : Hid (∀ wX, Below w8.heap.size w8 wX → Calls Tryz.prog 20 #[.pointer (some ⟨tb, 0, none⟩), .slice po bl pc, .int .i64 4] wX fun r w' => ∃ ao c, r = .returned (.slice ao nC c) ∧ Bs w' ao nC zC ∧ Below wX.heap.size wX w') := fun wX hX => by
      have b5X := b58.trans (hX.mono b58.size)
      refine (numbers_any tb po bl pc (bk l).2 4 wX (HT5.out.below b5X hlt5) (Nat.lt_of_lt_of_le hlt5 b5X.size) (HZ5.out.below b5X) (by have := HBk.out; have := HBl.out; omega) h64 ⟨by omega, by omega⟩).mono ?_
      rintro r w' ⟨ao, c, rfl, hF⟩
      have ez : done ent (putN 4 (bk l).2).1 = zC := by rw [hzC]; rfl
      rw [ez, ← hnC] at hF ⊢
      exact ⟨ao, c, rfl, hF.bs, hF.bel⟩
    have HD : Hid (∀ wX, Below w8.heap.size w8 wX → Calls Tryz.prog 20 #[.pointer (some ⟨tb, 0, none⟩), .slice x.oa x.on x.oc, .int .i64 2] wX fun r w' => ∃ ao c, r = .returned (.slice ao nD c) ∧ Bs w' ao nD zD ∧ Below wX.heap.size wX w') := fun wX hX => by
      have b5X := b58.trans (hX.mono b58.size)
      have hz : Zs wX x.oa x.on x.own := by obtain ⟨oi, od, ox, e, hRst⟩ := hR8.below hX; exact hRst.ow
      refine (numbers_any tb x.oa x.on x.oc x.own 2 wX (HT5.out.below b5X hlt5) (Nat.lt_of_lt_of_le hlt5 b5X.size) hz (by have := HSt.out.on8; omega) HSt.out.i64 ⟨by omega, by omega⟩).mono ?_
      rintro r w' ⟨ao, c, rfl, hF⟩
      have ez : done ent (putN 2 x.own).1 = zD := by rw [hzD, HOe.out]; rfl
      rw [ez, ← hnD] at hF ⊢
      exact ⟨ao, c, rfl, hF.bs, hF.bel⟩
    have HJn : Hid (∀ wX, Below w8.heap.size w8 wX → ∀ oA oB oC oD oE cA cB cC cD cE, Bs wX oA nA zA → Bs wX oB nB zB → Bs wX oC nC zC → Bs wX oD nD zD → Bs wX oE nE zE → Calls Tryz.prog 18 #[.pointer (some ⟨tb, 0, none⟩), .agg (sbv SB), .agg #[.slice bo yl bc, .slice oA nA cA, .slice oB nB cB, .slice oC nC cC, .slice oD nD cD, .slice oE nE cE]] wX (JAns SB (y1 l) zA zB zC zD zE wX)) := fun wX hX oA oB oC oD oE cA cB cC cD cE bA bB bC bD bE => by
      have b5X := b58.trans (hX.mono b58.size)
      have b0X := b0s.trans (b5X.mono b0s.size)
      have g1 := done_le Q.1.I
      have g2 := done_le Q.1.D
      have g3 := done_le Q.1.X
      have g4 := done_le (putN 4 (bk l).2).1
      have g5 := done_le (putN 2 own).1
      have g6 := putN_len 4 (bk l).2
      have g7 := putN_len 2 own
      have g8 := own_len HOwn.out
      have g9 := HLl.out
      have g10 := HBk.out
      have g11 := HY12.out
      have a1 : nA = (done ent Q.1.I).length := by rw [hnA, hzA, HQ.out]; rfl
      have a2 : nB = (done ent Q.1.D).length := by rw [hnB, hzB, HQ.out]; rfl
      have a3 : nE = (done ent Q.1.X).length := by rw [hnE, hzE, HQ.out]; rfl
      have a4 : nC = (done ent (putN 4 (bk l).2).1).length := by rw [hnC, hzC]; rfl
      have a5 : nD = (done ent (putN 2 own).1).length := by rw [hnD, hzD]; rfl
      exact join_any tb SB bo oA oB oC oD oE yl nA nB nC nD nE bc cA cB cC cD cE (y1 l) zA zB zC zD zE wX (HT5.out.below b5X hlt5) (Nat.lt_of_lt_of_le hlt5 b5X.size) (HW.out.below b0X HW.out.pos) (HB5.out.below b5X) bA bB bC bD bE (by have := HY1.out; have := HYl.out; omega) (by omega) (by omega) (by omega) (by omega) (by omega)
    have HFin : Hid (∀ wX, Below w8.heap.size w8 wX → ∀ W2 r, JAns SB (y1 l) zA zB zC zD zE wX r W2 → ∃ rv, r = .returned rv ∧ (Below w8.heap.size w8 W2 ∧ BAns L w (.returned rv) W2) ∧ ∃ v1 v2, rv = .tuple #[v1, v2]) := fun wX hX W2 r hJ => by
      have b5X := b58.trans (hX.mono b58.size)
      have b0X := b0s.trans (b5X.mono b0s.size)
      have hS : SB = sb0 l own := by
        rw [hSB]; unfold sb0
        rw [← HQ.out, hRl, ← HBl.out, HOe.out, HSt.out.onl]
      have hc : IsCanon (nds L) l := by rw [HLe.out]; exact HI1.out
      have hsz : 64 + ((y1 l).length + zA.length + zB.length + zC.length + zD.length + zE.length) = isz l own := by rw [hzA, hzB, hzC, hzD, hzE]; rfl
      unfold JAns at hJ
      rw [hsz] at hJ
      rcases hJ with ⟨h1, rfl, hb⟩ | ⟨h1, ib, rfl, hib, hh, hBy, hb⟩
      · exact ⟨_, rfl, ⟨hX.trans (hb.mono hX.size), .inr ⟨H0.out, l, own, hc, HOwn.out, b0X.trans (hb.mono b0X.size), .inl ⟨h1, rfl⟩⟩⟩, _, _, rfl⟩
      · refine ⟨_, rfl, ⟨hX.trans (hb.mono hX.size), .inr ⟨H0.out, l, own, hc, HOwn.out, b0X.trans (hb.mono b0X.size), .inr ⟨h1, ib, rfl, Nat.le_trans b0X.size hib, ?_, ?_⟩⟩⟩, _, _, rfl⟩
        · rw [hh, hS, hzA, hzB, hzC, hzD, hzE]
          rfl
        · rw [hS, hzA, hzB, hzC, hzD, hzE] at hBy
          exact hBy
    clear hSB hw8 e8 hb8 hk8 hsk hR8 hp8 b58 hzA hzB hzC hzD hzE hnA hnB hnC hnD hnE h64 b0s hRl HD1 HR7 HB57 HP7 HP5 HZ5
    go_wp2_with fail
    --REGION9
    refine wp_region_held_drew (S := fun wX => Below w8.heap.size w8 wX) (by kernel_rfl) (Below.refl _ _).drew (fun hHeld => ?_)
    refine wpAnyH_take (i := 0) (oi := ⟨some 43, _, _, _, _, _⟩) (v := .agg (sbv SB)) rfl (by kernel_rfl) (by kernel_rfl) (by kernel_rfl) (fun _ _ _ h => h) (yieldsIf_load_row (by rfl) _ _ rfl sk rfl (sbv SB) (fun w' h' => load_sb (HSk.out w' h') rfl)) (by assumption) ?_
    try simp only [Act.put, List.setIfInBounds_toArray, List.set_cons_zero, List.set_cons_succ]
    refine wpAnyH_take (i := 1) (oi := ⟨some 44, _, _, _, _, _⟩) (v := ?_) rfl (by kernel_rfl) (by kernel_rfl) (by kernel_rfl) (fun _ _ _ h => h) (Or.inl ⟨by rfl, ?_⟩) (by assumption) ?_
    rotate_left
    · (intro w hSw; go_simp; try with_reducible rfl)
    try simp only [Act.put, List.setIfInBounds_toArray, List.set_cons_zero, List.set_cons_succ]
    refine wpAnyH_take (i := 2) (oi := ⟨some 45, _, _, _, _, _⟩) (v := ?_) rfl (by kernel_rfl) (by kernel_rfl) (by kernel_rfl) (fun _ _ _ h => h) (Or.inl ⟨by rfl, ?_⟩) (by assumption) ?_
    rotate_left
    · (intro w hSw; obtain ⟨r3, r4, r5, r2, s0, s1⟩ := HLd.out w hSw; go_simp; try with_reducible rfl)
    try simp only [Act.put, List.setIfInBounds_toArray, List.set_cons_zero, List.set_cons_succ]
    refine wpAnyH_take (i := 3) (oi := ⟨some 46, _, _, _, _, _⟩) (v := ?_) rfl (by kernel_rfl) (by kernel_rfl) (by kernel_rfl) (fun _ _ _ h => h) (Or.inl ⟨by rfl, ?_⟩) (by assumption) ?_
    rotate_left
    · (intro w hSw; go_simp; try with_reducible rfl)
    try simp only [Act.put, List.setIfInBounds_toArray, List.set_cons_zero, List.set_cons_succ]
    refine wpAnyH_take (i := 4) (oi := ⟨some 47, _, _, _, _, _⟩) (v := ?_) rfl (by kernel_rfl) (by kernel_rfl) (by kernel_rfl) (fun _ _ _ h => h) (Or.inl ⟨by rfl, ?_⟩) (by assumption) ?_
    rotate_left
    · (intro w hSw; go_simp; try with_reducible rfl)
    try simp only [Act.put, List.setIfInBounds_toArray, List.set_cons_zero, List.set_cons_succ]
    refine wpAnyH_take (i := 5) (oi := ⟨some 48, _, _, _, _, _⟩) (v := ?_) rfl (by kernel_rfl) (by kernel_rfl) (by kernel_rfl) (fun _ _ _ h => h) (Or.inl ⟨by rfl, ?_⟩) (by assumption) ?_
    rotate_left
    · (intro w hSw; go_simp; try with_reducible rfl)
    try simp only [Act.put, List.setIfInBounds_toArray, List.set_cons_zero, List.set_cons_succ]
    refine wpAnyH_take (i := 6) (oi := ⟨some 49, _, _, _, _, _⟩) (v := ?_) rfl (by kernel_rfl) (by kernel_rfl) (by kernel_rfl) (fun _ _ _ h => h) (Or.inl ⟨by rfl, ?_⟩) (by assumption) ?_
    rotate_left
    · (intro w hSw; obtain ⟨r3, r4, r5, r2, s0, s1⟩ := HLd.out w hSw; go_simp; try with_reducible rfl)
    try simp only [Act.put, List.setIfInBounds_toArray, List.set_cons_zero, List.set_cons_succ]
    refine wpAnyH_take (i := 8) (oi := ⟨some 51, _, _, _, _, _⟩) (v := ?_) rfl (by kernel_rfl) (by kernel_rfl) (by kernel_rfl) (fun _ _ _ h => h) (Or.inl ⟨by rfl, ?_⟩) (by assumption) ?_
    rotate_left
    · (intro w hSw; go_simp; try with_reducible rfl)
    try simp only [Act.put, List.setIfInBounds_toArray, List.set_cons_zero, List.set_cons_succ]
    refine wpAnyH_take (i := 9) (oi := ⟨some 52, _, _, _, _, _⟩) (v := ?_) rfl (by kernel_rfl) (by kernel_rfl) (by kernel_rfl) (fun _ _ _ h => h) (Or.inl ⟨by rfl, ?_⟩) (by assumption) ?_
    rotate_left
    · (intro w hSw; go_simp; try with_reducible rfl)
    try simp only [Act.put, List.setIfInBounds_toArray, List.set_cons_zero, List.set_cons_succ]
    refine wpAnyH_take (i := 10) (oi := ⟨some 53, _, _, _, _, _⟩) (v := ?_) rfl (by kernel_rfl) (by kernel_rfl) (by kernel_rfl) (fun _ _ _ h => h) (Or.inl ⟨by rfl, ?_⟩) (by assumption) ?_
    rotate_left
    · (intro w hSw; go_simp; try with_reducible rfl)
    try simp only [Act.put, List.setIfInBounds_toArray, List.set_cons_zero, List.set_cons_succ]
    refine wpAnyH_take (i := 11) (oi := ⟨some 54, _, _, _, _, _⟩) (v := ?_) rfl (by kernel_rfl) (by kernel_rfl) (by kernel_rfl) (fun _ _ _ h => h) (Or.inl ⟨by rfl, ?_⟩) (by assumption) ?_
    rotate_left
    · (intro w hSw; obtain ⟨r3, r4, r5, r2, s0, s1⟩ := HLd.out w hSw; go_simp; try with_reducible rfl)
    try simp only [Act.put, List.setIfInBounds_toArray, List.set_cons_zero, List.set_cons_succ]
    refine wpAnyH_take (i := 13) (oi := ⟨some 56, _, _, _, _, _⟩) (v := ?_) rfl (by kernel_rfl) (by kernel_rfl) (by kernel_rfl) (fun _ _ _ h => h) (Or.inl ⟨by rfl, ?_⟩) (by assumption) ?_
    rotate_left
    · (intro w hSw; go_simp; try with_reducible rfl)
    try simp only [Act.put, List.setIfInBounds_toArray, List.set_cons_zero, List.set_cons_succ]
    refine wpAnyH_take (i := 14) (oi := ⟨some 57, _, _, _, _, _⟩) (v := ?_) rfl (by kernel_rfl) (by kernel_rfl) (by kernel_rfl) (fun _ _ _ h => h) (Or.inl ⟨by rfl, ?_⟩) (by assumption) ?_
    rotate_left
    · (intro w hSw; obtain ⟨r3, r4, r5, r2, s0, s1⟩ := HLd.out w hSw; go_simp; try with_reducible rfl)
    try simp only [Act.put, List.setIfInBounds_toArray, List.set_cons_zero, List.set_cons_succ]
    refine wpAnyH_take (i := 16) (oi := ⟨some 59, _, _, _, _, _⟩) (v := ?_) rfl (by kernel_rfl) (by kernel_rfl) (by kernel_rfl) (fun _ _ _ h => h) (Or.inl ⟨by rfl, ?_⟩) (by assumption) ?_
    rotate_left
    · (intro w hSw; go_simp; try with_reducible rfl)
    try simp only [Act.put, List.setIfInBounds_toArray, List.set_cons_zero, List.set_cons_succ]
    refine wpAnyH_take (i := 17) (oi := ⟨some 60, _, _, _, _, _⟩) (v := ?_) rfl (by kernel_rfl) (by kernel_rfl) (by kernel_rfl) (fun _ _ _ h => h) (Or.inl ⟨by rfl, ?_⟩) (by assumption) ?_
    rotate_left
    · (intro w hSw; go_simp; try with_reducible rfl)
    try simp only [Act.put, List.setIfInBounds_toArray, List.set_cons_zero, List.set_cons_succ]
    refine wpAnyH_take (i := 18) (oi := ⟨some 61, _, _, _, _, _⟩) (v := ?_) rfl (by kernel_rfl) (by kernel_rfl) (by kernel_rfl) (fun _ _ _ h => h) (Or.inl ⟨by rfl, ?_⟩) (by assumption) ?_
    rotate_left
    · (intro w hSw; go_simp; try with_reducible rfl)
    try simp only [Act.put, List.setIfInBounds_toArray, List.set_cons_zero, List.set_cons_succ]
    refine wpAnyH_take (i := 19) (oi := ⟨some 62, _, _, _, _, _⟩) (v := ?_) rfl (by kernel_rfl) (by kernel_rfl) (by kernel_rfl) (fun _ _ _ h => h) (Or.inl ⟨by rfl, ?_⟩) (by assumption) ?_
    rotate_left
    · (intro w hSw; obtain ⟨r3, r4, r5, r2, s0, s1⟩ := HLd.out w hSw; go_simp; try with_reducible rfl)
    try simp only [Act.put, List.setIfInBounds_toArray, List.set_cons_zero, List.set_cons_succ]
    refine wpAnyH_take (i := 21) (oi := ⟨some 64, _, _, _, _, _⟩) (v := ?_) rfl (by kernel_rfl) (by kernel_rfl) (by kernel_rfl) (fun _ _ _ h => h) (Or.inl ⟨by rfl, ?_⟩) (by assumption) ?_
    rotate_left
    · (intro w hSw; go_simp; try with_reducible rfl)
    try simp only [Act.put, List.setIfInBounds_toArray, List.set_cons_zero, List.set_cons_succ]
    refine wpAnyH_take (i := 22) (oi := ⟨some 65, _, _, _, _, _⟩) (v := ?_) rfl (by kernel_rfl) (by kernel_rfl) (by kernel_rfl) (fun _ _ _ h => h) (Or.inl ⟨by rfl, ?_⟩) (by assumption) ?_
    rotate_left
    · (intro w hSw; go_simp; try with_reducible rfl)
    try simp only [Act.put, List.setIfInBounds_toArray, List.set_cons_zero, List.set_cons_succ]
    refine wpAnyH_take (i := 23) (oi := ⟨some 66, _, _, _, _, _⟩) (v := ?_) rfl (by kernel_rfl) (by kernel_rfl) (by kernel_rfl) (fun _ _ _ h => h) (Or.inl ⟨by rfl, ?_⟩) (by assumption) ?_
    rotate_left
    · (intro w hSw; go_simp; try with_reducible rfl)
    try simp only [Act.put, List.setIfInBounds_toArray, List.set_cons_zero, List.set_cons_succ]
    refine wpAnyH_take (i := 24) (oi := ⟨some 67, _, _, _, _, _⟩) (v := ?_) rfl (by kernel_rfl) (by kernel_rfl) (by kernel_rfl) (fun _ _ _ h => h) (Or.inl ⟨by rfl, ?_⟩) (by assumption) ?_
    rotate_left
    · (intro w hSw; obtain ⟨r3, r4, r5, r2, s0, s1⟩ := HLd.out w hSw; go_simp; try with_reducible rfl)
    try simp only [Act.put, List.setIfInBounds_toArray, List.set_cons_zero, List.set_cons_succ]
    refine wpAnyH_ready (rs := [7]) (by kernel_rfl) (by simp) ?_
    refine AllReadyH.cons (o := ⟨some 50, _, _, _, _, _⟩) rfl (fun K hK => ?_) AllReadyH.nil
    go_simp
    refine (HA.out _ hHeld).mono ?_
    rintro r WA ⟨oA, cA, rfl, f1, f2⟩
    have hb2 : Below w8.heap.size w8 WA := hHeld.trans (f2.mono hHeld.size)
    have bA := f1
    refine hK.out _ _ hb2 (fun _ => ?_)
    clear hK K f1 f2
    have hHeld := hb2
    clear hb2
    try simp only [Act.put, List.setIfInBounds_toArray, List.set_cons_zero, List.set_cons_succ]
    refine wpAnyH_ready (rs := [12]) (by kernel_rfl) (by simp) ?_
    refine AllReadyH.cons (o := ⟨some 55, _, _, _, _, _⟩) rfl (fun K hK => ?_) AllReadyH.nil
    go_simp
    refine (HB.out _ hHeld).mono ?_
    rintro r WB ⟨oB, cB, rfl, f1, f2⟩
    have hb2 : Below w8.heap.size w8 WB := hHeld.trans (f2.mono hHeld.size)
    have bA := bA.below f2
    have bB := f1
    refine hK.out _ _ hb2 (fun _ => ?_)
    clear hK K f1 f2
    have hHeld := hb2
    clear hb2
    try simp only [Act.put, List.setIfInBounds_toArray, List.set_cons_zero, List.set_cons_succ]
    refine wpAnyH_ready (rs := [15]) (by kernel_rfl) (by simp) ?_
    refine AllReadyH.cons (o := ⟨some 58, _, _, _, _, _⟩) rfl (fun K hK => ?_) AllReadyH.nil
    go_simp
    refine (HC.out _ hHeld).mono ?_
    rintro r WC ⟨oC, cC, rfl, f1, f2⟩
    have hb2 : Below w8.heap.size w8 WC := hHeld.trans (f2.mono hHeld.size)
    have bA := bA.below f2
    have bB := bB.below f2
    have bC := f1
    refine hK.out _ _ hb2 (fun _ => ?_)
    clear hK K f1 f2
    have hHeld := hb2
    clear hb2
    try simp only [Act.put, List.setIfInBounds_toArray, List.set_cons_zero, List.set_cons_succ]
    refine wpAnyH_ready (rs := [20]) (by kernel_rfl) (by simp) ?_
    refine AllReadyH.cons (o := ⟨some 63, _, _, _, _, _⟩) rfl (fun K hK => ?_) AllReadyH.nil
    go_simp
    refine (HD.out _ hHeld).mono ?_
    rintro r WD ⟨oD, cD, rfl, f1, f2⟩
    have hb2 : Below w8.heap.size w8 WD := hHeld.trans (f2.mono hHeld.size)
    have bA := bA.below f2
    have bB := bB.below f2
    have bC := bC.below f2
    have bD := f1
    refine hK.out _ _ hb2 (fun _ => ?_)
    clear hK K f1 f2
    have hHeld := hb2
    clear hb2
    try simp only [Act.put, List.setIfInBounds_toArray, List.set_cons_zero, List.set_cons_succ]
    refine wpAnyH_ready (rs := [25]) (by kernel_rfl) (by simp) ?_
    refine AllReadyH.cons (o := ⟨some 68, _, _, _, _, _⟩) rfl (fun K hK => ?_) AllReadyH.nil
    go_simp
    refine (HE.out _ hHeld).mono ?_
    rintro r WE ⟨oE, cE, rfl, f1, f2⟩
    have hb2 : Below w8.heap.size w8 WE := hHeld.trans (f2.mono hHeld.size)
    have bA := bA.below f2
    have bB := bB.below f2
    have bC := bC.below f2
    have bD := bD.below f2
    have bE := f1
    refine hK.out _ _ hb2 (fun _ => ?_)
    clear hK K f1 f2
    have hHeld := hb2
    clear hb2
    try simp only [Act.put, List.setIfInBounds_toArray, List.set_cons_zero, List.set_cons_succ]
    refine wpAnyH_take (i := 26) (oi := ⟨some 69, _, _, _, _, _⟩) (v := ?_) rfl (by kernel_rfl) (by kernel_rfl) (by kernel_rfl) (fun _ _ _ h => h) (Or.inl ⟨by rfl, ?_⟩) (by assumption) ?_
    rotate_left
    · (intro w hSw; go_simp; try with_reducible rfl)
    try simp only [Act.put, List.setIfInBounds_toArray, List.set_cons_zero, List.set_cons_succ]
    refine wpAnyH_ready (rs := [27]) (by kernel_rfl) (by simp) ?_
    refine AllReadyH.cons (o := ⟨some 70, _, _, _, _, _⟩) rfl (fun K hK => ?_) AllReadyH.nil
    go_simp
    refine (HJn.out WE hHeld oA oB oC oD oE cA cB cC cD cE bA bB bC bD bE).mono ?_
    rintro r W2 hJ
    obtain ⟨rv, rfl, hfin, f2⟩ := HFin.out WE hHeld W2 r hJ
    obtain ⟨v1, v2, rfl⟩ := f2
    refine hK.out _ _ hfin.1 (fun hHeld => ?_)
    clear hK K
    try simp only [Act.put, List.setIfInBounds_toArray, List.set_cons_zero, List.set_cons_succ]
    refine wpAnyH_take (i := 28) (oi := ⟨some 71, _, _, _, _, _⟩) (v := ?_) rfl (by kernel_rfl) (by kernel_rfl) (by kernel_rfl) (fun _ _ _ h => h) (Or.inl ⟨by rfl, ?_⟩) (by assumption) ?_
    rotate_left
    · (intro w hSw; go_simp; try with_reducible rfl)
    try simp only [Act.put, List.setIfInBounds_toArray, List.set_cons_zero, List.set_cons_succ]
    refine wpAnyH_take (i := 29) (oi := ⟨some 72, _, _, _, _, _⟩) (v := ?_) rfl (by kernel_rfl) (by kernel_rfl) (by kernel_rfl) (fun _ _ _ h => h) (Or.inl ⟨by rfl, ?_⟩) (by assumption) ?_
    rotate_left
    · (intro w hSw; go_simp; try with_reducible rfl)
    try simp only [Act.put, List.setIfInBounds_toArray, List.set_cons_zero, List.set_cons_succ]
    refine wpAnyH_take (i := 30) (oi := ⟨some 2, _, _, _, _, _⟩) (v := ?_) rfl (by kernel_rfl) (by kernel_rfl) (by kernel_rfl) (fun _ _ _ h => h) (Or.inl ⟨by rfl, ?_⟩) (by assumption) ?_
    rotate_left
    · (intro w hSw; go_simp; try with_reducible rfl)
    try simp only [Act.put, List.setIfInBounds_toArray, List.set_cons_zero, List.set_cons_succ]
    refine wpAnyH_take (i := 31) (oi := ⟨some 3, _, _, _, _, _⟩) (v := ?_) rfl (by kernel_rfl) (by kernel_rfl) (by kernel_rfl) (fun _ _ _ h => h) (Or.inl ⟨by rfl, ?_⟩) (by assumption) ?_
    rotate_left
    · (intro w hSw; go_simp; try with_reducible rfl)
    try simp only [Act.put, List.setIfInBounds_toArray, List.set_cons_zero, List.set_cons_succ]
    refine wpAnyH_done (by kernel_rfl) ?_ _
    go_wp2
    go_ret2
    exact hfin.2
    --END9
  · have HC := hide (Canon_no a n c L w hN hc hcm (check (nds L)) rfl h0)
    have e1 : (check (nds L) == 0) = false := by simpa using h0
    have H0 := hide h0
    unfold BAns
    generalize check (nds L) = z at *
    clear hN h0 hW
    go_enter Tryz.func7, Tryz.ntmps7
    go_wp2_with fail
    refine HC.out.mono ?_
    rintro r w1 ⟨rfl, hb1⟩
    have HB := hide hb1
    clear hb1 HC
    go_wp2
    go_ret2
    exact .inl ⟨H0.out, rfl, HB.out⟩
end Go.Proofs.YtoohanojfoichaaGreatDoor

/- Layer 14, on lists alone: an image is not too big, its superblock may be, and tells it. -/
namespace Go.Proofs.YtoohanojfoichaaGreatDoor.Bld
set_option linter.unusedVariables false
open Lz (g)
open Crc (ent)
open Frm Mtr Tre Nam Tab

theorem asc_one : ∀ (a b : List Int), a.Pairwise (· < ·) → b.Pairwise (· < ·) → (∀ x, x ∈ a ↔ x ∈ b) → a = b
  | [], [], _, _, _ => rfl
  | [], y :: b, _, _, h => by have := (h y).2 (List.mem_cons_self ..); simp at this
  | x :: a, [], _, _, h => by have := (h x).1 (List.mem_cons_self ..); simp at this
  | x :: a, y :: b, ha, hb, h => by
    rw [List.pairwise_cons] at ha hb
    have e : x = y := by
      have h1 := (h x).1 (List.mem_cons_self ..)
      have h2 := (h y).2 (List.mem_cons_self ..)
      rcases List.mem_cons.1 h1 with h1 | h1
      · exact h1
      · rcases List.mem_cons.1 h2 with h2 | h2
        · exact h2.symm
        · have := hb.1 x h1; have := ha.1 y h2; omega
    subst e
    rw [asc_one a b ha.2 hb.2 fun z => ?_]
    constructor
    · intro hz
      rcases List.mem_cons.1 ((h z).1 (List.mem_cons_of_mem _ hz)) with e | e
      · have := ha.1 z hz; omega
      · exact e
    · intro hz
      rcases List.mem_cons.1 ((h z).2 (List.mem_cons_of_mem _ hz)) with e | e
      · have := hb.1 z hz; omega
      · exact e
theorem own_one {l : List Nod} {a b : List Int} (ha : OwnN l a) (hb : OwnN l b) : a = b := asc_one a b ha.1 hb.1 fun x => (ha.2 x).trans (hb.2 x).symm
/-- What holds of a canonical tree's nodes. -/
structure Tl (l : List Nod) : Prop where
  pos : 0 < l.length
  n40 : l.length ≤ 40
  uno : Uno l
  nod : (l.map Nod.names).Nodup
  may : ∀ n ∈ l, Tre.may n = true
  long : ∀ n ∈ l, ∀ s ∈ n.names, s.size ≤ 255
theorem Tl.of {l r : List Nod} (h0 : check l = 0) (hc : IsCanon l r) (hn : l.length ≤ 40) : Tl r := by
  have hF := canF h0 hc
  obtain ⟨k1, k2, k3, k4, k5, k6, k7, k8⟩ := check_zero (canon_check h0 hc)
  refine ⟨hF.pos, by rw [hF.len]; exact hn, fun i j hi hj e hk => ?_, k4, fun n hn => List.all_eq_true.1 k7 n hn, fun n hn s hs => ?_⟩
  · rcases Nat.lt_trichotomy i j with c | c | c
    · have := List.pairwise_iff_getElem.1 k8 i j hi hj c
      rw [← gn_lt _ _ hi, ← gn_lt _ _ hj] at this
      obtain ⟨h1, h2⟩ := this e
      exact absurd (((alike_iff _ _).1 h2).1 ▸ hk) h1
    · exact c
    · have := List.pairwise_iff_getElem.1 k8 j i hj hi c
      rw [← gn_lt _ _ hi, ← gn_lt _ _ hj] at this
      exact absurd hk (this e.symm).1
  · have h1 := fv_zero _ (wrong_zero _ k2 n hn) s hs
    have h2 := (valid_zero h1).1
    rw [toList_length] at h2
    exact h2
section
variable {l : List Nod} {own : List Int}
theorem Tl.wi (h : Tl l) (own : List Int) : WI l (wq l own).1 := wr_inv h.uno 17 0 ws0 h.pos (wi0 l)
/-- The root's record is among those that were written. -/
theorem wq_mem (l : List Nod) (own : List Int) : (0, (wq l own).2) ∈ (wq l own).1.R := by
  have e : lkR l ws0.R (gn l 0).ino = none := rfl
  unfold wq
  rw [wr_none e]
  unfold fin
  simp
theorem Tl.nwle (h : Tl l) : ∀ k, k < l.length → nw l k ≤ 261 := fun k hk => by
  unfold Bld.nw
  rw [gn_lt _ k hk]
  by_cases hn : l[k].names = []
  · rw [hn]; show 6 + 0 ≤ 261; omega
  · have hp : 0 < l[k].names.length := List.length_pos_iff.2 hn
    have := h.long _ (List.getElem_mem hk) (gs l[k].names (l[k].names.length - 1)) (by
      unfold gs
      rw [List.getD_eq_getElem?_getD, List.getElem?_eq_getElem (by omega)]
      exact List.getElem_mem _)
    omega
theorem Tl.sums (h : Tl l) : sm (nw l) l.length ≤ 261 * l.length ∧ sm (iw l) l.length ≤ 222 * l.length ∧ sm (xw l) l.length ≤ 1937 * l.length ∧ sm (bw l) l.length ≤ 4320 * l.length := by
  refine ⟨sm_const _ h.nwle, sm_const _ fun k hk => ?_, sm_const _ fun k hk => ?_, sm_const _ fun k hk => ?_⟩
  · have := (may_parts (h.may (gn l k) (by rw [gn_lt _ _ hk]; exact List.getElem_mem hk))).1
    unfold iw; omega
  · have := (may_parts (h.may (gn l k) (by rw [gn_lt _ _ hk]; exact List.getElem_mem hk))).2
    unfold xw; split <;> omega
  · have := may_data (h.may (gn l k) (by rw [gn_lt _ _ hk]; exact List.getElem_mem hk))
    unfold bw; omega
theorem Tl.size (h : Tl l) (ho : OwnN l own) : isz l own ≤ 400000 := by
  have hn := h.n40
  obtain ⟨s1, s2, s3, s4⟩ := h.sums
  have hw := h.wi own
  have g1 := done_le (wq l own).1.I
  have g2 := done_le (wq l own).1.D
  have g3 := done_le (wq l own).1.X
  have g4 := done_le (putN 4 (bk l).2).1
  have g5 := done_le (putN 2 own).1
  have g6 := putN_len 4 (bk l).2
  have g7 := putN_len 2 own
  have g8 := own_len ho
  have hCI := cont_inv l l.length
  have hpl := plc_len (cont l l.length).b hCI.ok (cont l l.length).s.1 (cont l l.length).b.length (Nat.le_refl _)
  have g9 := hCI.b
  have g10 := hCI.s1
  have g11 := hw.bI
  have g12 := hw.bD h.nod
  have g13 := hw.bX
  unfold isz y1 y2 y3 y4 y5 y6
  unfold bk at *
  omega
theorem Tl.ok (h : Tl l) (ho : OwnN l own) : (isb l own).ok := by
  have hn := h.n40
  have hz := h.size ho
  obtain ⟨s1, s2, s3, s4⟩ := h.sums
  have hw := h.wi own
  have hm := wq_mem l own
  have hr := hw.Rv _ hm
  have hI := hw.bI
  have hR := hw.bR
  have hR1 : 0 < (wq l own).1.R.length := List.length_pos_of_mem hm
  have ho1 := own_len ho
  have ho2 : 0 < own.length := by
    have h0 : l[0]'h.pos ∈ l := List.getElem_mem h.pos
    exact List.length_pos_of_mem ((ho.2 _).2 ⟨_, h0, .inl rfl⟩)
  have hb := (cont_inv l l.length).b
  unfold isz at hz
  refine ⟨?_, ?_, ?_, ?_, ?_⟩
  · unfold isb sbl Sup.Sb.sorted; simp only []; omega
  · unfold isb sbl sb0; simp only []; omega
  · unfold isb sbl sb0; simp only []; omega
  · unfold isb sbl sb0; simp only []; omega
  · unfold isb sbl sb0; simp only []; omega
theorem im_length (l : List Nod) (own : List Int) : (im l own).length = isz l own := by
  unfold im isz
  simp only [List.length_append, fst64_length]
  omega
theorem Tl.good (h : Tl l) (ho : OwnN l own) : Sup.good ent (im l own) ∧ Sup.sbOf (im l own) = isb l own := by
  have hk := h.ok ho
  have e : im l own = Sup.put ent (isb l own) ++ (y1 l ++ (y2 l own ++ (y3 l own ++ (y4 l ++ (y5 own ++ y6 l own))))) := by unfold im fst64; rw [if_pos (Sup.may_iff.2 hk)]
  have hs : (isb l own).size = 64 + ((y1 l ++ (y2 l own ++ (y3 l own ++ (y4 l ++ (y5 own ++ y6 l own)))) : List Int).length : Int) := by
    unfold isb sbl
    simp only [List.length_append]
    omega
  rw [e]
  exact ⟨Sup.good_put hk _ hs, Sup.sbOf_put hk _⟩
end
end Go.Proofs.YtoohanojfoichaaGreatDoor.Bld

/- Layer 14: the document's example, and Build's answer for few nodes. -/
namespace Go.Proofs.YtoohanojfoichaaGreatDoor
set_option linter.unusedVariables false
open Go.RowKit Go.Maps
open Lz (g)
open Crc (ent)
open Frm Mtr Tre Nam Tab Bld

/-- What Build answers, of at most 40 nodes: they are never too many. -/
def BAn (L : List (Nv × Nod)) (w : World) (e : Ending) (w' : World) : Prop :=
  Below w.heap.size w w' ∧ ((check (nds L) ≠ 0 ∧ e = .returned (.tuple #[.slice none 0 0, .int .i64 (check (nds L))])) ∨
  (check (nds L) = 0 ∧ ∃ l own ib, IsCanon (nds L) l ∧ OwnN l own ∧ Tl l ∧ e = .returned (.tuple #[.slice (some ⟨ib, 0, none⟩) (isz l own) (isz l own), .int .i64 0]) ∧ w.heap.size ≤ ib ∧ Bs w' (some ⟨ib, 0, none⟩) (isz l own) (im l own)))
theorem bs_bv {w : World} {b : Nat} {z : List Int} {t : TypeId} {fz : Nat × Nat} (hb : Bytes z) (h : w.heap[b]? = some (.cells (bv z).toArray t fz)) (n : Nat) (hn : z.length = n) : Bs w (some ⟨b, 0, none⟩) n z := by
  refine ⟨hn, hb.g, .inr ⟨b, 0, rfl, heap_lt h, fun i hi => ?_⟩⟩
  simp [World.cell?, h, bv, g, hi]
theorem Build_few (a : Option Addr) (n c : Nat) (L : List (Nv × Nod)) (w : World) (hN : Ns w a n L) (hc : n ≤ c) (hcm : c ≤ 9223372036854775807) (hn : n ≤ 40) (hW : Wid w) :
    Calls Tryz.prog 7 #[.slice a n c] w (BAn L w) := by
  refine (Build_any a n c L w hN hc hcm hn hW).mono ?_
  rintro e w' (⟨h1, h2, h3⟩ | ⟨h0, l, own, hc, ho, hb, hx⟩)
  · exact ⟨h3, .inl ⟨h1, h2⟩⟩
  · have ht : Tl l := Tl.of h0 hc (by rw [nds_length, hN.1]; exact hn)
    rcases hx with ⟨hx, _⟩ | ⟨_, ib, he, hib, hh, hby⟩
    · have := ht.size ho; omega
    · exact ⟨hb, .inr ⟨h0, l, own, ib, hc, ho, ht, he, hib, bs_bv hby hh _ (im_length l own)⟩⟩
/-- The root alone. -/
def Bld.n1 : Nod := ⟨[], 1, 1, 0, 0, 0, [], ⟨#[]⟩, [], false⟩
def Bld.v1 : Nv := ⟨none, 0, 0, 1, 1, 0, 0, 0, none, 0, 0, ⟨#[]⟩, none, 0, 0, false⟩
theorem Bld.n1_check : check [n1] = 0 := by decide +kernel
theorem Bld.n1_canon {l : List Nod} (h : IsCanon [n1] l) : l = [n1] := by
  obtain ⟨s, hp, _, rfl⟩ := h
  rw [List.perm_singleton.1 hp]
  rfl
theorem Bld.n1_rep (w : World) : Rep w v1 n1 :=
  ⟨⟨rfl, .inl rfl⟩, Nat.le_refl _, by decide, fun _ => rfl, rfl, by decide, rfl, rfl, rfl, rfl, ⟨rfl, fun i => by simp [g, n1], .inl rfl⟩, Nat.le_refl _, by decide, fun _ => rfl, rfl, by decide, ⟨rfl, .inl rfl⟩, Nat.le_refl _, by decide, fun _ => rfl, rfl⟩
theorem Bld.n1_isb {own : List Int} (ho : OwnN [n1] own) (ht : Tl [n1]) : (isb [n1] own).inodes = 1 ∧ (isb [n1] own).ids = 1 ∧ (isb [n1] own).frags = 0 ∧ (isb [n1] own).inodeAt = 64 := by
  have e : own = [0] := own_one ho ⟨by simp, fun x => by simp [n1]⟩
  have h1 := (ht.wi own).bR
  have h2 : 0 < (wq [n1] own).1.R.length := List.length_pos_of_mem (wq_mem [n1] own)
  have h3 : (cont [n1] [n1].length).b = [] := rfl
  have h4 : y1 [n1] = [] := rfl
  rw [List.length_singleton] at h1
  unfold isb sbl sb0
  refine ⟨?_, ?_, ?_, ?_⟩
  · show (((wq [n1] own).1.R.length : Nat) : Int) = 1; omega
  · show ((own.length : Nat) : Int) = 1; rw [e]; rfl
  · show ((((cont [n1] [n1].length).b.length : Nat)) : Int) = 0; rw [h3]; rfl
  · show ((64 + (y1 [n1]).length : Nat) : Int) = 64; rw [h4]; rfl
set_option maxRecDepth 100000 in
set_option maxHeartbeats 1000000 in
theorem shown_any (w : World) (hW : Wid w) : Calls Tryz.prog 5 #[] w fun e w' => e = .returned (.bool true) ∧ Below w.heap.size w w' := by
  obtain ⟨wA, hwA⟩ : ∃ wA, wA = w.alloc (.cells v1.cells 48) := ⟨_, rfl⟩
  have hbA : Below w.heap.size w wA := by rw [hwA]; exact (Below.refl _ w).alloc (Nat.le_refl _) _
  have hpA : wA.heap[w.heap.size]? = some (.cells v1.cells 48 (0, 0)) := by rw [hwA]; exact heap_alloc_new _ _
  have hNs : Ns wA (some ⟨w.heap.size, 0, none⟩) 1 [(v1, n1)] := by
    refine ⟨rfl, fun p hp => ?_, .inr ⟨w.heap.size, 0, rfl, heap_lt hpA, fun i hi => ?_⟩⟩
    · rw [List.mem_singleton.1 hp]; exact n1_rep wA
    · obtain rfl : i = 0 := by omega
      obtain ⟨_, b0, b1, b2, b3, b4, b5, b6, b7, b8, b9⟩ := (show Bk wA w.heap.size v1 from hpA).box
      exact ⟨b0, b1, b2, b3, b4, b5, b6, b7, b8, b9⟩
  have HBd := hide (Build_few (some ⟨w.heap.size, 0, none⟩) 1 1 [(v1, n1)] wA hNs (Nat.le_refl _) (by omega) (by omega) (hW.below hbA hW.pos))
  have HbA := hide hbA
  have HW := hide hW
  have HE : Hid (w.alloc (Obj.cells #[.slice none 0 0, .int .i64 1, .int .i64 1, .int .i64 0, .int .i64 0, .int .i64 0, .slice none 0 0, .string ⟨#[]⟩, .slice none 0 0, .bool false] 48) = wA) := hwA.symm
  clear hwA hbA hpA hNs hW
  go_enter Tryz.func5, Tryz.ntmps5
  go_wp2_with fail
  rw [HE.out]
  refine HBd.out.mono ?_
  rintro r w1 ⟨hb1, ⟨h, _⟩ | ⟨h0, l, own, ib, hc, ho, ht, rfl, hib, hB⟩⟩
  · exact absurd n1_check h
  have hl : l = [n1] := n1_canon hc
  subst hl
  obtain ⟨hg, hs⟩ := ht.good ho
  obtain ⟨i1, i2, i3, i4⟩ := n1_isb ho ht
  have hz := ht.size ho
  generalize isz [n1] own = sz at *
  generalize im [n1] own = I at *
  have HG := hide hg
  have HS := hide hs
  have HB := hide hB
  have HB1 : Hid (Below w.heap.size w w1) := HbA.out.trans (hb1.mono HbA.out.size)
  generalize isb [n1] own = SB at *
  clear hg hs hB hb1 hc ho ht h0 HBd HE hib
  go_wp2_with fail
  refine (New_any w1).mono ?_
  rintro r w2 ⟨rfl, hb2⟩
  obtain ⟨C, hC⟩ : ∃ C, C = tab ent := ⟨_, rfl⟩
  rw [← hC]
  have HCt := hide hC
  have HB2 := hide hb2
  clear hC hb2
  go_wp2_with (refine wpList_store_table rfl _ _ rfl ent C HCt.out rfl rfl _ (by simp) ?_; intro w3 ht3 hT3 hlt3 hb3)
  have b13 : Below w1.heap.size w1 w3 := HB2.out.trans (hb3.mono HB2.out.size)
  have b03 : Below w.heap.size w w3 := HB1.out.trans (b13.mono HB1.out.size)
  have HTk := hide (sTake_any w2.heap.size sz sz ent (some ⟨ib, 0, none⟩) I w3 small_ent hT3 hlt3 (HW.out.below b03 HW.out.pos) (HB.out.below b13) (by omega))
  have HB03 := hide b03
  clear ht3 hT3 hb3 b13 b03 HCt HB2
  refine HTk.out.mono ?_
  rintro r w4 ⟨⟨_, rfl⟩ | ⟨hng, _⟩, hb4⟩
  · rw [HS.out]
    have HB04 : Hid (Below w.heap.size w w4) := HB03.out.trans (hb4.mono HB03.out.size)
    clear hb4 HTk HG HS HB
    unfold sbv
    rw [i1, i2, i3, i4]
    clear i1 i2 i3 i4
    go_wp2
    go_ret
    exact ⟨rfl, HB04.out.alloc HB04.out.size _⟩
  · exact absurd HG.out hng
end Go.Proofs.YtoohanojfoichaaGreatDoor

/- Layer 14, on lists alone: an image is at most as long as Most tells. -/
namespace Go.Proofs.YtoohanojfoichaaGreatDoor.Bld
set_option linter.unusedVariables false
open Lz (g)
open Crc (ent)
open Frm Mtr Tre Nam Tab

/-- What Most counts of a node, and of a row of them. -/
def mz (n : Nod) : Nat := 600 + n.data.length + n.target.size + 500 * n.xs.length + (n.names.map ByteArray.size).sum
def mst (l : List Nod) : Nat := 600 + (l.map mz).sum
theorem sm_map (f : Nod → Nat) : ∀ l : List Nod, (l.map f).sum = sm (fun k => f (gn l k)) l.length := by
  intro l
  have e : l.map f = (List.range l.length).map (fun k => f (gn l k)) := by
    refine List.ext_getElem (by simp) fun i h1 h2 => ?_
    simp only [List.length_map] at h1
    simp only [List.getElem_map, List.getElem_range]
    rw [gn_lt l i h1]
  have h := sum_filter (fun k => f (gn l k)) (fun _ => true) l.length
  rw [List.filter_eq_self.2 (fun _ _ => rfl)] at h
  rw [e, h]
  exact sm_eq _ fun k _ => if_pos rfl
theorem mst_canon {l r : List Nod} (h : IsCanon l r) : mst r = mst l := by
  obtain ⟨s, hp, _, rfl⟩ := h
  have e : (numb s).map mz = s.map mz := by
    refine List.ext_getElem (by simp [numb]) fun i h1 h2 => ?_
    simp [numb, mz]
  unfold mst
  rw [e, (hp.map mz).sum_nat]
theorem le_sum_of : ∀ (l : List Nat) (x : Nat), x ∈ l → x ≤ l.sum
  | [], x, h => by simp at h
  | y :: l, x, h => by
    rw [List.sum_cons]
    rcases List.mem_cons.1 h with rfl | h
    · omega
    · have := le_sum_of l x h
      omega
theorem name_le (ns : List ByteArray) (i : Nat) : (gs ns i).size ≤ (ns.map ByteArray.size).sum := by
  unfold gs
  by_cases h : i < ns.length
  · rw [List.getD_eq_getElem?_getD, List.getElem?_eq_getElem h]
    exact le_sum_of _ _ (List.mem_map.2 ⟨_, List.getElem_mem h, rfl⟩)
  · rw [List.getD_eq_getElem?_getD, List.getElem?_eq_none (by omega)]
    exact Nat.zero_le _
section
variable {l : List Nod} {own : List Int}
theorem Tl.each (h : Tl l) (k : Nat) (hk : k < l.length) : 128 * bw l k + 135 * (iw l k + nw l k + xw l k) + 35477 ≤ 128 * mz (gn l k) := by
  have hm := h.may (gn l k) (by rw [gn_lt _ _ hk]; exact List.getElem_mem hk)
  have h1 := may_parts hm
  have h2 := may_data hm
  have h3 := h.nwle k hk
  have h4 := name_le (gn l k).names ((gn l k).names.length - 1)
  unfold bw iw xw mz
  unfold nw at h3 ⊢
  split <;> omega
set_option maxRecDepth 100000 in
theorem Tl.all (h : Tl l) : ∀ n, n ≤ l.length → 128 * sm (bw l) n + 135 * (sm (iw l) n + sm (nw l) n + sm (xw l) n) + 35477 * n ≤ 128 * sm (fun k => mz (gn l k)) n
  | 0, _ => by simp [sm]
  | n + 1, hn => by
    have h1 := Tl.all h n (by omega)
    have h2 := h.each n (by omega)
    have e : ∀ f : Nat → Nat, sm f (n + 1) = sm f n + f n := fun _ => rfl
    rw [e, e, e, e, e]
    omega
/-- The bound. -/
theorem Tl.short (h : Tl l) (ho : OwnN l own) : isz l own ≤ mst l := by
  have hp := h.pos
  have ha := h.all l.length (Nat.le_refl _)
  have hw := h.wi own
  have g1 := done_le (wq l own).1.I
  have g2 := done_le (wq l own).1.D
  have g3 := done_le (wq l own).1.X
  have g4 := done_le (putN 4 (bk l).2).1
  have g5 := done_le (putN 2 own).1
  have g6 := putN_len 4 (bk l).2
  have g7 := putN_len 2 own
  have g8 := own_len ho
  have hCI := cont_inv l l.length
  have hpl := plc_len (cont l l.length).b hCI.ok (cont l l.length).s.1 (cont l l.length).b.length (Nat.le_refl _)
  have g9 := hCI.b
  have g10 := hCI.s1
  have g11 := hw.bI
  have g12 := hw.bD h.nod
  have g13 := hw.bX
  unfold mst
  rw [sm_map]
  unfold isz y1 y2 y3 y4 y5 y6
  unfold bk at *
  omega
theorem names_le : ∀ ns : List ByteArray, (∀ s ∈ ns, s.size ≤ 255) → (ns.map ByteArray.size).sum ≤ 255 * ns.length
  | [], _ => by simp
  | x :: r, h => by
    rw [List.map_cons, List.sum_cons, List.length_cons]
    have := names_le r fun s hs => h s (List.mem_cons_of_mem _ hs)
    have := h x (List.mem_cons_self ..)
    omega
/-- Of a tree, Most does not wrap round. -/
theorem most_bd {r : List Nod} (h0 : check r = 0) (hc : IsCanon r l) (ht : Tl l) : mst r ≤ 1000000 := by
  obtain ⟨_, _, k3, _⟩ := check_zero (canon_check h0 hc)
  have h6 := ht.n40
  have h7 := sm_const (e := fun k => mz (gn l k)) (c := 20000) l.length (fun k hk => by
    have hx : gn l k ∈ l := by rw [gn_lt _ _ hk]; exact List.getElem_mem hk
    have q1 := may_parts (ht.may _ hx)
    have q2 := may_data (ht.may _ hx)
    have q3 := names_le (gn l k).names (ht.long _ hx)
    have q4 := List.any_eq_false.1 k3 _ hx
    unfold Tre.deep at q4
    simp only [decide_eq_true_eq] at q4
    unfold mz
    omega)
  rw [← mst_canon hc]
  unfold mst
  rw [sm_map]
  omega
end
end Go.Proofs.YtoohanojfoichaaGreatDoor.Bld

/- Layer 14: Most, the program's and the reference's: the same number, also where it wraps round. -/
namespace Go.Proofs.YtoohanojfoichaaGreatDoor
set_option linter.unusedVariables false
open Go.RowKit Go.Maps
open Lz (g)
open Nam Tre Bld

namespace Bld
/-- What Most counts of a node and its first j names, of the first i nodes. -/
def nz (n : Nod) (j : Nat) : Nat := 600 + n.data.length + n.target.size + 500 * n.xs.length + sm (fun m => (gs n.names m).size) j
def ms (L : List (Nv × Nod)) (i : Nat) : Nat := 600 + sm (fun k => mz (gl L k).2) i
theorem nz_all (n : Nod) : nz n n.names.length = mz n := by
  have h : ∀ l : List ByteArray, (l.map ByteArray.size).sum = sm (fun m => (gs l m).size) l.length := by
    intro l
    have e : l.map ByteArray.size = (List.range l.length).map (fun m => (gs l m).size) := by
      refine List.ext_getElem (by simp) fun i h1 h2 => ?_
      simp only [List.length_map] at h1
      simp only [List.getElem_map, List.getElem_range]
      rw [gs_lt l i h1]
    have h := sum_filter (fun m => (gs l m).size) (fun _ => true) l.length
    rw [List.filter_eq_self.2 (fun _ _ => rfl)] at h
    rw [e, h]
    exact sm_eq _ fun k _ => if_pos rfl
  unfold nz mz
  rw [h]
theorem ms_all (L : List (Nv × Nod)) : ms L L.length = mst (nds L) := by
  unfold ms mst
  rw [sm_map, nds_length]
  congr 1
  refine sm_eq _ fun k hk => ?_
  rw [gn_nds L k hk]
theorem ms_zero (L : List (Nv × Nod)) : (600 : Int) = wrap64 (ms L 0 : Nat) := by
  rw [show ms L 0 = 600 from rfl]; unfold wrap64; omega
theorem ms_succ (L : List (Nv × Nod)) (i : Nat) : ms L (i + 1) = ms L i + mz (gl L i).2 := by unfold ms; rw [sm]; omega
theorem nz_succ (n : Nod) (j : Nat) : nz n (j + 1) = nz n j + (gs n.names j).size := by unfold nz; rw [sm]; omega
end Bld
theorem wr_l (a b : Int) : wrap64 (wrap64 a + b) = wrap64 (a + b) := by unfold wrap64; omega
theorem wr_r (a b : Int) : wrap64 (a + wrap64 b) = wrap64 (a + b) := by unfold wrap64; omega
theorem most_step {M : Int} {m N d t x : Nat} (h : M = wrap64 (m : Nat)) (hN : N = 600 + d + t + 500 * x) : wrap64 (M + wrap64 (wrap64 (wrap64 (600 + (d : Int)) + (t : Int)) + wrap64 (500 * (x : Int)))) = wrap64 ((m + N : Nat) : Int) := by
  rw [h]
  simp only [wr_l, wr_r]
  exact congrArg wrap64 (by omega)
theorem most_ref {M : Int} {m N d t x : Nat} (h : M = wrap64 (m : Nat)) (hN : N = 600 + d + t + 500 * x) : wrap64 (wrap64 (wrap64 (wrap64 (M + 600) + (d : Int)) + (t : Int)) + wrap64 (500 * (x : Int))) = wrap64 ((m + N : Nat) : Int) := by
  rw [h]
  simp only [wr_l, wr_r]
  exact congrArg wrap64 (by omega)
theorem most_name {M : Int} {m N K t : Nat} (h : M = wrap64 ((m + N : Nat) : Int)) (hN : K = N + t) : wrap64 (M + (t : Int)) = wrap64 ((m + K : Nat) : Int) := by
  rw [h]
  simp only [wr_l]
  exact congrArg wrap64 (by omega)
set_option maxRecDepth 100000 in
set_option maxHeartbeats 1000000 in
theorem Most_any (a : Option Addr) (n c : Nat) (L : List (Nv × Nod)) (w : World) (hl : Ns w a n L) (hc : n ≤ c) (hcm : c ≤ 9223372036854775807) :
    Calls Tryz.prog 8 #[.slice a n c] w fun e w' => e = .returned (.int .i64 (wrap64 (mst (nds L) : Nat))) ∧ Below w.heap.size w w' := by
  have HL := hide hl
  have HLN := hide hl.1
  clear hl
  go_enter Tryz.func8, Tryz.ntmps8
  go_wp2
  go_loopw [3, 5, 7, 10, 30, 31, 32] (fun r3 _ _ r _ _ _ wr => ∃ (i : Nat) (M : Int), r = .int .i64 i ∧ i ≤ n ∧ r3 = .int .i64 M ∧ M = wrap64 (ms L i : Nat) ∧ Below w.heap.size w wr) (fun _ _ _ r _ _ _ _ => n - (intOf r).toNat)
  case atStart => exact ⟨0, 600, rfl, Nat.zero_le _, rfl, ms_zero L, Below.refl _ _⟩
  case round =>
    obtain ⟨i, M, rfl, hi0, rfl, hM, hbel⟩ := hrel
    have HB := hide hbel
    have HM := hide hM
    clear hM
    by_cases hi : i < n
    · have hd : decide ((i : Int) < n) = true := by simpa using hi
      obtain ⟨ba, oa, rfl, hba, hca⟩ := (HL.out.below hbel).at (by omega)
      obtain ⟨c0, c1, c2, c3, c4, c5, c6, c7, c8, c9⟩ := hca i hi
      have hr := HL.out.rep i hi
      obtain ⟨na, nn, nc, c0', hN, n1, n2⟩ : ∃ na nn nc, wr.cell? ⟨ba, oa + i * 10, none⟩ = some (.slice na nn nc) ∧ Rs w na nn (gl L i).2.names ∧ nn ≤ nc ∧ nc ≤ 9223372036854775807 := ⟨_, _, _, c0, hr.names, hr.nc, hr.ncm⟩
      obtain ⟨dn, hdn⟩ : ∃ dn, dn = (gl L i).1.dn := ⟨_, rfl⟩
      obtain ⟨xn, hxn⟩ : ∃ xn, xn = (gl L i).1.xn := ⟨_, rfl⟩
      obtain ⟨tg, htg⟩ : ∃ tg, tg = (gl L i).1.tg := ⟨_, rfl⟩
      have H0 : Hid (nz (gl L i).2 0 = 600 + dn + tg.size + 500 * xn) := by
        show _ = _
        unfold nz
        rw [hr.data.1, hr.tg, hr.xs.1, hdn, hxn, htg, sm]; omega
      have bel : Hid (∀ o, Below w.heap.size w (wr.alloc o)) := fun o => HB.out.alloc HB.out.size _
      have HN := hide hN
      have HNN := hide hN.1
      rw [← hdn] at c6
      rw [← htg] at c7
      rw [← hxn] at c8
      clear hca hbel hr c0 hN hdn hxn htg
      go_wp2
      go_loopw [3, 7, 32] (fun r3 _ r ws => ∃ (k : Nat) (M : Int), r = .int .i64 k ∧ k ≤ nn ∧ r3 = .int .i64 M ∧ M = wrap64 (ms L i + nz (gl L i).2 k : Nat) ∧ Below w.heap.size w ws) (fun _ _ r _ => nn - (intOf r).toNat)
      case atStart =>
        exact ⟨0, _, rfl, Nat.zero_le _, rfl, most_step HM.out H0.out, bel.out _⟩
      case round =>
        obtain ⟨k, M2, rfl, hk0, rfl, hM2, hbel2⟩ := hrel
        have HB2 := hide hbel2
        have HM2 := hide hM2
        clear hM2
        by_cases hk : k < nn
        · have hd2 : decide ((k : Int) < nn) = true := by simpa using hk
          obtain ⟨bb, ob, rfl, hbb, hcb⟩ := (HN.out.below hbel2).at (by omega)
          have d1 := hcb k hk
          have HE2 := hide (nz_succ (gl L i).2 k)
          obtain ⟨t, ht⟩ : ∃ t, gs (gl L i).2.names k = t := ⟨_, rfl⟩
          rw [ht] at d1 HE2
          clear hcb hbel2 ht
          go_wp2
          exact ⟨⟨k + 1, _, by go_num, by omega, rfl, most_name HM2.out HE2.out, HB2.out⟩, by simp [intOf]; omega⟩
        · have hd2 : decide ((k : Int) < nn) = false := by simpa using hk
          have e : ms L (i + 1) = ms L i + nz (gl L i).2 k := by rw [ms_succ, ← nz_all, HNN.out]; congr 2; omega
          have HE := hide e
          clear e hbel2
          go_wp2
          exact ⟨⟨i + 1, _, by go_num, by omega, rfl, HM2.out.trans (congrArg (fun z : Nat => wrap64 (z : Int)) HE.out.symm), HB2.out⟩, by simp [intOf]; omega⟩
    · have hd : decide ((i : Int) < n) = false := by simpa using hi
      have e : ms L i = mst (nds L) := by rw [← ms_all, HLN.out]; congr 1; omega
      have HE := hide e
      clear e
      go_wp2
      go_ret
      exact ⟨ret_int (HM.out.trans (congrArg (fun z : Nat => wrap64 (z : Int)) HE.out)), HB.out⟩
set_option maxRecDepth 100000 in
set_option maxHeartbeats 1000000 in
theorem refMost_any (a : Option Addr) (n c : Nat) (L : List (Nv × Nod)) (w : World) (hl : Ns w a n L) (hc : n ≤ c) (hcm : c ≤ 9223372036854775807) :
    Calls Tryz.prog 9 #[.slice a n c] w fun e w' => e = .returned (.int .i64 (wrap64 (mst (nds L) : Nat))) ∧ Below w.heap.size w w' := by
  have HL := hide hl
  have HLN := hide hl.1
  clear hl
  go_enter Tryz.func9, Tryz.ntmps9
  go_wp2
  go_loopw [3, 4, 5] (fun r3 r _ wr => ∃ (i : Nat) (M : Int), r = .int .i64 i ∧ i ≤ n ∧ r3 = .int .i64 M ∧ M = wrap64 (ms L i : Nat) ∧ Below w.heap.size w wr) (fun _ r _ _ => n - (intOf r).toNat)
  case atStart => exact ⟨0, 600, rfl, Nat.zero_le _, rfl, ms_zero L, Below.refl _ _⟩
  case round =>
    obtain ⟨i, M, rfl, hi0, rfl, hM, hbel⟩ := hrel
    have HB := hide hbel
    have HM := hide hM
    clear hM
    by_cases hi : i < n
    · have hd : decide ((i : Int) < n) = true := by simpa using hi
      have hi1 : (i : Int) < n := by omega
      obtain ⟨ba, oa, rfl, hba, hca⟩ := (HL.out.below hbel).at (by omega)
      have HNA := hide (hca i hi)
      obtain ⟨c0, c1, c2, c3, c4, c5, c6, c7, c8, c9⟩ := hca i hi
      have hr := HL.out.rep i hi
      obtain ⟨v, hv⟩ : ∃ v, v = (gl L i).1 := ⟨_, rfl⟩
      have H0 : Hid (nz (gl L i).2 0 = 600 + v.dn + v.tg.size + 500 * v.xn) := by
        show _ = _
        unfold nz
        rw [hr.data.1, hr.tg, hr.xs.1, hv, sm]; omega
      have hN : Rs w v.na v.nn (gl L i).2.names := by rw [hv]; exact hr.names
      have n1 : v.nn ≤ v.nc := by rw [hv]; exact hr.nc
      have n2 : v.nc ≤ 9223372036854775807 := by rw [hv]; exact hr.ncm
      rw [← hv] at c0 c6 c7 c8 HNA
      have HN := hide hN
      have HNN := hide hN.1
      clear hca hbel hr hN hv c1 c2 c3 c4 c5 c9
      go_wp2
      go_quiet (fail)
      go_wp2
      have hbd : Below w.heap.size w (wr.drewN nq) := HB.out.trans ((drewN_below wr nq).mono HB.out.size)
      have HBD := hide hbd
      have HNA2 : Hid (∀ ws, Below w.heap.size w ws → Ns ws (some ⟨ba, oa, none⟩) n L) := fun ws h => HL.out.below h
      clear hbd c0 c6 c7 c8
      go_loopw [3, 5] (fun r3 r ws => ∃ (k : Nat) (M : Int), r = .int .i64 k ∧ k ≤ v.nn ∧ r3 = .int .i64 M ∧ M = wrap64 (ms L i + nz (gl L i).2 k : Nat) ∧ Below w.heap.size w ws ∧ NodAt ws ba (oa + i * 10) v) (fun _ r _ => v.nn - (intOf r).toNat)
      case atStart => exact ⟨0, _, rfl, Nat.zero_le _, rfl, most_ref HM.out H0.out, HBD.out, HNA.out.below (drewN_below wr nq) hba⟩
      case round =>
        obtain ⟨k, M2, rfl, hk0, rfl, hM2, hbel2, hna⟩ := hrel
        have HB2 := hide hbel2
        have HM2 := hide hM2
        have HNK := hide hna
        have c0 := hna.c0
        clear hM2 hna
        by_cases hk : k < v.nn
        · have hd2 : decide ((k : Int) < v.nn) = true := by simpa using hk
          have hk1 : (k : Int) < v.nn := by omega
          obtain ⟨bb, ob, hna', hbb, hcb⟩ := (HN.out.below hbel2).at (by omega)
          rw [hna'] at c0
          have d1 := hcb k hk
          have HE2 := hide (nz_succ (gl L i).2 k)
          obtain ⟨t, ht⟩ : ∃ t, gs (gl L i).2.names k = t := ⟨_, rfl⟩
          rw [ht] at d1 HE2
          clear hcb hbel2 ht hna'
          go_wp2
          exact ⟨⟨k + 1, _, by go_num, by omega, rfl, most_name HM2.out HE2.out, HB2.out, HNK.out⟩, by simp [intOf]; omega⟩
        · have hd2 : decide ((k : Int) < v.nn) = false := by simpa using hk
          have e : ms L (i + 1) = ms L i + nz (gl L i).2 k := by rw [ms_succ, ← nz_all, HNN.out]; congr 2; omega
          have HE := hide e
          clear e hbel2
          go_wp2
          exact ⟨⟨i + 1, _, by go_num, by omega, rfl, HM2.out.trans (congrArg (fun z : Nat => wrap64 (z : Int)) HE.out.symm), HB2.out⟩, by simp [intOf]; omega⟩
    · have hd : decide ((i : Int) < n) = false := by simpa using hi
      have e : ms L i = mst (nds L) := by rw [← ms_all, HLN.out]; congr 1; omega
      have HE := hide e
      clear e
      go_wp2
      go_ret
      exact ⟨ret_int (HM.out.trans (congrArg (fun z : Nat => wrap64 (z : Int)) HE.out)), HB.out⟩
end Go.Proofs.YtoohanojfoichaaGreatDoor

/- Layer 14: the statement BuildShort, walked. -/
namespace Go.Proofs.YtoohanojfoichaaGreatDoor
set_option linter.unusedVariables false
open Go.RowKit Go.Maps
open Lz (g)
open Crc (ent)
open Frm Mtr Tre Nam Tab Bld

set_option maxRecDepth 100000 in
set_option maxHeartbeats 2000000 in
theorem short_walk (a : Option Addr) (n c : Nat) (L : List (Nv × Nod)) (w : World) (hl : Ns w a n L) (hc : n ≤ c) (hcm : c ≤ 9223372036854775807) (hW : Wid w) :
    Calls Tryz.prog 3 #[.slice a n c] w fun e w' => e = .returned (.bool true) ∧ Below w.heap.size w w' := by
  have HL := hide hl
  have HW := hide hW
  clear hl hW
  go_enter Tryz.func3, Tryz.ntmps3
  go_wp2_with (go_at_call 5; refine (shown_any _ HW.out).mono ?_)
  rintro e w1 ⟨rfl, hb1⟩
  have E1 := hide hb1
  clear hb1
  go_wp2_with (go_at_call 6; refine (few_any a n c L _ (HL.out.below E1.out) hc hcm).mono ?_)
  rintro e w2 ⟨ao, k, c', rfl, hk, hown, hns, hb2⟩
  obtain ⟨h1, h2, h3⟩ := cap_owns hown
  have E2 := hide (E1.out.trans (hb2.mono E1.out.size))
  have HN := hide hns
  clear hown hns hb2 h3
  generalize fewL L = F at *
  have HB1 := hide (Build_few ao k c' F w2 HN.out h1 h2 hk (HW.out.below E2.out HW.out.pos))
  go_wp2_with (go_at_call 7; refine HB1.out.mono ?_)
  rintro e w4 ⟨hb4, hAns⟩
  have E4 := hide (E2.out.trans (hb4.mono E2.out.size))
  have HN4 := hide (HN.out.below hb4)
  have HM : Hid (∀ wX, Below w4.heap.size w4 wX → Calls Tryz.prog 8 #[.slice ao k c'] wX fun e w' => e = .returned (.int .i64 (wrap64 (mst (nds F) : Nat))) ∧ Below w4.heap.size w4 w') := fun wX hX => (Most_any ao k c' F wX (HN4.out.below hX) h1 h2).mono fun e w' ⟨he, hb⟩ => ⟨he, hX.trans (hb.mono hX.size)⟩
  have HR : Hid (∀ wX, Below w4.heap.size w4 wX → Calls Tryz.prog 9 #[.slice ao k c'] wX fun e w' => e = .returned (.int .i64 (wrap64 (mst (nds F) : Nat))) ∧ Below w4.heap.size w4 w') := fun wX hX => (refMost_any ao k c' F wX (HN4.out.below hX) h1 h2).mono fun e w' ⟨he, hb⟩ => ⟨he, hX.trans (hb.mono hX.size)⟩
  obtain ⟨M, hM⟩ : ∃ M, M = wrap64 (mst (nds F) : Nat) := ⟨_, rfl⟩
  rw [← hM] at HM HR
  have HMe := hide hM
  have hMM : (M != M) = false := by simp
  clear hM hb4 HB1 HN HL
  rcases hAns with ⟨h, rfl⟩ | ⟨h0, l, own, ib, hc0, ho, ht, rfl, hib, hB⟩
  · have hz1 : (check (nds F) != 0) = true := by simpa using h
    clear h
    generalize check (nds F) = z at *
    go_wp2_with (first
      | (go_at_call 8; refine (HM.out _ (by first | exact Below.refl _ _ | exact E5.out)).mono ?_; rintro e w5 ⟨rfl, hb5⟩; have E5 := hide hb5; clear hb5)
      | (go_at_call 9; refine (HR.out _ (by first | exact E5.out | exact Below.refl _ _)).mono ?_; rintro e w6 ⟨rfl, hb6⟩; have E6 := hide hb6; clear hb6))
    go_ret
    exact ⟨rfl, E4.out.trans (E6.out.mono E4.out.size)⟩
  · obtain ⟨hg, hs⟩ := ht.good ho
    have hz := ht.size ho
    have hsh : isz l own ≤ mst (nds F) := by rw [← mst_canon hc0]; exact ht.short ho
    have hst := most_bd h0 hc0 ht
    have hMv : M = (mst (nds F) : Nat) := by
      rw [HMe.out]
      unfold wrap64
      omega
    have hle : decide (((isz l own : Nat) : Int) ≤ M) = true := by rw [hMv]; simp; omega
    have hsz : (isb l own).size = ((isz l own : Nat) : Int) := by unfold isb sbl isz; simp only []
    have HG := hide hg
    have HS := hide hs
    have HB := hide hB
    generalize isz l own = sz at *
    generalize im l own = I at *
    generalize isb l own = SB at *
    clear hg hs hB hc0 ho ht h0 hib hsh hst hMv HMe
    go_wp2_with (first
      | (go_at_call 8; refine (HM.out _ (by first | exact Below.refl _ _ | exact E5.out)).mono ?_; rintro e w5 ⟨rfl, hb5⟩; have E5 := hide hb5; clear hb5)
      | (go_at_call 9; refine (HR.out _ (by first | exact E5.out | exact Below.refl _ _)).mono ?_; rintro e w6 ⟨rfl, hb6⟩; have E6 := hide hb6; clear hb6)
      | (go_at_call 10; refine (New_any w6).mono ?_))
    rintro r w7 ⟨rfl, hb7⟩
    obtain ⟨C, hC⟩ : ∃ C, C = tab ent := ⟨_, rfl⟩
    rw [← hC]
    have HCt := hide hC
    have HB7 := hide hb7
    clear hC hb7
    go_wp2_with (refine wpList_store_table rfl _ _ rfl ent C HCt.out rfl rfl _ (by simp) ?_; intro w8 ht8 hT8 hlt8 hb8)
    have b68 : Below w6.heap.size w6 w8 := HB7.out.trans (hb8.mono HB7.out.size)
    have b48 : Below w4.heap.size w4 w8 := E6.out.trans (b68.mono E6.out.size)
    have b08 : Below w.heap.size w w8 := E4.out.trans (b48.mono E4.out.size)
    have HTk := hide (sTake_any w7.heap.size sz sz ent (some ⟨ib, 0, none⟩) I w8 small_ent hT8 hlt8 (HW.out.below b08 HW.out.pos) (HB.out.below b48) (by omega))
    have HB48 := hide b48
    clear ht8 hT8 hb8 b68 b48 b08 HCt HB7
    refine HTk.out.mono ?_
    rintro r w9 ⟨⟨_, rfl⟩ | ⟨hng, _⟩, hb9⟩
    · rw [HS.out]
      have HB49 : Hid (Below w4.heap.size w4 w9) := HB48.out.trans (hb9.mono HB48.out.size)
      clear hb9 HTk HG HS HB
      unfold sbv
      rw [hsz]
      have HA : Hid (∀ o, Below w4.heap.size w4 (w9.alloc o)) := fun o => HB49.out.alloc HB49.out.size o
      go_wp2_with (go_at_call 8; refine (HM.out _ (by exact HA.out _)).mono ?_; rintro e w10 ⟨rfl, hb10⟩)
      go_ret
      exact ⟨rfl, E4.out.trans (hb10.mono E4.out.size)⟩
    · exact absurd HG.out hng
end Go.Proofs.YtoohanojfoichaaGreatDoor

/- What the proof stands on: BldFew, with what the proof reaches of it. -/
import Derived.Test.YtchcejjoncihkaaGreatDoorJNamRow

/- Layer 14: few: at most 40 nodes, each of them cut. (As layer 7's, with other bounds.) -/
namespace Go.Proofs.YtchcejjoncihkaaGreatDoor
set_option linter.unusedVariables false
open Go.RowKit Go.Maps
open Nam Tre

namespace Tre
/-- A node that is cut. -/
def cut (n : Nod) : Nod := { n with names := n.names.take 18, data := n.data.take 1500, xs := n.xs.take 10 }
end Tre
def cutv (v : Nv) : Nv := { v with nn := min v.nn 18, dn := min v.dn 1500, xn := min v.xn 10 }
theorem rep_cut {w : World} {v : Nv} {n : Nod} (h : Rep w v n) : Rep w (cutv v) (Tre.cut n) where
  names := by
    have := h.names.take (min v.nn 18) (by omega)
    have e : n.names.take (min v.nn 18) = n.names.take 18 := by rw [← h.names.1, Nat.min_comm, ← List.take_take, List.take_length]
    rw [e] at this; exact this
  nc := by have := h.nc; show min v.nn 18 ≤ v.nc; omega
  ncm := h.ncm
  nnil := h.nnil
  ino := h.ino
  in64 := h.in64
  kind := h.kind
  mode := h.mode
  uid := h.uid
  gid := h.gid
  data := by
    have := h.data.take (min v.dn 1500) (by omega)
    have e : n.data.take (min v.dn 1500) = n.data.take 1500 := by rw [← h.data.1, Nat.min_comm, ← List.take_take, List.take_length]
    rw [e] at this; exact this
  dc := by have := h.dc; show min v.dn 1500 ≤ v.dc; omega
  dcm := h.dcm
  dnil := h.dnil
  tg := h.tg
  tgm := h.tgm
  xs := by
    have := h.xs.take (min v.xn 10) (by omega)
    have e : n.xs.take (min v.xn 10) = n.xs.take 10 := by rw [← h.xs.1, Nat.min_comm, ← List.take_take, List.take_length]
    rw [e] at this; exact this
  xc := by have := h.xc; show min v.xn 10 ≤ v.xc; omega
  xcm := h.xcm
  xnil := h.xnil
  op := h.op
/-- What few leaves of a row. -/
def fewL (L : List (Nv × Nod)) : List (Nv × Nod) := (L.take 40).map (fun p => (cutv p.1, Tre.cut p.2))
theorem fewL_length (L : List (Nv × Nod)) : (fewL L).length = min 40 L.length := by simp [fewL]
theorem fewL_rep {w : World} {L : List (Nv × Nod)} (h : ∀ p ∈ L, Rep w p.1 p.2) : ∀ p ∈ fewL L, Rep w p.1 p.2 := by
  intro p hp
  simp only [fewL, List.mem_map] at hp
  obtain ⟨q, hq, rfl⟩ := hp
  exact rep_cut (h q (List.mem_of_mem_take hq))
theorem fewL_take (L : List (Nv × Nod)) (i : Nat) (h : i < L.length) (h2 : i < 40) : ((fewL L).take (i + 1)).map (·.1) = ((fewL L).take i).map (·.1) ++ [cutv (gl L i).1] := by
  rw [List.take_succ_eq_append_getElem (by rw [fewL_length]; omega), List.map_append, gl_lt L i h]
  simp [fewL]
set_option maxRecDepth 100000 in
set_option maxHeartbeats 1000000 in
theorem few_any (a : Option Addr) (n c : Nat) (L : List (Nv × Nod)) (w : World) (hl : Ns w a n L) (hc : n ≤ c) (hcm : c ≤ 9223372036854775807) :
    Calls Tryz.prog 9 #[.slice a n c] w fun e w' => ∃ ao k c', e = .returned (.slice ao k c') ∧ k ≤ 40 ∧ w'.ownsRow w.heap.size 37 10 (.slice ao k c') k (nvs ((fewL L).map (·.1))) ∧ Ns w' ao k (fewL L) ∧ Below w.heap.size w w' := by
  have HL := hide hl
  have HLN := hide hl.1
  clear hl
  go_enter Tryz.func9, Tryz.ntmps9
  go_wp2
  go_loopw [3, 4, 5] (fun r3 r _ wr => ∃ (i : Nat) (ao : Option Addr) (c' : Nat), r3 = .slice ao i c' ∧ r = .int .i64 i ∧ i ≤ n ∧ i ≤ 40 ∧ w.heap.size < wr.heap.size ∧ wr.ownsRow w.heap.size 37 10 (.slice ao i c') i (nvs (((fewL L).take i).map (·.1))) ∧ Below w.heap.size w wr) (fun _ r _ _ => n - (intOf r).toNat)
  case atStart => exact ⟨0, _, _, rfl, rfl, Nat.zero_le _, by omega, by simp, emptyN (Nat.le_refl _), (Below.refl _ _).alloc (Nat.le_refl _) _⟩
  case round =>
    obtain ⟨i, ao, c', rfl, rfl, hi0, hi60, hsz, hown, hbel⟩ := hrel
    have HB := hide hbel
    have HO := hide hown
    by_cases hi : i < n
    · have hd : decide ((i : Int) < n) = true := by simpa using hi
      by_cases h60 : i < 40
      · have hd2 : decide ((i : Int) < 40) = true := by simp; omega
        obtain ⟨ba, oa, rfl, hba, hca⟩ := (HL.out.below hbel).at (by omega)
        obtain ⟨c0, c1, c2, c3, c4, c5, c6, c7, c8, c9⟩ := hca i hi
        have hr := HL.out.rep i hi
        have HT := hide (fewL_take L i (by rw [HLN.out]; exact hi) h60)
        have x1 := hr.nc
        have x2 := hr.ncm
        have x3 := hr.dc
        have x4 := hr.dcm
        have x5 := hr.xc
        have x6 := hr.xcm
        generalize (gl L i).1 = v at *
        obtain ⟨V, hV⟩ : ∃ V, V = ((fewL L).take i).map (·.1) := ⟨_, rfl⟩
        rw [← hV] at hown HT
        have HO2 := hide hown
        clear hca hr hown hbel HO hV
        by_cases h1 : 18 < v.nn
        all_goals by_cases h2 : 1500 < v.dn
        all_goals by_cases h3 : 10 < v.xn
        · have HCV : Hid (cutv v = ⟨v.na, 18, v.nc, v.ino, v.kind, v.mode, v.uid, v.gid, v.da, 1500, v.dc, v.tg, v.xa, 10, v.xc, v.op⟩) := by show _ = _; simp only [cutv]; congr 1 <;> omega
          have g1 : (18 : Int) < v.nn := by omega
          have g2 : (1500 : Int) < v.dn := by omega
          have g3 : (10 : Int) < v.xn := by omega
          rw [HCV.out] at HT
          go_wp2_with (at_builtin; refine wpList_append_nod _ rfl _ _ rfl w.heap.size _ _ _ V rfl ((HO2.out.alloc _).alloc _) _ _ _ _ rfl (sh_one' (v := ⟨v.na, 18, v.nc, v.ino, v.kind, v.mode, v.uid, v.gid, v.da, 1500, v.dc, v.tg, v.xa, 10, v.xc, v.op⟩) (by simp)) (fun h => by cases h) (by omega) (by simp; omega) ?_)
          intro ao2 k2 w2 hown2 hg2
          rw [← HT.out] at hown2
          have e2 := hide (((HB.out.alloc (by omega) _).alloc (by simp; omega) _).grown hg2 (by simp; omega) (fun k e => (HO2.out.lt k e).1))
          have s2 := hg2.size
          simp only [World.size_alloc] at s2
          have HO3 := hide hown2
          clear hown2 hg2 HCV HT
          go_wp2
          exact ⟨⟨i + 1, ao2, k2, rfl, by go_num, by omega, by omega, by omega, HO3.out, e2.out⟩, by simp [intOf]; omega⟩
        · have HCV : Hid (cutv v = ⟨v.na, 18, v.nc, v.ino, v.kind, v.mode, v.uid, v.gid, v.da, 1500, v.dc, v.tg, v.xa, v.xn, v.xc, v.op⟩) := by show _ = _; simp only [cutv]; congr 1 <;> omega
          have g1 : (18 : Int) < v.nn := by omega
          have g2 : (1500 : Int) < v.dn := by omega
          have g3 : ¬ (10 : Int) < v.xn := by omega
          rw [HCV.out] at HT
          go_wp2_with (at_builtin; refine wpList_append_nod _ rfl _ _ rfl w.heap.size _ _ _ V rfl ((HO2.out.alloc _).alloc _) _ _ _ _ rfl (sh_one' (v := ⟨v.na, 18, v.nc, v.ino, v.kind, v.mode, v.uid, v.gid, v.da, 1500, v.dc, v.tg, v.xa, v.xn, v.xc, v.op⟩) (by simp)) (fun h => by cases h) (by omega) (by simp; omega) ?_)
          intro ao2 k2 w2 hown2 hg2
          rw [← HT.out] at hown2
          have e2 := hide (((HB.out.alloc (by omega) _).alloc (by simp; omega) _).grown hg2 (by simp; omega) (fun k e => (HO2.out.lt k e).1))
          have s2 := hg2.size
          simp only [World.size_alloc] at s2
          have HO3 := hide hown2
          clear hown2 hg2 HCV HT
          go_wp2
          exact ⟨⟨i + 1, ao2, k2, rfl, by go_num, by omega, by omega, by omega, HO3.out, e2.out⟩, by simp [intOf]; omega⟩
        · have HCV : Hid (cutv v = ⟨v.na, 18, v.nc, v.ino, v.kind, v.mode, v.uid, v.gid, v.da, v.dn, v.dc, v.tg, v.xa, 10, v.xc, v.op⟩) := by show _ = _; simp only [cutv]; congr 1 <;> omega
          have g1 : (18 : Int) < v.nn := by omega
          have g2 : ¬ (1500 : Int) < v.dn := by omega
          have g3 : (10 : Int) < v.xn := by omega
          rw [HCV.out] at HT
          go_wp2_with (at_builtin; refine wpList_append_nod _ rfl _ _ rfl w.heap.size _ _ _ V rfl ((HO2.out.alloc _).alloc _) _ _ _ _ rfl (sh_one' (v := ⟨v.na, 18, v.nc, v.ino, v.kind, v.mode, v.uid, v.gid, v.da, v.dn, v.dc, v.tg, v.xa, 10, v.xc, v.op⟩) (by simp)) (fun h => by cases h) (by omega) (by simp; omega) ?_)
          intro ao2 k2 w2 hown2 hg2
          rw [← HT.out] at hown2
          have e2 := hide (((HB.out.alloc (by omega) _).alloc (by simp; omega) _).grown hg2 (by simp; omega) (fun k e => (HO2.out.lt k e).1))
          have s2 := hg2.size
          simp only [World.size_alloc] at s2
          have HO3 := hide hown2
          clear hown2 hg2 HCV HT
          go_wp2
          exact ⟨⟨i + 1, ao2, k2, rfl, by go_num, by omega, by omega, by omega, HO3.out, e2.out⟩, by simp [intOf]; omega⟩
        · have HCV : Hid (cutv v = ⟨v.na, 18, v.nc, v.ino, v.kind, v.mode, v.uid, v.gid, v.da, v.dn, v.dc, v.tg, v.xa, v.xn, v.xc, v.op⟩) := by show _ = _; simp only [cutv]; congr 1 <;> omega
          have g1 : (18 : Int) < v.nn := by omega
          have g2 : ¬ (1500 : Int) < v.dn := by omega
          have g3 : ¬ (10 : Int) < v.xn := by omega
          rw [HCV.out] at HT
          go_wp2_with (at_builtin; refine wpList_append_nod _ rfl _ _ rfl w.heap.size _ _ _ V rfl ((HO2.out.alloc _).alloc _) _ _ _ _ rfl (sh_one' (v := ⟨v.na, 18, v.nc, v.ino, v.kind, v.mode, v.uid, v.gid, v.da, v.dn, v.dc, v.tg, v.xa, v.xn, v.xc, v.op⟩) (by simp)) (fun h => by cases h) (by omega) (by simp; omega) ?_)
          intro ao2 k2 w2 hown2 hg2
          rw [← HT.out] at hown2
          have e2 := hide (((HB.out.alloc (by omega) _).alloc (by simp; omega) _).grown hg2 (by simp; omega) (fun k e => (HO2.out.lt k e).1))
          have s2 := hg2.size
          simp only [World.size_alloc] at s2
          have HO3 := hide hown2
          clear hown2 hg2 HCV HT
          go_wp2
          exact ⟨⟨i + 1, ao2, k2, rfl, by go_num, by omega, by omega, by omega, HO3.out, e2.out⟩, by simp [intOf]; omega⟩
        · have HCV : Hid (cutv v = ⟨v.na, v.nn, v.nc, v.ino, v.kind, v.mode, v.uid, v.gid, v.da, 1500, v.dc, v.tg, v.xa, 10, v.xc, v.op⟩) := by show _ = _; simp only [cutv]; congr 1 <;> omega
          have g1 : ¬ (18 : Int) < v.nn := by omega
          have g2 : (1500 : Int) < v.dn := by omega
          have g3 : (10 : Int) < v.xn := by omega
          rw [HCV.out] at HT
          go_wp2_with (at_builtin; refine wpList_append_nod _ rfl _ _ rfl w.heap.size _ _ _ V rfl ((HO2.out.alloc _).alloc _) _ _ _ _ rfl (sh_one' (v := ⟨v.na, v.nn, v.nc, v.ino, v.kind, v.mode, v.uid, v.gid, v.da, 1500, v.dc, v.tg, v.xa, 10, v.xc, v.op⟩) (by simp)) (fun h => by cases h) (by omega) (by simp; omega) ?_)
          intro ao2 k2 w2 hown2 hg2
          rw [← HT.out] at hown2
          have e2 := hide (((HB.out.alloc (by omega) _).alloc (by simp; omega) _).grown hg2 (by simp; omega) (fun k e => (HO2.out.lt k e).1))
          have s2 := hg2.size
          simp only [World.size_alloc] at s2
          have HO3 := hide hown2
          clear hown2 hg2 HCV HT
          go_wp2
          exact ⟨⟨i + 1, ao2, k2, rfl, by go_num, by omega, by omega, by omega, HO3.out, e2.out⟩, by simp [intOf]; omega⟩
        · have HCV : Hid (cutv v = ⟨v.na, v.nn, v.nc, v.ino, v.kind, v.mode, v.uid, v.gid, v.da, 1500, v.dc, v.tg, v.xa, v.xn, v.xc, v.op⟩) := by show _ = _; simp only [cutv]; congr 1 <;> omega
          have g1 : ¬ (18 : Int) < v.nn := by omega
          have g2 : (1500 : Int) < v.dn := by omega
          have g3 : ¬ (10 : Int) < v.xn := by omega
          rw [HCV.out] at HT
          go_wp2_with (at_builtin; refine wpList_append_nod _ rfl _ _ rfl w.heap.size _ _ _ V rfl ((HO2.out.alloc _).alloc _) _ _ _ _ rfl (sh_one' (v := ⟨v.na, v.nn, v.nc, v.ino, v.kind, v.mode, v.uid, v.gid, v.da, 1500, v.dc, v.tg, v.xa, v.xn, v.xc, v.op⟩) (by simp)) (fun h => by cases h) (by omega) (by simp; omega) ?_)
          intro ao2 k2 w2 hown2 hg2
          rw [← HT.out] at hown2
          have e2 := hide (((HB.out.alloc (by omega) _).alloc (by simp; omega) _).grown hg2 (by simp; omega) (fun k e => (HO2.out.lt k e).1))
          have s2 := hg2.size
          simp only [World.size_alloc] at s2
          have HO3 := hide hown2
          clear hown2 hg2 HCV HT
          go_wp2
          exact ⟨⟨i + 1, ao2, k2, rfl, by go_num, by omega, by omega, by omega, HO3.out, e2.out⟩, by simp [intOf]; omega⟩
        · have HCV : Hid (cutv v = ⟨v.na, v.nn, v.nc, v.ino, v.kind, v.mode, v.uid, v.gid, v.da, v.dn, v.dc, v.tg, v.xa, 10, v.xc, v.op⟩) := by show _ = _; simp only [cutv]; congr 1 <;> omega
          have g1 : ¬ (18 : Int) < v.nn := by omega
          have g2 : ¬ (1500 : Int) < v.dn := by omega
          have g3 : (10 : Int) < v.xn := by omega
          rw [HCV.out] at HT
          go_wp2_with (at_builtin; refine wpList_append_nod _ rfl _ _ rfl w.heap.size _ _ _ V rfl ((HO2.out.alloc _).alloc _) _ _ _ _ rfl (sh_one' (v := ⟨v.na, v.nn, v.nc, v.ino, v.kind, v.mode, v.uid, v.gid, v.da, v.dn, v.dc, v.tg, v.xa, 10, v.xc, v.op⟩) (by simp)) (fun h => by cases h) (by omega) (by simp; omega) ?_)
          intro ao2 k2 w2 hown2 hg2
          rw [← HT.out] at hown2
          have e2 := hide (((HB.out.alloc (by omega) _).alloc (by simp; omega) _).grown hg2 (by simp; omega) (fun k e => (HO2.out.lt k e).1))
          have s2 := hg2.size
          simp only [World.size_alloc] at s2
          have HO3 := hide hown2
          clear hown2 hg2 HCV HT
          go_wp2
          exact ⟨⟨i + 1, ao2, k2, rfl, by go_num, by omega, by omega, by omega, HO3.out, e2.out⟩, by simp [intOf]; omega⟩
        · have HCV : Hid (cutv v = ⟨v.na, v.nn, v.nc, v.ino, v.kind, v.mode, v.uid, v.gid, v.da, v.dn, v.dc, v.tg, v.xa, v.xn, v.xc, v.op⟩) := by show _ = _; simp only [cutv]; congr 1 <;> omega
          have g1 : ¬ (18 : Int) < v.nn := by omega
          have g2 : ¬ (1500 : Int) < v.dn := by omega
          have g3 : ¬ (10 : Int) < v.xn := by omega
          rw [HCV.out] at HT
          go_wp2_with (at_builtin; refine wpList_append_nod _ rfl _ _ rfl w.heap.size _ _ _ V rfl ((HO2.out.alloc _).alloc _) _ _ _ _ rfl (sh_one' (v := ⟨v.na, v.nn, v.nc, v.ino, v.kind, v.mode, v.uid, v.gid, v.da, v.dn, v.dc, v.tg, v.xa, v.xn, v.xc, v.op⟩) (by simp)) (fun h => by cases h) (by omega) (by simp; omega) ?_)
          intro ao2 k2 w2 hown2 hg2
          rw [← HT.out] at hown2
          have e2 := hide (((HB.out.alloc (by omega) _).alloc (by simp; omega) _).grown hg2 (by simp; omega) (fun k e => (HO2.out.lt k e).1))
          have s2 := hg2.size
          simp only [World.size_alloc] at s2
          have HO3 := hide hown2
          clear hown2 hg2 HCV HT
          go_wp2
          exact ⟨⟨i + 1, ao2, k2, rfl, by go_num, by omega, by omega, by omega, HO3.out, e2.out⟩, by simp [intOf]; omega⟩
      · have hd2 : decide ((i : Int) < 40) = false := by simp; omega
        have HF : Hid (i = 40) := by show _ = _; omega
        have HN : Hid (wr.ownsRow w.heap.size 37 10 (.slice ao i c') i (nvs ((fewL L).map (·.1))) ∧ Ns wr ao i (fewL L)) := by
          have e : (fewL L).take i = fewL L := List.take_of_length_le (by rw [fewL_length]; omega)
          rw [e] at hown
          exact ⟨hown, (sh_of_owns hown).ns (fewL_rep (HL.out.below hbel).2.1)⟩
        clear hown hbel HO
        go_wp2
        go_ret
        exact ⟨ao, i, c', rfl, by omega, HN.out.1, HN.out.2, HB.out⟩
    · have hd : decide ((i : Int) < n) = false := by simpa using hi
      have HN : Hid (wr.ownsRow w.heap.size 37 10 (.slice ao i c') i (nvs ((fewL L).map (·.1))) ∧ Ns wr ao i (fewL L)) := by
        have e : (fewL L).take i = fewL L := List.take_of_length_le (by rw [fewL_length, HLN.out]; omega)
        rw [e] at hown
        exact ⟨hown, (sh_of_owns hown).ns (fewL_rep (HL.out.below hbel).2.1)⟩
      clear hown hbel HO
      go_wp2
      go_ret
      exact ⟨ao, i, c', rfl, by omega, HN.out.1, HN.out.2, HB.out⟩
end Go.Proofs.YtchcejjoncihkaaGreatDoor

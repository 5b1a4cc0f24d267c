import Derived.Test.YtoohanojfoichaaGreatDoorOJFrgPure
import Derived.Test.YtoohanojfoichaaGreatDoorOMats
set_option linter.unusedVariables false
namespace Go.Proofs.YtoohanojfoichaaGreatDoor
open Go.RowKit Go.Maps
open Lz (g)
open Frm Mtr Frg
namespace Frg
def pre (L : Bl) (i : Nat) : Nat := ((L.take i).flatten).length
theorem pre_zero (L : Bl) : pre L 0 = 0 := rfl
theorem pre_succ (L : Bl) (i : Nat) (h : i < L.length) : pre L (i + 1) = pre L i + L[i].length := by
 unfold pre
 rw [List.take_succ_eq_append_getElem h]
 simp only [List.flatten_append, List.flatten_cons, List.flatten_nil, List.append_nil, List.length_append]
theorem flat_split (L : Bl) (i : Nat) (h : i < L.length) : L.flatten = (L.take i).flatten ++ (L[i] ++ (L.drop (i + 1)).flatten) := by
 conv => lhs; rw [← List.take_append_drop i L, List.drop_eq_getElem_cons h]
 simp only [List.flatten_append, List.flatten_cons]
theorem pre_le (L : Bl) (i : Nat) (h : i < L.length) : pre L i + L[i].length ≤ L.flatten.length := by
 rw [flat_split L i h]
 unfold pre
 rw [List.length_append, List.length_append]; omega
theorem pre_blk (L : Bl) (i : Nat) (h : i < L.length) : (L.flatten.take (pre L i + L[i].length)).drop (pre L i) = L[i] := by
 rw [flat_split L i h]
 have e : pre L i = (L.take i).flatten.length := rfl
 rw [e, List.take_length_add_append, List.drop_left, List.take_left]
def cel (L : Bl) (cb off i : Nat) : List Value := (List.range L.length).map fun j => if j < i then .slice (some ⟨cb, off + pre L j, none⟩) (L.getD j []).length (L.getD j []).length else .slice none 0 0
theorem cel_zero (L : Bl) (cb off : Nat) : cel L cb off 0 = List.replicate L.length (.slice none 0 0) := by
 unfold cel
 apply List.ext_getElem
 ·simp
 ·intro j h1 h2; simp
theorem cel_set (L : Bl) (cb off i : Nat) (h : i < L.length) : (cel L cb off i).set i (.slice (some ⟨cb, off + pre L i, none⟩) L[i].length L[i].length) = cel L cb off (i + 1) := by
 unfold cel
 apply List.ext_getElem
 ·simp
 ·intro j h1 h2
  rw [List.getElem_set]
  by_cases e : i = j
  ·subst e; simp [h]
  ·simp only [e, if_false, List.getElem_map, List.getElem_range]
   have : (j < i) = (j < i + 1) := by apply propext; omega
   simp only [this]
theorem cel_at (L : Bl) (cb off j : Nat) (h : j < L.length) : (cel L cb off L.length)[j]? = some (.slice (some ⟨cb, off + pre L j, none⟩) L[j].length L[j].length) := by
 simp [cel, h]
end Frg
structure Bks (w w' : World) (ao : Option Addr) (L : Bl) : Prop where
 bel : Below w.heap.size w w'
 each : ∀ i (h : i < L.length), ∃ gb A, ao = some ⟨gb, 0, none⟩ ∧ w.heap.size ≤ gb ∧ gb < w'.heap.size ∧ w'.cell? ⟨gb, i, none⟩ = some (.slice (some A) L[i].length L[i].length) ∧ Bs w' (some A) L[i].length L[i] ∧ w.heap.size ≤ A.block ∧ A.block < w'.heap.size
theorem made_rows (K : Nat) : (madeCells (Value.slice none 0 0).cells (K * 1)).toList = List.replicate K (.slice none 0 0) := by
 rw [Nat.mul_one]
 show (madeCells #[Value.slice none 0 0] K).toList = _
 rw [toList_madeCells_one]
set_option maxRecDepth 100000 in
set_option maxHeartbeats 1000000 in
theorem fBlocks_any (p : Nat) (O : Nat → Prop) (L : Bl) (w : World) (h : PkP w p O L) (hk : Ok L) (hL : L.length ≤ 100000) (hR : L.flatten.length ≤ 10000000) :
    Calls Tryz.prog 39 #[.pointer (some ⟨p, 0, none⟩)] w fun r w' => ∃ ao, r = .returned (.slice ao L.length L.length) ∧ Bks w w' ao L := by
  obtain ⟨i1, hi1, hz0, hz1, hz2⟩ := info_parts infoBytes
  obtain ⟨ro, rn, rc, so, sn, sc, hq⟩ := h
  obtain ⟨hlR, hlS⟩ := hq.len
  rw [szs_length] at hlS
  have HCl := hide (CloneRw_any rn rc ro L.flatten w hq.r.bs hq.r.2.2.1 hq.r.nil (by omega))
  have c0 := hq.pk.c0
  have HQ := hide hq
  have hk1 : ∀ i (h : i < L.length), 1 ≤ L[i].length ∧ L[i].length ≤ 128 := fun i h => hk _ (List.getElem_mem _)
  have HK := hide hk1
  have HLR := hide hlR
  have HLS := hide hlS
  rw [hlS] at hL ⊢
  rw [hlR] at hR
  clear hq hk hk1 hlR hlS
  go_enter Tryz.func39, Tryz.ntmps39
  go_wp2_with fail
  refine HCl.out.mono ?_
  rintro r w1 ⟨ao, c, rfl, hR1, hb1⟩
  have HR1 := hide hR1
  have Hb1 := hide hb1
  have HQ1 := hide (HQ.out.fr (Fr.of_below (S := fun _ => False) hb1) (fun _ _ h => h))
  have c1 := HQ1.out.pk.c1
  clear hR1 hb1 HCl HQ c0
  go_wp2_with (first
    | (at_make
       refine wpList_make_full _ rfl _ _ 91 rfl w1.heap.size 25 i1 (.slice none 0 0) 1 Tryz.underlying91 hi1 hz0 hz1 _ _ _ _ sn (by rfl) (by rfl) rfl rfl (by rw [hz2]; omega) (by unfold maxLen; omega) (Nat.le_refl _) ?_
       intro w2 o2 k2
       rw [made_rows] at o2
       have HO2 := hide o2
       have Hb2 : Hid (Below w1.heap.size w1 w2) := (Below.refl _ w1).grown k2 (Nat.le_refl _) (fun k e => by simp at e)
       have HQ2 := hide (HQ1.out.fr (Fr.of_below (S := fun _ => False) Hb2.out) (fun _ _ h => h))
       have c12 := HQ2.out.pk.c1
       clear o2 k2 c1))
  obtain ⟨cb, off, hao⟩ : ∃ cb off, 0 < sn → ao = some ⟨cb, off, none⟩ ∧ cb < w1.heap.size ∧ w.heap.size ≤ cb ∧ Seg w1 cb off L.flatten := by
    have hR := HR1.out
    rcases hR.2.2.2.2 with ⟨h1, h2⟩ | ⟨gb, o, h1, h2, ⟨cur, h3⟩, h4, _⟩
    · refine ⟨0, 0, fun h0 => ?_⟩
      have h5 := pre_le L 0 (by rw [HLS.out]; exact h0)
      have h6 := HK.out 0 (by rw [HLS.out]; exact h0)
      have h7 := hR.2.2.1
      have h8 := HLR.out
      omega
    · exact ⟨gb, o, fun _ => ⟨h1, heap_lt h3, h2, fun i hi => h4 i (by rw [← hR.1]; exact hi)⟩⟩
  have hrc := HR1.out.2.2.1
  have hcm := HR1.out.2.2.2.1
  unfold maxLen at hcm
  have HAO := hide hao
  clear hao
  have HE : Hid (List.replicate sn (Value.slice none 0 0) = cel L cb off 0) := by show _ = _; rw [cel_zero, HLS.out]
  go_loopw [3, 23] (fun s3 s23 wr => ∃ (r3 : Option Addr) (i : Nat), s3 = .slice r3 (rn - pre L i) (c - pre L i) ∧ s23 = .int .i64 i ∧ i ≤ sn ∧ (i < sn → r3 = some ⟨cb, off + pre L i, none⟩) ∧
      wr.ownsRow w1.heap.size 25 1 (.slice (some ⟨w1.heap.size, 0, none⟩) sn sn) sn (cel L cb off i) ∧ Below w1.heap.size w1 wr) (fun _ s23 _ => sn - (intOf s23).toNat)
  case atStart => exact ⟨ao, 0, by rw [pre_zero]; rfl, rfl, Nat.zero_le _, fun h0 => by rw [pre_zero]; exact (HAO.out h0).1, by rw [← HE.out]; exact HO2.out, Hb2.out⟩
  case round =>
    obtain ⟨r3, i, rfl, rfl, hi, hr3, hO, hB⟩ := hrel
    have HB := hide hB
    have HO := hide hO
    by_cases hgo : i < sn
    · have hg1 : (i : Int) < (sn : Int) := by omega
      obtain rfl := hr3 hgo
      have hiL : i < L.length := by rw [HLS.out]; exact hgo
      have hQr := HQ1.out.fr (Fr.of_below (S := fun _ => False) hB) (fun _ _ h => h)
      obtain ⟨b, so', rfl, _, hsc⟩ := (Zs.of hQr.s).at (by omega)
      have hci := hsc i hgo
      rw [szs_at L i hiL] at hci
      have hm := HK.out i hiL
      have hpl := pre_le L i hiL
      rw [HLR.out] at hpl
      have HPs := hide (pre_succ L i hiL)
      have HSt := hide (hO.stored i (.slice (some ⟨cb, off + pre L i, none⟩) L[i].length L[i].length))
      rw [cel_set L cb off i hiL] at HSt
      have hcell : wr.cell? ⟨w1.heap.size, i, none⟩ = some (.slice none 0 0) := by
        rw [hO.cellAt i (by omega)]
        simp [cel, hiL]
      have hfr := hO.frozenAt i
      obtain ⟨m, hme⟩ : ∃ m, L[i].length = m := ⟨_, rfl⟩
      rw [hme] at hci hm hpl HPs HSt
      obtain ⟨P, hPe⟩ : ∃ P, pre L i = P := ⟨_, rfl⟩
      rw [hPe] at hpl HPs HSt ⊢
      obtain ⟨q, hqe⟩ : ∃ q, rn - P = q := ⟨_, rfl⟩
      obtain ⟨qc, hqc⟩ : ∃ qc, c - P = qc := ⟨_, rfl⟩
      rw [hqe, hqc]
      have hq1 : m ≤ q := by omega
      have hq2 : q ≤ qc := by omega
      have hq3 : qc ≤ 9223372036854775807 := by omega
      have HQe := hide hqe
      have HQc := hide hqc
      clear hsc hQr hme hPe hqe hqc hr3 hO hB
      go_wp2
      go_roundw
      case rel =>
        have h1 := HQe.out
        have h2 := HQc.out
        refine ⟨_, i + 1, by rw [HPs.out, show rn - (P + m) = q - m by omega, show c - (P + m) = qc - m by omega], by go_num, by omega, fun h3 => ?_, HSt.out.1, HB.out.grown HSt.out.2 HB.out.size (fun k e => by simp at e; omega)⟩
        have h4 := pre_le L (i + 1) (by rw [HLS.out]; exact h3)
        have h5 := HK.out (i + 1) (by rw [HLS.out]; exact h3)
        rw [HPs.out, HLR.out] at h4
        rw [if_neg (by omega), HPs.out, Nat.add_assoc]
      case measure => simp [intOf]; omega
    · obtain rfl : i = sn := by omega
      have hg1 : ¬ (i : Int) < (i : Int) := by omega
      have HX : Hid (∃ ao, Ending.returned (.slice (some ⟨w1.heap.size, 0, none⟩) i i) = .returned (.slice ao i i) ∧ Bks w wr ao L) := by
        refine ⟨_, rfl, Hb1.out.trans (hB.mono Hb1.out.size), fun j hj => ?_⟩
        have hj' : j < i := by rw [← HLS.out]; exact hj
        obtain ⟨_, h2, h3, h4⟩ := HAO.out (by omega)
        have hs := hB.size
        have hc := hO.cellAt j (by omega)
        have hpl := pre_le L j hj
        refine ⟨w1.heap.size, ⟨cb, off + pre L j, none⟩, rfl, Hb1.out.size, (hO.lt _ (by simp [Value.ownBlock])).2, ?_, ⟨rfl, fun k => ?_, .inr ⟨cb, off + pre L j, rfl, by omega, ?_⟩⟩, h3, by show cb < _; omega⟩
        · rw [hc, ← HLS.out]
          exact cel_at L cb off j hj
        · have := (HR1.out.bs.2.1)
          have hb := bytes_cut this (pre L j) (pre L j + L[j].length) k
          rw [pre_blk L j hj] at hb
          exact hb
        · have := (h4.below hB h2).cut (pre L j) (pre L j + L[j].length)
          rw [pre_blk L j hj] at this
          exact this
      clear hr3 hO hB HO HB c12 HQ2 hgo
      go_wp2
      go_ret
      exact HX.out
end Go.Proofs.YtoohanojfoichaaGreatDoor

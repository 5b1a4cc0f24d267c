/- Layer 8: whether a superblock may be, by the document's answer. -/
import Derived.Test.YthghodmjpdooaaaDoorSupMay
import Derived.Test.YthghodmjpdooaaaDoorSupBlock
namespace Go.Proofs.YthghodmjpdooaaaDoor
set_option linter.unusedVariables false
open Go.RowKit Go.Maps
open Sup

def plv (s : Sb) : Array Value := #[.int .i64 64, .int .i64 s.inodeAt, .int .i64 s.dirAt, .int .i64 s.fragAt, .int .i64 s.idAt, .int .i64 s.xattrAt, .int .i64 s.size, .int .i64 1048576]
set_option maxRecDepth 100000 in
theorem refPlaces_any (s : Sb) (w : World) : Calls Tryd.prog 24 #[.agg (sv s)] w fun e w' => ∃ b, e = .returned (.slice (some ⟨b, 0, none⟩) 8 8) ∧ w.heap.size ≤ b ∧ w'.heap[b]? = some (.cells (plv s) 3 (0, 0)) ∧ Below w.heap.size w w' := by
  unfold sv
  go_enter Tryd.func24, Tryd.ntmps24
  go_wp2
  go_ret
  exact ⟨w.heap.size + 1, rfl, by omega, heap_new (by simp), ((Below.refl _ _).alloc (Nat.le_refl _) _).alloc (by simp) _⟩
theorem plv_at (s : Sb) (i : Nat) (hi : i < 8) : (plv s)[i]? = some (.int .i64 (pl s i)) := by
  match i, hi with
  | 0, _ => rfl
  | 1, _ => rfl
  | 2, _ => rfl
  | 3, _ => rfl
  | 4, _ => rfl
  | 5, _ => rfl
  | 6, _ => rfl
  | 7, _ => rfl
theorem not_srt {s : Sb} (i : Nat) (hi : i < 7) (h : pl s (i + 1) < pl s i) : s.srt = false := by
  rw [← rises_pl]
  unfold rises
  rw [decide_eq_false_iff_not]
  intro hh
  have := hh i (by omega)
  omega
theorem is_srt {s : Sb} (h : ∀ j, j < 7 → pl s j ≤ pl s (j + 1)) : s.srt = true := by
  rw [← rises_pl]
  unfold rises
  rw [decide_eq_true_eq]
  exact h
theorem may_of {s : Sb} (h : s.srt = true) : s.may = (inn s.inodes 1 1024 && inn s.ids 1 2048 && inn s.frags 0 1024 && inn s.root 0 4294967295) := by
  unfold Sb.may; rw [h]; rfl
set_option maxRecDepth 100000 in
set_option maxHeartbeats 4000000 in
theorem refMay_any (s : Sb) (w : World) : Calls Tryd.prog 13 #[.agg (sv s)] w fun e w' => e = .returned (.bool s.may) ∧ Below w.heap.size w w' := by
  obtain ⟨C, hC⟩ : ∃ C, C = sv s := ⟨_, rfl⟩
  have hp := refPlaces_any s
  rw [← hC] at hp
  have HI : Hid ((Tryd.prog.info? 23).map (·.size) = some C.size) := by rw [hC]; exact infoSuper
  obtain ⟨w1, hw1⟩ : ∃ w1, w1 = w.alloc (.cells C 23) := ⟨_, rfl⟩
  have hb1 : w1.heap[w.heap.size]? = some (.cells C 23 (0, 0)) := by rw [hw1]; exact heap_new rfl
  have b1 : Below w.heap.size w w1 := by rw [hw1]; exact (Below.refl _ _).alloc (Nat.le_refl _) _
  have hlt1 := heap_lt hb1
  have HW1 := hide hw1
  have HB1 := hide b1
  have HC := hide hC
  rw [← hC]
  clear hw1 b1 hC
  go_enter Tryd.func13, Tryd.ntmps13
  go_wp2_with (refine wpList_load_row rfl _ _ rfl w.heap.size rfl 23 C (0, 0) _ (heap_alloc_new w _) Tryd.underlying23 rfl HI.out ?_)
  rw [← HW1.out]
  refine (hp w1).mono ?_
  rintro r w2 ⟨b, rfl, hb, hpl, b2⟩
  have HB2 : Hid (Below w.heap.size w w2) := HB1.out.trans (b2.mono HB1.out.size)
  have hb2 : w2.heap[w.heap.size]? = some (.cells C 23 (0, 0)) := (b2.block _ hlt1).trans hb1
  have HP : Hid (∀ i, i < 8 → w2.cell? ⟨b, i, none⟩ = some (.int .i64 (pl s i))) := fun i hi => by rw [cell_of_row _ _ _ _ _ _ hpl, plv_at s i hi]
  rw [HC.out] at hb2
  have HCb := hide hb2
  clear hpl b2 hp hb2
  go_wp2
  go_loopw [4] (fun s4 wr => ∃ i q : Nat, s4 = .int .i64 i ∧ 1 ≤ i ∧ i ≤ 8 ∧ wr = w2.drewN q ∧ ∀ j, j + 1 < i → pl s j ≤ pl s (j + 1)) (fun s4 _ => 8 - (intOf s4).toNat)
  case atStart => exact ⟨1, 0, rfl, by omega, by omega, rfl, fun j h => by omega⟩
  case round =>
    obtain ⟨i, q, rfl, hi1, hi, hWq, hinv⟩ := hrel
    have HV := hide hinv
    have HQ := hide hWq
    have HPr : Hid (∀ i, i < 8 → wr.cell? ⟨b, i, none⟩ = some (.int .i64 (pl s i))) := fun i hi => by rw [hWq, ← HP.out i hi]; simp
    have HBr : Hid (∀ n, Below w.heap.size w (wr.drewN n)) := fun n => by rw [hWq]; exact below_drewN (below_drewN HB2.out _) _
    have hcb : wr.heap[w.heap.size]? = some (.cells (sv s) 23 (0, 0)) := by rw [hWq]; exact HCb.out
    have HCr := hide hcb
    clear hinv hWq hcb
    by_cases hlt : i < 8
    · have hlt' : (i : Int) < 8 := by omega
      obtain ⟨t, ht⟩ : ∃ t, i = t + 1 := ⟨i - 1, by omega⟩
      have HT := hide ht
      have c1 := HPr.out t (by omega)
      have c2 := HPr.out i hlt
      have ht8 : (t : Int) < 8 := by omega
      have hw1 : IntKind.i64.wrap ((i : Int) - 1) = t := by rw [IntKind.wrap_i64]; omega
      clear ht
      by_cases hd : pl s i < pl s t
      · have hd' : decide (pl s i < pl s t) = true := by simpa using hd
        have HF : Hid (s.may = false) := by
          show _ = _
          unfold Sb.may
          rw [not_srt t (by have := HT.out; omega) (by rw [← HT.out]; exact hd)]; rfl
        go_wp2
        go_quiet (fail)
        go_wp2
        go_ret
        exact ⟨ret_bool HF.out.symm, HBr.out _⟩
      · have hd' : decide (pl s i < pl s t) = false := by simpa using hd
        go_wp2
        go_quiet (fail)
        go_wp2
        go_roundw
        case rel =>
          have ht := HT.out
          refine ⟨i + 1, _, by go_num, by omega, by omega, by rw [HQ.out, World.drewN_drewN], fun j hj => ?_⟩
          by_cases e : j = t
          · subst e; rw [← ht]; omega
          · exact HV.out j (by omega)
        case measure => simp [intOf]; omega
    · obtain rfl : i = 8 := by omega
      have hm := may_of (is_srt (fun j hj => HV.out j (by omega)))
      have hcell : ∀ i, wr.cell? ⟨w.heap.size, i, none⟩ = (sv s)[i]? := fun i => cell_of_row _ _ _ _ _ _ HCr.out
      have c1 : wr.cell? ⟨w.heap.size, 1, none⟩ = some (.int .i64 s.inodes) := hcell 1
      have c7 : wr.cell? ⟨w.heap.size, 7, none⟩ = some (.int .i64 s.ids) := hcell 7
      have c8 : wr.cell? ⟨w.heap.size, 8, none⟩ = some (.int .i64 s.frags) := hcell 8
      have c9 : wr.cell? ⟨w.heap.size, 9, none⟩ = some (.int .i64 s.root) := hcell 9
      clear hcell
      have HB0 : Hid (Below w.heap.size w wr) := by rw [HQ.out]; exact below_drewN HB2.out _
      by_cases h0 : 1 ≤ s.inodes
      rotate_left
      · have HF : Hid (s.may = false) := by show _ = _; rw [hm]; simp [inn, h0]
        have d0 : decide (1 ≤ s.inodes) = false := by simpa using h0
        clear hm
        go_wp2
        go_ret
        exact ⟨ret_bool HF.out.symm, HB0.out⟩
      by_cases h1 : s.inodes ≤ 1024
      rotate_left
      · have HF : Hid (s.may = false) := by show _ = _; rw [hm]; simp [inn, h0, h1]
        have d1 : decide (s.inodes ≤ 1024) = false := by simpa using h1
        clear hm
        go_wp2
        go_ret
        exact ⟨ret_bool HF.out.symm, HB0.out⟩
      by_cases h2 : 1 ≤ s.ids
      rotate_left
      · have HF : Hid (s.may = false) := by show _ = _; rw [hm]; simp [inn, h0, h1, h2]
        have d2 : decide (1 ≤ s.ids) = false := by simpa using h2
        clear hm
        go_wp2
        go_ret
        exact ⟨ret_bool HF.out.symm, HB0.out⟩
      by_cases h3 : s.ids ≤ 2048
      rotate_left
      · have HF : Hid (s.may = false) := by show _ = _; rw [hm]; simp [inn, h0, h1, h2, h3]
        have d3 : decide (s.ids ≤ 2048) = false := by simpa using h3
        clear hm
        go_wp2
        go_ret
        exact ⟨ret_bool HF.out.symm, HB0.out⟩
      by_cases h4 : 0 ≤ s.frags
      rotate_left
      · have HF : Hid (s.may = false) := by show _ = _; rw [hm]; simp [inn, h0, h1, h2, h3, h4]
        have d4 : decide (0 ≤ s.frags) = false := by simpa using h4
        clear hm
        go_wp2
        go_ret
        exact ⟨ret_bool HF.out.symm, HB0.out⟩
      by_cases h5 : s.frags ≤ 1024
      rotate_left
      · have HF : Hid (s.may = false) := by show _ = _; rw [hm]; simp [inn, h0, h1, h2, h3, h4, h5]
        have d5 : decide (s.frags ≤ 1024) = false := by simpa using h5
        clear hm
        go_wp2
        go_ret
        exact ⟨ret_bool HF.out.symm, HB0.out⟩
      by_cases h6 : 0 ≤ s.root
      rotate_left
      · have HF : Hid (s.may = false) := by show _ = _; rw [hm]; simp [inn, h0, h1, h2, h3, h4, h5, h6]
        have d6 : decide (0 ≤ s.root) = false := by simpa using h6
        clear hm
        go_wp2
        go_ret
        exact ⟨ret_bool HF.out.symm, HB0.out⟩
      by_cases h7 : s.root ≤ 4294967295
      rotate_left
      · have HF : Hid (s.may = false) := by show _ = _; rw [hm]; simp [inn, h0, h1, h2, h3, h4, h5, h6, h7]
        have d7 : decide (s.root ≤ 4294967295) = false := by simpa using h7
        clear hm
        go_wp2
        go_ret
        exact ⟨ret_bool HF.out.symm, HB0.out⟩
      have HF : Hid (s.may = true) := by show _ = _; rw [hm]; simp [inn, h0, h1, h2, h3, h4, h5, h6, h7]
      clear hm
      go_wp2
      go_ret
      exact ⟨ret_bool HF.out.symm, HB0.out⟩
end Go.Proofs.YthghodmjpdooaaaDoor

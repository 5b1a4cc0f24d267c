/- Layer 9: whether a record may be, by the document's answer. -/
import Derived.Test.YtmhgjilpgbkaaaaInoKind
namespace Go.Proofs.Ytmhgjilpgbkaaaa
set_option linter.unusedVariables false
open Go.RowKit Go.Maps
open Cur
open Ino

namespace Ino
def HeadP (s : Rec) : Prop := (0 ≤ s.mode ∧ s.mode ≤ 511) ∧ (0 ≤ s.uid ∧ s.uid ≤ 2047) ∧ (0 ≤ s.gid ∧ s.gid ≤ 2047) ∧ (1 ≤ s.links ∧ s.links ≤ 1024) ∧ (0 ≤ s.xattr ∧ s.xattr ≤ 4294967295)
theorem head_iff {s : Rec} : s.headOk = true ↔ HeadP s := by
  unfold Rec.headOk HeadP inn
  simp only [Bool.and_eq_true, decide_eq_true_eq, and_assoc]
theorem may_dir {s : Rec} (hk : s.kind = 1) : s.may = true ↔ HeadP s ∧ s.links = 1 ∧ (0 ≤ s.start ∧ s.start ≤ 4294967295) ∧ (0 ≤ s.size ∧ s.size ≤ 1048576) ∧ s.frag = 0 ∧ s.off = 0 ∧ s.target.toList.isEmpty = true := by
  unfold Rec.may Rec.ownOk
  rw [if_pos hk, Bool.and_eq_true, head_iff]
  unfold Rec.dirOk inn emp
  simp only [Bool.and_eq_true, decide_eq_true_eq, beq_iff_eq, and_assoc]
theorem may_file {s : Rec} (hk : s.kind = 2) : s.may = true ↔ HeadP s ∧ (0 ≤ s.start ∧ s.start ≤ 4294967295) ∧ (0 ≤ s.size ∧ s.size ≤ 4096) ∧ (0 ≤ s.frag ∧ s.frag ≤ 1024) ∧ ((s.size.tmod 128 != 0) = (s.frag != 0)) ∧ (0 ≤ s.off ∧ s.off ≤ 127) ∧ (s.off = 0 ∨ s.frag ≠ 0) ∧ s.target.toList.isEmpty = true := by
  unfold Rec.may Rec.ownOk
  rw [if_neg (by omega), if_pos hk, Bool.and_eq_true, head_iff]
  unfold Rec.fileOk inn emp
  simp only [Bool.and_eq_true, decide_eq_true_eq, beq_iff_eq, Bool.or_eq_true, bne_iff_ne, and_assoc]
theorem may_file2 {s : Rec} (hk : s.kind = 2) : s.may = true ↔ HeadP s ∧ (0 ≤ s.start ∧ s.start ≤ 4294967295) ∧ (0 ≤ s.size ∧ s.size ≤ 4096) ∧ (0 ≤ s.frag ∧ s.frag ≤ 1024) ∧ (0 < s.size % 128 ↔ 0 < s.frag) ∧ (0 ≤ s.off ∧ s.off ≤ 127) ∧ (s.off = 0 ∨ s.frag ≠ 0) ∧ s.target.toList.isEmpty = true := by
  rw [may_file hk]
  constructor
  · rintro ⟨h1, h2, h3, h4, h5, h6⟩
    refine ⟨h1, h2, h3, h4, ?_, h6⟩
    rw [Int.tmod_eq_emod_of_nonneg h3.1, Bool.eq_iff_iff, bne_iff_ne, bne_iff_ne] at h5
    omega
  · rintro ⟨h1, h2, h3, h4, h5, h6⟩
    refine ⟨h1, h2, h3, h4, ?_, h6⟩
    rw [Int.tmod_eq_emod_of_nonneg h3.1, Bool.eq_iff_iff, bne_iff_ne, bne_iff_ne]
    omega
theorem may_link {s : Rec} (hk : s.kind = 3) : s.may = true ↔ HeadP s ∧ (1 ≤ (s.target.size : Int) ∧ (s.target.size : Int) ≤ 200) ∧ nz s.target = true ∧ s.start = 0 ∧ s.size = 0 ∧ s.frag = 0 ∧ s.off = 0 := by
  unfold Rec.may Rec.ownOk
  rw [if_neg (by omega), if_neg (by omega), if_pos hk, Bool.and_eq_true, head_iff]
  unfold Rec.linkOk inn
  simp only [Bool.and_eq_true, decide_eq_true_eq, beq_iff_eq, and_assoc]
theorem sb_at (t : ByteArray) (i : Nat) (h : i < t.size) : (sb t).getD i 0 = (t[i].toNat : Int) := by
  have h2 : i < t.data.size := h
  unfold sb
  rw [List.getD_eq_getElem?_getD, List.getElem?_map, Array.getElem?_toList, Array.getElem?_eq_getElem h2]
  rfl
theorem nz_iff (t : ByteArray) : nz t = true ↔ ∀ i, i < t.size → (sb t).getD i 0 ≠ 0 := by
  unfold nz
  rw [decide_eq_true_eq]
  constructor
  · intro h i hi
    have hl : i < (sb t).length := by rw [sb_length]; exact hi
    rw [List.getD_eq_getElem?_getD, List.getElem?_eq_getElem hl]
    exact h _ (List.getElem_mem hl)
  · intro h x hx
    obtain ⟨i, hi, rfl⟩ := List.getElem_of_mem hx
    have := h i (by rw [← sb_length]; exact hi)
    rw [List.getD_eq_getElem?_getD, List.getElem?_eq_getElem hi] at this
    exact this
end Ino
theorem Ino.no_head {s : Rec} (h : ¬ HeadP s) : s.may = false := by
  cases hq : s.may
  case false => rfl
  case true =>
    unfold Rec.may at hq
    rw [Bool.and_eq_true, head_iff] at hq
    exact absurd hq.1 h
set_option maxRecDepth 100000 in
set_option maxHeartbeats 4000000 in
theorem refMay_head (s : Rec) (w : World) (hN : ¬ HeadP s) : Calls Try.prog 13 #[.agg (iv s)] w fun e w' => e = .returned (.bool s.may) ∧ Below w.heap.size w w' := by
  have HB := hide (below_one w)
  have HM := hide (no_head hN)
  unfold HeadP at hN
  unfold iv
  by_cases l_mode : s.mode < 0
  · clear hN
    go_enter Try.func13, Try.ntmps13
    go_wp2
    go_ret
    exact ⟨ret_bool HM.out.symm, HB.out _⟩
  have g_mode : 0 ≤ s.mode := by omega
  have d_mode : decide (s.mode < 0) = false := by simpa using l_mode
  clear l_mode
  by_cases u_mode : 511 < s.mode
  · clear hN
    go_enter Try.func13, Try.ntmps13
    go_wp2
    go_ret
    exact ⟨ret_bool HM.out.symm, HB.out _⟩
  have k_mode : s.mode ≤ 511 := by omega
  have e_mode : decide (511 < s.mode) = false := by simpa using u_mode
  clear u_mode
  by_cases l_uid : s.uid < 0
  · clear hN
    go_enter Try.func13, Try.ntmps13
    go_wp2
    go_ret
    exact ⟨ret_bool HM.out.symm, HB.out _⟩
  have g_uid : 0 ≤ s.uid := by omega
  have d_uid : decide (s.uid < 0) = false := by simpa using l_uid
  clear l_uid
  by_cases u_uid : 2047 < s.uid
  · clear hN
    go_enter Try.func13, Try.ntmps13
    go_wp2
    go_ret
    exact ⟨ret_bool HM.out.symm, HB.out _⟩
  have k_uid : s.uid ≤ 2047 := by omega
  have e_uid : decide (2047 < s.uid) = false := by simpa using u_uid
  clear u_uid
  by_cases l_gid : s.gid < 0
  · clear hN
    go_enter Try.func13, Try.ntmps13
    go_wp2
    go_ret
    exact ⟨ret_bool HM.out.symm, HB.out _⟩
  have g_gid : 0 ≤ s.gid := by omega
  have d_gid : decide (s.gid < 0) = false := by simpa using l_gid
  clear l_gid
  by_cases u_gid : 2047 < s.gid
  · clear hN
    go_enter Try.func13, Try.ntmps13
    go_wp2
    go_ret
    exact ⟨ret_bool HM.out.symm, HB.out _⟩
  have k_gid : s.gid ≤ 2047 := by omega
  have e_gid : decide (2047 < s.gid) = false := by simpa using u_gid
  clear u_gid
  by_cases l_links : s.links < 1
  · clear hN
    go_enter Try.func13, Try.ntmps13
    go_wp2
    go_ret
    exact ⟨ret_bool HM.out.symm, HB.out _⟩
  have g_links : 1 ≤ s.links := by omega
  have d_links : decide (s.links < 1) = false := by simpa using l_links
  clear l_links
  by_cases u_links : 1024 < s.links
  · clear hN
    go_enter Try.func13, Try.ntmps13
    go_wp2
    go_ret
    exact ⟨ret_bool HM.out.symm, HB.out _⟩
  have k_links : s.links ≤ 1024 := by omega
  have e_links : decide (1024 < s.links) = false := by simpa using u_links
  clear u_links
  by_cases l_xattr : s.xattr < 0
  · clear hN
    go_enter Try.func13, Try.ntmps13
    go_wp2
    go_ret
    exact ⟨ret_bool HM.out.symm, HB.out _⟩
  have g_xattr : 0 ≤ s.xattr := by omega
  have d_xattr : decide (s.xattr < 0) = false := by simpa using l_xattr
  clear l_xattr
  by_cases u_xattr : 4294967295 < s.xattr
  · clear hN
    go_enter Try.func13, Try.ntmps13
    go_wp2
    go_ret
    exact ⟨ret_bool HM.out.symm, HB.out _⟩
  have k_xattr : s.xattr ≤ 4294967295 := by omega
  have e_xattr : decide (4294967295 < s.xattr) = false := by simpa using u_xattr
  clear u_xattr
  omega
set_option maxRecDepth 100000 in
set_option maxHeartbeats 4000000 in
theorem refMay_none (s : Rec) (w : World) (hk : isKind s.kind = false) (hH : HeadP s) : Calls Try.prog 13 #[.agg (iv s)] w fun e w' => e = .returned (.bool s.may) ∧ Below w.heap.size w w' := by
  have HB := hide (below_one w)
  have HM := hide (may_kind hk)
  obtain ⟨⟨g_mode, k_mode⟩, ⟨g_uid, k_uid⟩, ⟨g_gid, k_gid⟩, ⟨g_links, k_links⟩, g_xattr, k_xattr⟩ := hH
  have d_mode : decide (s.mode < 0) = false := by simpa using g_mode
  have e_mode : decide (511 < s.mode) = false := by simpa using k_mode
  have d_uid : decide (s.uid < 0) = false := by simpa using g_uid
  have e_uid : decide (2047 < s.uid) = false := by simpa using k_uid
  have d_gid : decide (s.gid < 0) = false := by simpa using g_gid
  have e_gid : decide (2047 < s.gid) = false := by simpa using k_gid
  have d_links : decide (s.links < 1) = false := by simpa using g_links
  have e_links : decide (1024 < s.links) = false := by simpa using k_links
  have d_xattr : decide (s.xattr < 0) = false := by simpa using g_xattr
  have e_xattr : decide (4294967295 < s.xattr) = false := by simpa using k_xattr
  unfold isKind at hk
  simp only [decide_eq_false_iff_not, not_or] at hk
  have h1 : (s.kind == 1) = false := by simpa using hk.1
  have h2 : (s.kind == 2) = false := by simpa using hk.2.1
  have h3 : (s.kind == 3) = false := by simpa using hk.2.2
  clear hk
  unfold iv
  go_enter Try.func13, Try.ntmps13
  go_wp2
  go_ret
  exact ⟨ret_bool HM.out.symm, HB.out _⟩
set_option maxRecDepth 100000 in
set_option maxHeartbeats 4000000 in
theorem refMay_dir (s : Rec) (w : World) (hk : s.kind = 1) (hH : HeadP s) : Calls Try.prog 13 #[.agg (iv s)] w fun e w' => e = .returned (.bool s.may) ∧ Below w.heap.size w w' := by
  have HB := hide (below_one w)
  have HD := hide (may_dir hk)
  have HH := hide hH
  obtain ⟨⟨g_mode, k_mode⟩, ⟨g_uid, k_uid⟩, ⟨g_gid, k_gid⟩, ⟨g_links, k_links⟩, g_xattr, k_xattr⟩ := hH
  have d_mode : decide (s.mode < 0) = false := by simpa using g_mode
  have e_mode : decide (511 < s.mode) = false := by simpa using k_mode
  have d_uid : decide (s.uid < 0) = false := by simpa using g_uid
  have e_uid : decide (2047 < s.uid) = false := by simpa using k_uid
  have d_gid : decide (s.gid < 0) = false := by simpa using g_gid
  have e_gid : decide (2047 < s.gid) = false := by simpa using k_gid
  have d_links : decide (s.links < 1) = false := by simpa using g_links
  have e_links : decide (1024 < s.links) = false := by simpa using k_links
  have d_xattr : decide (s.xattr < 0) = false := by simpa using g_xattr
  have e_xattr : decide (4294967295 < s.xattr) = false := by simpa using k_xattr
  unfold iv
  rw [hk]
  clear hk
  go_enter Try.func13, Try.ntmps13
  go_wp2
  all_goals go_ret
  all_goals refine ⟨ret_bool ?_, HB.out _⟩
  all_goals first
    | (refine (Bool.eq_false_iff.2 (fun h => ?_)).symm; have := (HD.out.1 h).2; omega)
    | (rw [Bool.eq_iff_iff, HD.out]; exact ⟨fun h => ⟨HH.out, by assumption, by omega, by omega, by assumption, by assumption, h⟩, fun h => h.2.2.2.2.2.2⟩)
set_option maxRecDepth 100000 in
set_option maxHeartbeats 4000000 in
theorem refMay_file (s : Rec) (w : World) (hk : s.kind = 2) (hH : HeadP s) : Calls Try.prog 13 #[.agg (iv s)] w fun e w' => e = .returned (.bool s.may) ∧ Below w.heap.size w w' := by
  have HB := hide (below_one w)
  have HD := hide (may_file2 hk)
  have HH := hide hH
  obtain ⟨⟨g_mode, k_mode⟩, ⟨g_uid, k_uid⟩, ⟨g_gid, k_gid⟩, ⟨g_links, k_links⟩, g_xattr, k_xattr⟩ := hH
  have d_mode : decide (s.mode < 0) = false := by simpa using g_mode
  have e_mode : decide (511 < s.mode) = false := by simpa using k_mode
  have d_uid : decide (s.uid < 0) = false := by simpa using g_uid
  have e_uid : decide (2047 < s.uid) = false := by simpa using k_uid
  have d_gid : decide (s.gid < 0) = false := by simpa using g_gid
  have e_gid : decide (2047 < s.gid) = false := by simpa using k_gid
  have d_links : decide (s.links < 1) = false := by simpa using g_links
  have e_links : decide (1024 < s.links) = false := by simpa using k_links
  have d_xattr : decide (s.xattr < 0) = false := by simpa using g_xattr
  have e_xattr : decide (4294967295 < s.xattr) = false := by simpa using k_xattr
  unfold iv
  rw [hk]
  clear hk
  go_enter Try.func13, Try.ntmps13
  go_wp2
  all_goals go_ret
  all_goals refine ⟨ret_bool ?_, HB.out _⟩
  all_goals first
    | (refine (Bool.eq_false_iff.2 (fun h => ?_)).symm; have := (HD.out.1 h).2; omega)
    | (refine (Bool.eq_false_iff.2 (fun h => ?_)).symm
       have hq := (HD.out.1 h).2
       rename_i hh
       rcases hh with hh | hh
       · omega
       · have hz : ¬ (0 < s.frag ↔ 0 < s.size % 128) := by
           by_cases a : 0 < s.frag <;> by_cases b : 0 < s.size % 128 <;> simp [a, b] at hh ⊢
         omega)
    | (have hb : ((((0 ≤ s.size ∧ s.size ≤ 4096) ∧ 0 ≤ s.frag) ∧ s.frag ≤ 1024) ∧ (!decide (0 < s.frag) == decide (0 < s.size % 128)) = false) := by assumption
       have hz : (0 < s.frag ↔ 0 < s.size % 128) := by
         have hh := hb.2
         by_cases a : 0 < s.frag <;> by_cases b : 0 < s.size % 128 <;> simp [a, b] at hh ⊢
       rw [Bool.eq_iff_iff, HD.out]
       simp only [Bool.and_eq_true, Bool.or_eq_true, decide_eq_true_eq, beq_iff_eq]
       exact ⟨fun h => ⟨HH.out, by omega, by omega, by omega, by omega, by omega, by omega, h.2⟩, fun h => ⟨by omega, h.2.2.2.2.2.2.2⟩⟩)
    | (have hb : ((((0 ≤ s.size ∧ s.size ≤ 4096) ∧ 0 ≤ s.frag) ∧ s.frag ≤ 1024) ∧ (!decide (0 < s.frag) == decide (0 < s.size % 128)) = false) := by assumption
       have hz : (0 < s.frag ↔ 0 < s.size % 128) := by
         have hh := hb.2
         by_cases a : 0 < s.frag <;> by_cases b : 0 < s.size % 128 <;> simp [a, b] at hh ⊢
       rw [Bool.eq_iff_iff, HD.out]
       exact ⟨fun h => ⟨HH.out, by omega, by omega, by omega, by omega, by omega, by omega, h⟩, fun h => h.2.2.2.2.2.2.2⟩)
set_option maxRecDepth 100000 in
set_option maxHeartbeats 4000000 in
theorem refMay_link (s : Rec) (w : World) (hk : s.kind = 3) (hH : HeadP s) (ht : s.target.size ≤ 9223372036854775807) : Calls Try.prog 13 #[.agg (iv s)] w fun e w' => e = .returned (.bool s.may) ∧ Below w.heap.size w w' := by
  have HB := hide (below_one w)
  have HD := hide (may_link hk)
  have HH := hide hH
  obtain ⟨⟨g_mode, k_mode⟩, ⟨g_uid, k_uid⟩, ⟨g_gid, k_gid⟩, ⟨g_links, k_links⟩, g_xattr, k_xattr⟩ := hH
  have d_mode : decide (s.mode < 0) = false := by simpa using g_mode
  have e_mode : decide (511 < s.mode) = false := by simpa using k_mode
  have d_uid : decide (s.uid < 0) = false := by simpa using g_uid
  have e_uid : decide (2047 < s.uid) = false := by simpa using k_uid
  have d_gid : decide (s.gid < 0) = false := by simpa using g_gid
  have e_gid : decide (2047 < s.gid) = false := by simpa using k_gid
  have d_links : decide (s.links < 1) = false := by simpa using g_links
  have e_links : decide (1024 < s.links) = false := by simpa using k_links
  have d_xattr : decide (s.xattr < 0) = false := by simpa using g_xattr
  have e_xattr : decide (4294967295 < s.xattr) = false := by simpa using k_xattr
  obtain ⟨w1, hw1⟩ : ∃ w1, w1 = w.alloc (.cells (iv s) 23) := ⟨_, rfl⟩
  have hb1 : w1.heap[w.heap.size]? = some (.cells (iv s) 23 (0, 0)) := by rw [hw1]; exact heap_new rfl
  have hcell : ∀ k, w1.cell? ⟨w.heap.size, k, none⟩ = (iv s)[k]? := fun k => cell_of_row _ _ _ _ _ _ hb1
  have c6 : w1.cell? ⟨w.heap.size, 6, none⟩ = some (.int .i64 s.start) := hcell 6
  have c7 : w1.cell? ⟨w.heap.size, 7, none⟩ = some (.int .i64 s.size) := hcell 7
  have c8 : w1.cell? ⟨w.heap.size, 8, none⟩ = some (.int .i64 s.frag) := hcell 8
  have c9 : w1.cell? ⟨w.heap.size, 9, none⟩ = some (.int .i64 s.off) := hcell 9
  have c10 : w1.cell? ⟨w.heap.size, 10, none⟩ = some (.string s.target) := hcell 10
  have HBw : Hid (Below w.heap.size w w1) := by rw [hw1]; exact below_one _ _
  have HW1 := hide hw1
  clear hw1 hb1 hcell
  unfold iv at HW1 ⊢
  rw [hk] at HW1 ⊢
  clear hk
  go_enter Try.func13, Try.ntmps13
  go_wp2
  rw [← HW1.out]
  go_loopw [3] (fun s3 wr => ∃ i : Nat, s3 = .int .i64 i ∧ i ≤ s.target.size ∧ wr = w1 ∧ ∀ j, j < i → (sb s.target).getD j 0 ≠ 0) (fun s3 _ => s.target.size - (intOf s3).toNat)
  case atStart => exact ⟨0, rfl, by omega, rfl, fun j h => by omega⟩
  case round =>
    obtain ⟨i, rfl, hi, hwr, hinv⟩ := hrel
    obtain rfl := hwr
    have HV := hide hinv
    clear hinv
    by_cases hlt : i < s.target.size
    · have hlt' : (i : Int) < (s.target.size : Int) := by omega
      have hat := sb_at s.target i hlt
      cases hz : ((s.target[i].toNat : Int) == 0)
      case true =>
        have HM : Hid (s.may = false) := Bool.eq_false_iff.2 (fun h => by
          have h1 := (nz_iff _).1 (HD.out.1 h).2.2.1 i hlt
          rw [hat] at h1
          exact h1 (by simpa using hz))
        clear hat
        go_wp2
        go_ret
        exact ⟨ret_bool HM.out.symm, HBw.out⟩
      case false =>
        have HZ : Hid ((sb s.target).getD i 0 ≠ 0) := by show _ ≠ _; rw [hat]; simpa using hz
        clear hat
        go_wp2
        go_roundw
        case rel =>
          refine ⟨i + 1, by go_num, by omega, trivial, fun j hj => ?_⟩
          by_cases e : j = i
          · subst e; exact HZ.out
          · exact HV.out j (by omega)
        case measure => simp [intOf]; omega
    · have hie : i = s.target.size := by omega
      have HN : Hid (nz s.target = true) := (nz_iff _).2 (fun j hj => HV.out j (by omega))
      have hlt' : decide ((i : Int) < (s.target.size : Int)) = false := by simp; omega
      have hlt2 : ¬ i < s.target.size := hlt
      clear hie
      go_wp2
      all_goals go_ret
      all_goals refine ⟨ret_bool ?_, HBw.out⟩
      all_goals first
        | (refine (Bool.eq_false_iff.2 (fun h => ?_)).symm; have h1 := (HD.out.1 h).2; omega)
        | (rw [Bool.eq_iff_iff, HD.out]; simp only [beq_iff_eq]; exact ⟨fun h => ⟨HH.out, by omega, HN.out, by omega, by omega, by omega, h⟩, fun h => h.2.2.2.2.2.2⟩)
theorem refMay_any (s : Rec) (w : World) (ht : s.target.size ≤ 9223372036854775807) : Calls Try.prog 13 #[.agg (iv s)] w fun e w' => e = .returned (.bool s.may) ∧ Below w.heap.size w w' := by
  by_cases hH : HeadP s
  · cases hk : isKind s.kind
    case false => exact refMay_none s w hk hH
    case true =>
      rcases kinds hk with h | h | h
      · exact refMay_dir s w h hH
      · exact refMay_file s w h hH
      · exact refMay_link s w h hH ht
  · exact refMay_head s w hH
end Go.Proofs.Ytmhgjilpgbkaaaa

/- The walk of the reader's take where the frame was not taken yet, or the table has changed since. -/
import Derived.Test.YtmhgjilpgbkaaaaMetTake
import Derived.Deep.RegionHeld3
namespace Go.Proofs.Ytmhgjilpgbkaaaa
set_option linter.unusedVariables false
open Go.RowKit Go.Maps
open Lz (g)
open Crc (ent)
open Frm Mtr

/-- What is known of the world w3 in which the map is looked at: the frame is not there. -/
structure Pk (w w3 : World) (p tb N fn fc m : Nat) (O : Nat → Prop) (T : Nat → Nat) (X : List Int) (fo : Option Addr) (q : Int) (N2 : Nat) (U2 : Nat → Nat) (D2 : DataW Value) : Prop where
  rd : RdM' w3 p O tb T X N2 fo fn fc m U2 D2
  le : N2 ≤ N
  sm : ∀ i, i < 256 → U2 i = T i
  no : has D2 (.int .i64 q) = false
  fr : Fr O w w3
  tb : Tb w3 tb T
  bk : w3.heap[w.heap.size]? = some (.cells #[.slice none 0 0, .int .i64 0] 104 (0, 0))
theorem Pk.run {w w3 : World} {p tb N fn fc m : Nat} {O : Nat → Prop} {T : Nat → Nat} {X : List Int} {fo : Option Addr} {q : Int} {N2 : Nat} {U2 : Nat → Nat} {D2 : DataW Value} (h : Pk w w3 p tb N fn fc m O T X fo q N2 U2 D2) (hq : 0 ≤ q ∧ q ≤ 9223372036854775807) :
    (Instr.lookup 77 (.map (some m)) (.int .i64 q) true).run Try.prog w3 = .ok (.tuple #[.agg #[.slice none 0 0, .int .i64 0], .bool false]) w3 ∧ w3.cell? ⟨p, 3, none⟩ = some (.map (some m)) ∧
    w3.cell? ⟨w.heap.size, 0, none⟩ = some (.slice none 0 0) ∧ w3.cell? ⟨w.heap.size, 1, none⟩ = some (.int .i64 0) ∧ w3.frozen? ⟨w.heap.size, 0, none⟩ = false ∧ w3.frozen? ⟨w.heap.size, 1, none⟩ = false := by
  have hwf : (Lit.int .i64 q).wf = true := WalkArith.wf_i64 (by omega)
  refine ⟨?_, h.rd.rb.2.2.2.2.1, by rw [cell_of_row _ _ 0 _ _ _ h.bk]; rfl, by rw [cell_of_row _ _ 1 _ _ _ h.bk]; rfl, by simp [World.frozen?, h.bk], by simp [World.frozen?, h.bk]⟩
  rcases look_held h.rd.map q hwf with ⟨e, _⟩ | ⟨_, _, e, _⟩
  · exact e
  · rw [h.no] at e; simp at e

set_option maxRecDepth 100000 in
set_option maxHeartbeats 1000000 in
theorem take_miss (p tb N fn fc m : Nat) (O : Nat → Prop) (T U : Nat → Nat) (X : List Int) (fo : Option Addr) (D : DataW Value) (q : Int) (w : World) (h : RdM' w p O tb T X N fo fn fc m U D) (hT : Tb w tb T) (htb : tb < w.heap.size) (hOt : ¬ O tb) (hS : Small T)
    (hq : 0 ≤ q ∧ q ≤ 9223372036854775807) (hX : X.length ≤ 1000000) (hN : N ≤ 1000000000) (hh : eqT U T = true → has D (.int .i64 q) = false) :
    Calls Try.prog 71 #[.pointer (some ⟨p, 0, none⟩), .int .i64 q] w fun r w' => Gets w w' p tb N O T X q r := by
  obtain ⟨CL, hCL⟩ : ∃ CL, CL = (tab T).toList := ⟨_, rfl⟩
  have hC : CL.toArray = tab T := by rw [hCL]
  have hCn : CL.length = 256 := by rw [hCL, Array.length_toList, tab_size]
  obtain ⟨CU, hCU⟩ : ∃ CU, CU = tab U := ⟨_, rfl⟩
  obtain ⟨w1, hw1⟩ : ∃ w1, w1 = w.alloc (.cells #[.slice none 0 0, .int .i64 0] 104) := ⟨_, rfl⟩
  have hb1 : Below w.heap.size w w1 := by rw [hw1]; exact (Below.refl _ _).alloc (Nat.le_refl _) _
  have h1 := h.fr (Fr.of_below (S := fun _ => False) hb1) (fun _ _ => id)
  have hT1 := hT.below hb1 htb
  have rU : ∀ w', (∃ n, w' = w1.drewN n) → w'.rangeAt p 4 (tab U).toList := fun w' hn j v hv => by obtain ⟨n, rfl⟩ := hn; rw [← h1.rb.2.2.2.2.2 j v hv]; simp
  have rC : ∀ w', (∃ n, w' = w1.drewN n) → w'.rangeAt tb 0 (tab T).toList := fun w' hn j v hv => by obtain ⟨n, rfl⟩ := hn; rw [← tb_range hT1 j v hv]; simp
  have c0 := h1.rb.2.1
  have c3 := h1.rb.2.2.2.2.1
  have hs1 : w1.heap.size = w.heap.size + 1 := by rw [hw1]; simp
  have hq0 : w1.heap[w.heap.size]? = some (.cells #[.slice none 0 0, .int .i64 0] 104 (0, 0)) := by rw [hw1]; exact heap_alloc_new w _
  have hpm := h.rb.lt
  have hmm := h.map.lt
  have hne := h.ne
  have hOlt := h.lt
  have htm : tb ≠ m := fun e => hOt (by rw [e]; exact h.om)
  have htp : tb ≠ p := fun e => hOt (by rw [e]; exact h.op)
  obtain ⟨hz, hi'⟩ := zero_of_info infoTable
  have HW := hide hw1
  have HC := hide hC
  have HCU := hide hCU
  have HRU := hide rU
  have HRC := hide rC
  have HH1 := hide h1
  have HT1 := hide hT1
  have HQ0 := hide hq0
  have HB1 := hide hb1
  have HS := hide hS
  have HCL := hide hCL
  have HCn := hide hCn
  have HIL : Hid ((Try.prog.info? 36).map (·.size) = some CL.length) := by show _ = _; rw [hCn]; exact hi'
  have HIA : Hid ((Try.prog.info? 36).map (·.size) = some CL.toArray.size) := by show _ = _; rw [List.size_toArray, hCn]; exact hi'
  have HOne : Hid (CL.toArray.all (·.oneCell') = true) := by show _ = _; rw [hC]; exact tab_one T
  have HI : Hid ((Try.prog.info? 36).map (·.size) = some 256) := hi'
  clear hw1 hC hCL hCn hCU rU rC hT hT1 h h1 hq0 hz hi' hb1 hS
  rcases Bool.eq_false_or_eq_true (eqT U T) with he | he
  -- the table is as it was
  have HE := hide (show (!eqT U T) = false by rw [he]; rfl)
  have hh' := hh he
  have hU := eqT_true he
  clear he hh
  go_enter Try.func71, Try.ntmps71
  go_wp2_with fail
  rw [← HW.out]
  refine wp_region_quiet_lit (by kernel_rfl) (by kernel_rfl) ?_
  iterate 3 go_big_quiet_step (fail)
  refine wpQuiet_table (by rfl) _ rfl p 4 rfl U CU HCU.out HRU.out ?_
  simp only [Act.put, List.setIfInBounds_toArray, List.set_cons_zero, List.set_cons_succ]
  iterate 5 go_big_quiet_step (fail)
  refine wpQuiet_table (by rfl) _ rfl tb 0 rfl T CL.toArray HC.out HRC.out ?_
  simp only [Act.put, List.setIfInBounds_toArray, List.set_cons_zero, List.set_cons_succ]
  refine wpQuiet_neq (by rfl) _ _ _ rfl CU CL.toArray U T rfl rfl HCU.out HC.out false HE.out ?_
  simp only [Act.put, List.setIfInBounds_toArray, List.set_cons_zero, List.set_cons_succ]
  refine wpQuiet_nil ?_
  intro _ hw'
  obtain ⟨nq, hw''⟩ := hw'
  subst hw''
  obtain ⟨w3, hw3⟩ : ∃ w3, w3 = w1.drewN nq := ⟨_, rfl⟩
  have hP : ∃ N2 U2 D2, Pk w w3 p tb N fn fc m O T X fo q N2 U2 D2 := by
    rw [hw3]
    have f1 : Fr (fun _ => False) w1 (w1.drewN nq) := (Fr.refl (fun _ => False) w1).drewN nq
    exact ⟨N, U, D, HH1.out.fr f1 (fun _ _ => id), Nat.le_refl _, hU, hh', Fr.of_below (below_drewN HB1.out nq), HT1.out.fr f1 (by omega) id, (f1.block _ (by omega) id).trans HQ0.out⟩
  rw [← hw3]
  obtain ⟨N2, U2, D2, hP⟩ := hP
  obtain ⟨hrun, c33, q0, q1, f0, f1⟩ := hP.run hq
  have HP := hide hP
  clear hP hw3 hU hh' HE HRU HRC HH1 HT1 HQ0 HB1 HC HCL c0 c3
  go_wp2_with fail
  rotate_left
  -- it has changed
  have HE := hide (show (!eqT U T) = true by rw [he]; rfl)
  clear he hh
  go_enter Try.func71, Try.ntmps71
  go_wp2_with fail
  rw [← HW.out]
  refine wp_region_quiet_lit (by kernel_rfl) (by kernel_rfl) ?_
  iterate 3 go_big_quiet_step (fail)
  refine wpQuiet_table (by rfl) _ rfl p 4 rfl U CU HCU.out HRU.out ?_
  simp only [Act.put, List.setIfInBounds_toArray, List.set_cons_zero, List.set_cons_succ]
  iterate 5 go_big_quiet_step (fail)
  refine wpQuiet_table (by rfl) _ rfl tb 0 rfl T CL.toArray HC.out HRC.out ?_
  simp only [Act.put, List.setIfInBounds_toArray, List.set_cons_zero, List.set_cons_succ]
  refine wpQuiet_neq (by rfl) _ _ _ rfl CU CL.toArray U T rfl rfl HCU.out HC.out true HE.out ?_
  simp only [Act.put, List.setIfInBounds_toArray, List.set_cons_zero, List.set_cons_succ]
  refine wpQuiet_nil ?_
  intro _ hw'
  obtain ⟨nq, hw''⟩ := hw'
  subst hw''
  have HHq : Hid (RdM' (w1.drewN nq) p O tb T X N fo fn fc m U D) := HH1.out.fr ((Fr.refl (fun _ => False) w1).drewN nq) (fun _ _ => id)
  have c3q := HHq.out.rb.2.2.2.2.1
  have HTq : Hid (Tb (w1.drewN nq) tb T) := HT1.out
  go_wp2_with (first
    | (refine wpList_clear_own rfl _ rfl m N D rfl HHq.out.map ?_; intro w2 hm2 hg2; have HX := hide (HHq.out.cleared hm2 hg2); have rb2 := HX.out.2.2; have c02 := rb2.2.1; have HT2 : Hid (Tb w2 tb T) := (HTq.out.fr (Fr.of_grown (S := One m) hg2 (fun k hk => by cases hk; rfl)) (by show tb < w1.heap.size; omega) htm); have HRg2 : Hid (w2.rangeAt tb 0 CL) := (by show w2.rangeAt tb 0 CL; rw [HCL.out]; exact tb_range HT2.out); have HTh2 : Hid (w2.there p 4 CL.toArray.size) := (by show w2.there p 4 CL.toArray.size; rw [List.size_toArray, HCn.out]; exact rb2.there); have HG2 := hide hg2; clear rb2 hm2 hg2)
    | (refine wpList_load_mid rfl _ _ rfl tb 0 rfl CL _ HRg2.out Try.underlying36 rfl HIL.out ?_)
    | (refine wpList_store_mid rfl _ _ _ rfl p 4 CL.toArray rfl rfl HTh2.out HIA.out HOne.out ?_
       obtain ⟨w3, hw3⟩ : ∃ w3, w3 = w2.setCells p 4 CL.toArray.toList := ⟨_, rfl⟩
       have hP : ∃ N2 U2 D2, Pk w w3 p tb N fn fc m O T X fo q N2 U2 D2 := (by
         rw [hw3, HC.out]
         obtain ⟨x1, x2, _⟩ := HX.out
         have f2 : Fr (fun k => k = m ∨ k = p) (w1.drewN nq) (w2.setCells p 4 (tab T).toList) := (Fr.of_grown (S := fun k => k = m ∨ k = p) HG2.out (fun k hk => by cases hk; exact .inl rfl)).then (Fr.of_setCells _ _ _ _ _ (.inr rfl))
         refine ⟨0, T, .map [], x1, Nat.zero_le _, fun _ _ => rfl, rfl, ?_, ?_, ?_⟩
         · exact (Fr.of_below (S := O) HB1.out).then x2.undrewN
         · exact HTq.out.fr f2 (by show tb < w1.heap.size; omega) (fun e => by rcases e with e | e; exact htm e; exact htp e)
         · exact (f2.block _ (by show w.heap.size < w1.heap.size; omega) (fun e => by rcases e with e | e <;> omega)).trans HQ0.out)
       rw [← hw3]
       obtain ⟨N2, U2, D2, hP⟩ := hP
       obtain ⟨hrun, c33, q0, q1, f0, f1⟩ := hP.run hq
       have HP := hide hP
       clear hP hw3 HX HTq HHq HT2 HG2 HRg2 HTh2 c02 c3q HE HRU HRC HH1 HT1 HQ0 HB1 HC HCL c0 c3))
  all_goals (
    clear hrun
    obtain ⟨w4, hw4⟩ : ∃ w4, w4 = w3.alloc (.cells #[.slice none 0 0, .int .i64 0] 104) := ⟨_, rfl⟩
    have hb4 : Below w3.heap.size w3 w4 := by rw [hw4]; exact (Below.refl _ _).alloc (Nat.le_refl _) _
    have fr4 : Fr (fun _ => False) w3 w4 := Fr.of_below hb4
    have hr4 := HP.out.rd.fr fr4 (fun _ _ => id)
    have ht3 : tb < w3.heap.size := Nat.lt_of_lt_of_le htb HP.out.fr.size
    have hT4 := HP.out.tb.below hb4 ht3
    have c04 := hr4.rb.2.1
    have c24 := hr4.rb.2.2.2.1
    have hfl := hr4.bs.1
    have HK := hide (Take_any tb fn fc q T fo X w4.drew hT4 (by show tb < w4.heap.size; exact Nat.lt_of_lt_of_le ht3 hb4.size) HS.out hr4.bs hr4.cap hr4.nil (by omega) hr4.max (by omega))
    have HB4 := hide hb4
    rw [← hw4]
    have HW4 := hide hw4
    have hp4 : p < w4.heap.size := hr4.rb.lt
    clear hw4 hb4 fr4 hr4 hT4 q0 q1 f0 f1 c33 ht3 hfl
    go_region_held3 (fun wX => wX.cell? ⟨p, 0, none⟩ = some (.pointer (some ⟨tb, 0, none⟩)) ∧ wX.cell? ⟨p, 2, none⟩ = some (.slice fo fn fc)) (go_keep)
      ((first
        | (go_at_call 77; refine HK.out.mono ?_; rintro r w5 ⟨ao5, k5, rfl, hF5⟩; have HF5 := hide hF5; have c05 := (hF5.bel.cell (p := ⟨p, 0, none⟩) hp4).trans c04; have c25 := (hF5.bel.cell (p := ⟨p, 2, none⟩) hp4).trans c24; clear hF5)))
    have hb45 : Below w4.heap.size w4 w5 := ⟨HF5.out.bel.os, HF5.out.bel.tape, HF5.out.bel.output, HF5.out.bel.size, HF5.out.bel.block⟩
    have hb35 : Below w3.heap.size w3 w5 := HB4.out.trans (hb45.mono HB4.out.size)
    have hlt3 : w.heap.size < w3.heap.size := heap_lt HP.out.bk
    have bk5 : w5.heap[w.heap.size]? = some (.cells #[.slice none 0 0, .int .i64 0] 104 (0, 0)) := (hb35.block _ hlt3).trans HP.out.bk
    have HBK5 := hide bk5
    have HB35 := hide hb35
    have HFr5 : Hid (Fresh w3 w5 ao5 (take T X q).1.length k5 (take T X q).1) := by
      have := HF5.out
      exact (Fresh.from ⟨this.bs, this.cap, this.max, this.nil, hb45, this.new⟩ HB4.out)
    have q0 : w5.cell? ⟨w.heap.size, 0, none⟩ = some (.slice none 0 0) := by rw [cell_of_row _ _ 0 _ _ _ bk5]; rfl
    have q1 : w5.cell? ⟨w.heap.size, 1, none⟩ = some (.int .i64 0) := by rw [cell_of_row _ _ 1 _ _ _ bk5]; rfl
    have f0 : w5.frozen? ⟨w.heap.size, 0, none⟩ = false := by simp [World.frozen?, bk5]
    have f1 : w5.frozen? ⟨w.heap.size, 1, none⟩ = false := by simp [World.frozen?, bk5]
    have c35 := (HP.out.rd.fr (Fr.of_below (S := fun _ => False) hb35) (fun _ _ => id)).rb.2.2.2.2.1
    clear hb45 hb35 bk5 HF5 HK c04 c24 c05 c25
    rcases take_err T X q with h0 | h2
    · obtain ⟨w6, hw6⟩ : ∃ w6, w6 = w5.alloc (.cells #[.slice ao5 (take T X q).1.length k5, .int .i64 (take T X q).2.1] 104) := ⟨_, rfl⟩
      have hb56 : Below w5.heap.size w5 w6 := by rw [hw6]; exact (Below.refl _ _).alloc (Nat.le_refl _) _
      have hb36 : Below w3.heap.size w3 w6 := HB35.out.trans (hb56.mono HB35.out.size)
      have fr36 : Fr (fun _ => False) w3 w6 := Fr.of_below hb36
      have hr6 := HP.out.rd.fr fr36 (fun _ _ => id)
      have c36 := hr6.rb.2.2.2.2.1
      have bn6 : w6.heap[w5.heap.size]? = some (.cells #[.slice ao5 (take T X q).1.length k5, .int .i64 (take T X q).2.1] 104 (0, 0)) := by rw [hw6]; exact heap_alloc_new w5 _
      have hwf : (Lit.int .i64 q).wf = true := WalkArith.wf_i64 (by omega)
      have hN2 := HP.out.le
      obtain ⟨w7, hrun7, hm7, hg7⟩ := World.ownsMap.update (w := w6.drew) (t := 77) hr6.map mapKeyed Try.underlying77 (by unfold maxLen; omega) (keyOf_int_mk Try.underlying3 hwf) (show HR (.agg #[.slice ao5 (take T X q).1.length k5, .int .i64 (take T X q).2.1]) = some (.held _, []) from rfl)
      have hg67 : w6.grownBy w7 (some m) := ⟨hg7.os, hg7.tape, hg7.output, hg7.size, hg7.block⟩
      have f67 : Fr (One m) w6 w7 := Fr.of_grown hg67 (fun k hk => by cases hk; rfl)
      have hs6 := hb56.size
      have hs5 := HB35.out.size
      have hs3 := HP.out.fr.size
      have bn7 : w7.heap[w5.heap.size]? = some (.cells #[.slice ao5 (take T X q).1.length k5, .int .i64 (take T X q).2.1] 104 (0, 0)) := (f67.block _ (heap_lt bn6) (fun (e : _ = m) => by omega)).trans bn6
      have bk7 : w7.heap[w.heap.size]? = some (.cells #[.slice none 0 0, .int .i64 0] 104 (0, 0)) := (f67.block _ (by omega) (fun (e : _ = m) => by omega)).trans ((hb56.block _ (by omega)).trans HBK5.out)
      have c37 := (hr6.rb.fr f67 (fun (e : _ = m) => hne e.symm)).2.2.2.2.1
      have a06 : w6.cell? ⟨w5.heap.size, 0, none⟩ = some (.slice ao5 (take T X q).1.length k5) := by rw [cell_of_row _ _ 0 _ _ _ bn6]; rfl
      have a16 : w6.cell? ⟨w5.heap.size, 1, none⟩ = some (.int .i64 (take T X q).2.1) := by rw [cell_of_row _ _ 1 _ _ _ bn6]; rfl
      have a07 : w7.cell? ⟨w5.heap.size, 0, none⟩ = some (.slice ao5 (take T X q).1.length k5) := by rw [cell_of_row _ _ 0 _ _ _ bn7]; rfl
      have a17 : w7.cell? ⟨w5.heap.size, 1, none⟩ = some (.int .i64 (take T X q).2.1) := by rw [cell_of_row _ _ 1 _ _ _ bn7]; rfl
      have q07 : w7.cell? ⟨w.heap.size, 0, none⟩ = some (.slice none 0 0) := by rw [cell_of_row _ _ 0 _ _ _ bk7]; rfl
      have q17 : w7.cell? ⟨w.heap.size, 1, none⟩ = some (.int .i64 0) := by rw [cell_of_row _ _ 1 _ _ _ bk7]; rfl
      have f07 : w7.frozen? ⟨w.heap.size, 0, none⟩ = false := by simp [World.frozen?, bk7]
      have f17 : w7.frozen? ⟨w.heap.size, 1, none⟩ = false := by simp [World.frozen?, bk7]
      have HBK7 := hide bk7
      have HFin := hide (HP.out.rd.stored HP.out.sm hb36 h0 (HFr5.out.on hb56) hm7 hg67)
      have HW6 := hide hw6
      clear hw6 hb56 hb36 fr36 hr6 bn6 bn7 bk7 hm7 hg7 hg67 f67 q0 q1 f0 f1
      go_wp2_with fail
      rw [← HW6.out]
      go_region_held3 (fun wX => wX.cell? ⟨p, 3, none⟩ = some (.map (some m)) ∧ wX.cell? ⟨w5.heap.size, 0, none⟩ = some (.slice ao5 (take T X q).1.length k5) ∧ wX.cell? ⟨w5.heap.size, 1, none⟩ = some (.int .i64 (take T X q).2.1)) (go_keep) (fail)
      clear hrun7 c35 c36 a06 a16 HW6
      go_wp2_with fail
      refine bodyPost_ret (results_b2 rfl _ _ w.heap.size _ k5 ao5 (take T X q).2.1 rfl (two_set HBK7.out _ _)) rfl ?_
      obtain ⟨O', x1, x2, x3, x4⟩ := HFin.out
      have fs : Fr (One w.heap.size) w7 ((w7.setCell ⟨w.heap.size, 0, none⟩ (.slice ao5 (take T X q).1.length k5)).setCell ⟨w.heap.size, 1, none⟩ (.int .i64 (take T X q).2.1)) := ((Fr.refl (One w.heap.size) _).set (p := ⟨w.heap.size, 0, none⟩) _ (fun _ => rfl)).set (p := ⟨w.heap.size, 1, none⟩) _ (fun _ => rfl)
      have hO' : ∀ k, O' k → ¬ One w.heap.size k := fun k hk (e : k = w.heap.size) => by
        rcases x3 k hk with h | h
        · have := hOlt k h; omega
        · omega
      exact ⟨O', (x1.fr fs hO').mono (by omega), (HP.out.fr.then x2).trans fs (fun i hi (e : i = w.heap.size) => by omega), fun k hk => (x3 k hk).imp id (fun h => by omega), .inr ⟨h0, m, ao5, _, k5, rfl, x4.fr fs (fun k hk _ _ => hO' k hk)⟩⟩
    · have e2 : (take T X q).2.2 = 2 := by rw [h2]
      have HH2 := hide h2
      clear h2
      go_wp2_with fail
      refine bodyPost_ret (results_b2 rfl _ _ w.heap.size 0 0 none 0 rfl (two_set HBK5.out _ _)) rfl ?_
      have fs : Fr (One w.heap.size) w5 ((w5.setCell ⟨w.heap.size, 0, none⟩ (.slice none 0 0)).setCell ⟨w.heap.size, 1, none⟩ (.int .i64 0)) := ((Fr.refl (One w.heap.size) _).set (p := ⟨w.heap.size, 0, none⟩) _ (fun _ => rfl)).set (p := ⟨w.heap.size, 1, none⟩) _ (fun _ => rfl)
      have hO' : ∀ k, O k → ¬ One w.heap.size k := fun k hk (e : k = w.heap.size) => by have := hOlt k hk; omega
      have f35 : Fr O w3 w5 := Fr.of_below HB35.out
      exact ⟨O, (RdM.fr (RdM.below ⟨_, _, _, _, _, _, HP.out.rd⟩ HB35.out) fs hO').mono (Nat.le_trans HP.out.le (by omega)), (HP.out.fr.then f35).trans fs (fun i hi (e : i = w.heap.size) => by omega), Gr.refl _ _, .inl ⟨by rw [e2]; decide, rfl⟩⟩)

theorem rTake_any (p tb N : Nat) (O : Nat → Prop) (T : Nat → Nat) (X : List Int) (q : Int) (w : World) (h : RdM w p O tb T X N) (hT : Tb w tb T) (htb : tb < w.heap.size) (hOt : ¬ O tb) (hS : Small T)
    (hq : 0 ≤ q ∧ q ≤ 9223372036854775807) (hX : X.length ≤ 1000000) (hN : N ≤ 1000000000) :
    Calls Try.prog 71 #[.pointer (some ⟨p, 0, none⟩), .int .i64 q] w fun r w' => Gets w w' p tb N O T X q r := by
  obtain ⟨fo, fn, fc, m, U, D, h⟩ := h
  by_cases e : eqT U T = true ∧ has D (.int .i64 q) = true
  · exact take_had p tb N fn fc m O T U X fo D q w h hT htb hq e.2 e.1
  · refine take_miss p tb N fn fc m O T U X fo D q w h hT htb hOt hS hq hX hN (fun he => ?_)
    cases hh : has D (.int .i64 q)
    · rfl
    · exact absurd ⟨he, hh⟩ e
end Go.Proofs.Ytmhgjilpgbkaaaa

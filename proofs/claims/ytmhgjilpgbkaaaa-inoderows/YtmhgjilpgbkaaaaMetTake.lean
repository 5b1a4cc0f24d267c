/- The walk of the reader's take: what frame.Take tells of a place, out of the map or asked. -/
import Derived.Test.YtmhgjilpgbkaaaaMetOpen
import Derived.Deep.QuietTactic
namespace Go.Proofs.Ytmhgjilpgbkaaaa
set_option linter.unusedVariables false
open Go.RowKit Go.Maps
open Lz (g)
open Crc (ent)
open Frm Mtr

theorem tb_range {w : World} {b : Nat} {T : Nat → Nat} (h : Tb w b T) : w.rangeAt b 0 (tab T).toList := fun j v hv => by
  have hj : j < 256 := by have := (List.getElem?_eq_some_iff.1 hv).1; simpa [tab_size] using this
  rw [Array.getElem?_toList, tab_at T j hj] at hv
  rw [Nat.zero_add, h j hj]; exact hv
section
variable {ops : Array Oper} {C : World → Prop} {Q : Act → Prop} {a : Act} {o : Oper} {rest : List Oper}
/-- One operation of a region that only reads, whose value is said. -/
theorem wpQuiet_val (v : Value) (hw : Region.wanted o (yielded ops a.tmps) = true) (hrun : ∀ w, C w → (execOp a.eval o).run Try.prog w = .ok (.value v) w) (h : wpQuiet Try.prog ops C Q rest (a.put o.dst v)) : wpQuiet Try.prog ops C Q (o :: rest) a :=
  BigFrame.wpQuiet_want hw fun K hK => ⟨v, fun w hw => by unfold Oper.quietAt; rw [hrun w hw]; exact ⟨rfl, rfl⟩, hK _ h⟩
/-- A whole table is loaded. -/
theorem wpQuiet_table (hw : Region.wanted o (yielded ops a.tmps) = true) (x : Operand) (ho : o.op = .load 36 x) (b f : Nat) (hx : a.eval x = .pointer (some ⟨b, f, none⟩)) (T : Nat → Nat) (A : Array Value) (hA : A = tab T) (hC : ∀ w, C w → w.rangeAt b f (tab T).toList)
    (h : wpQuiet Try.prog ops C Q rest (a.put o.dst (.agg A))) : wpQuiet Try.prog ops C Q (o :: rest) a := by
  obtain ⟨hz, hi'⟩ := zero_of_info infoTable
  refine wpQuiet_val (.agg A) hw (fun w hw => ?_) h
  have := run_loadVar_mid (P := Try.prog) w b f 36 (tab T).toList _ (hC w hw) Try.underlying36 rfl (by rw [Array.length_toList, tab_size]; exact hi')
  unfold execOp
  simp only [ho, hx, Instr.loadAt, Instr.sureAddr, Sem.run_bind, Sem.run_pure, Result.andThen_ok, this]
  rw [hA]
/-- Two tables are held against each other. -/
theorem wpQuiet_neq (hw : Region.wanted o (yielded ops a.tmps) = true) (x y : Operand) (t : TypeId) (ho : o.op = .binOp .neq 36 x y t) (A B : Array Value) (U T : Nat → Nat) (hx : a.eval x = .agg A) (hy : a.eval y = .agg B) (hA : A = tab U) (hB : B = tab T) (v : Bool) (hv : (!eqT U T) = v)
    (h : wpQuiet Try.prog ops C Q rest (a.put o.dst (.bool v))) : wpQuiet Try.prog ops C Q (o :: rest) a := by
  refine wpQuiet_val (.bool v) hw (fun w _ => ?_) h
  have hg : Try.prog.eqGuardType Try.prog.depth 36 = false := by kernel_rfl
  have hgd : (eqGuard .neq 36 x y (.agg A) (.agg B)).run Try.prog w = .ok () w := by simp [eqGuard, hg]
  have heq : (binOp .neq 36 (.agg A) (.agg B)).run Try.prog w = .ok (.bool v) w := by
    rw [run_neq_struct, eq_tabs w A B U T hA hB]
    simp [Result.andThen, hv]
  unfold execOp
  simp only [ho, hx, hy, Sem.run_bind, Sem.run_pure, hgd, Result.andThen_ok, heq]
end
/-- Two results, the first of them a block in a variable of its own. -/
theorem results_b2 {fn : Func} {p u : Tmp} (h : fn.results = #[.cell p 104, .tmp u]) (tmps : Array Value) (w : World) (q n c : Nat) (ao : Option Addr) (nx : Int) (hp : tmps.getD p undef = .pointer (some ⟨q, 0, none⟩)) (hq : w.heap[q]? = some (.cells #[.slice ao n c, .int .i64 nx] 104 (0, 0))) :
    (results fn tmps).run Try.prog w = .ok (.tuple #[.agg #[.slice ao n c, .int .i64 nx], tmps.getD u undef]) w := by
  have h0 : w.cell? ⟨q, 0, none⟩ = some (.slice ao n c) := by rw [cell_of_row _ _ 0 _ _ _ hq]; rfl
  have h1 : w.cell? ⟨q, 1, none⟩ = some (.int .i64 nx) := by rw [cell_of_row _ _ 1 _ _ _ hq]; rfl
  simp only [results, h]
  rw [Array.getD_eq_getD_getElem?] at hp
  go_simp
theorem two_set {w : World} {b : Nat} {x y : Value} {t : TypeId} (h : w.heap[b]? = some (.cells #[x, y] t (0, 0))) (v u : Value) : ((w.setCell ⟨b, 0, none⟩ v).setCell ⟨b, 1, none⟩ u).heap[b]? = some (.cells #[v, u] t (0, 0)) := by
  rw [heap_setCell_self (heap_setCell_self h v) u]; rfl
theorem two_set_alloc {w : World} {b : Nat} {x y : Value} {t : TypeId} (h : w.heap[b]? = some (.cells #[x, y] t (0, 0))) (v u : Value) (o : Obj) : (((w.setCell ⟨b, 0, none⟩ v).setCell ⟨b, 1, none⟩ u).alloc o).heap[b]? = some (.cells #[v, u] t (0, 0)) := by
  have := two_set h v u
  rw [Below.heap_alloc _ _ _ (heap_lt this)]; exact this
/-- What take answers. -/
def Gets (w w' : World) (p tb N : Nat) (O : Nat → Prop) (T : Nat → Nat) (X : List Int) (q : Int) (r : Ending) : Prop :=
  ∃ O', RdM w' p O' tb T X (N + 1) ∧ Fr O w w' ∧ Gr O O' w ∧
    (((take T X q).2.2 ≠ 0 ∧ r = .returned (.tuple #[zb, .bool false])) ∨
     ((take T X q).2.2 = 0 ∧ ∃ m ao n c, r = .returned (.tuple #[.agg #[.slice ao n c, .int .i64 (take T X q).2.1], .bool true]) ∧ En w' O' p m T X q (.agg #[.slice ao n c, .int .i64 (take T X q).2.1])))

set_option maxRecDepth 100000 in
set_option maxHeartbeats 400000 in
/-- It was taken. -/
theorem take_had (p tb N fn fc m : Nat) (O : Nat → Prop) (T U : Nat → Nat) (X : List Int) (fo : Option Addr) (D : DataW Value) (q : Int) (w : World) (h : RdM' w p O tb T X N fo fn fc m U D) (hT : Tb w tb T) (htb : tb < w.heap.size)
    (hq : 0 ≤ q ∧ q ≤ 9223372036854775807) (hh : has D (.int .i64 q) = true) (he : eqT U T = true) :
    Calls Try.prog 71 #[.pointer (some ⟨p, 0, none⟩), .int .i64 q] w fun r w' => Gets w w' p tb N O T X q r := by
  obtain ⟨C, hC⟩ : ∃ C, C = tab T := ⟨_, rfl⟩
  obtain ⟨CU, hCU⟩ : ∃ CU, CU = tab U := ⟨_, rfl⟩
  obtain ⟨w1, hw1⟩ : ∃ w1, w1 = w.alloc (.cells #[.slice none 0 0, .int .i64 0] 104) := ⟨_, rfl⟩
  have hb1 : Below w.heap.size w w1 := by rw [hw1]; exact (Below.refl _ _).alloc (Nat.le_refl _) _
  have h1 := h.fr (Fr.of_below (S := fun _ => False) hb1) (fun _ _ => id)
  have hT1 := hT.below hb1 htb
  have rU : ∀ w', (∃ n, w' = w1.drewN n) → w'.rangeAt p 4 (tab U).toList := fun w' hn j v hv => by obtain ⟨n, rfl⟩ := hn; rw [← h1.rb.2.2.2.2.2 j v hv]; simp
  have rC : ∀ w', (∃ n, w' = w1.drewN n) → w'.rangeAt tb 0 (tab T).toList := fun w' hn j v hv => by obtain ⟨n, rfl⟩ := hn; rw [← tb_range hT1 j v hv]; simp
  have c0 := h1.rb.2.1
  have c3 := h1.rb.2.2.2.2.1
  have hs1 : w1.heap.size = w.heap.size + 1 := by rw [hw1]; simp
  have hq0 : w1.heap[w.heap.size]? = some (.cells #[.slice none 0 0, .int .i64 0] 104 (0, 0)) := by rw [hw1]; exact heap_alloc_new w _
  have q0 : w1.cell? ⟨w.heap.size, 0, none⟩ = some (.slice none 0 0) := by rw [cell_of_row _ _ 0 _ _ _ hq0]; rfl
  have q1 : w1.cell? ⟨w.heap.size, 1, none⟩ = some (.int .i64 0) := by rw [cell_of_row _ _ 1 _ _ _ hq0]; rfl
  have f0 : w1.frozen? ⟨w.heap.size, 0, none⟩ = false := by simp [World.frozen?, hq0]
  have f1 : w1.frozen? ⟨w.heap.size, 1, none⟩ = false := by simp [World.frozen?, hq0]
  have HQ0 := hide hq0
  have HH := hide h
  obtain ⟨v, hv, hE0⟩ := h.ents q hh
  have hE := hE0.fr (Fr.of_below (S := fun _ => False) hb1) (fun _ _ _ _ => id)
  have HEn := hide hE0
  obtain ⟨ao, n, c, hve, ht0, hBs, hcap, hmax, hnil, hown⟩ := hE
  have hwf : (Lit.int .i64 q).wf = true := WalkArith.wf_i64 (by omega)
  have hrun : ∀ nq, (Instr.lookup 77 (.map (some m)) (.int .i64 q) true).run Try.prog (w1.drewN nq) = .ok (.tuple #[.agg #[.slice ao n c, .int .i64 (take T X q).2.1], .bool true]) (w1.drewN nq) := fun nq => by
    rcases look_held (w := w1.drewN nq) h1.map q hwf with ⟨_, e⟩ | ⟨v', e1, _, e3⟩
    · rw [e] at hh; simp at hh
    · rw [hv] at e3
      have : v = v' := by simpa using e3
      rw [e1, ← this, hve]
  subst hve
  have HW := hide hw1
  have HC := hide hC
  have HCU := hide hCU
  have HRU := hide rU
  have HRC := hide rC
  have HE := hide (show (!eqT U T) = false by rw [he]; rfl)
  clear hw1 hC hCU rU rC hT hT1 h he hq0 hv hE0
  go_enter Try.func71, Try.ntmps71
  go_wp2_with fail
  rw [← HW.out]
  refine wp_region_quiet_lit (by kernel_rfl) (by kernel_rfl) ?_
  iterate 3 go_big_quiet_step (fail)
  refine wpQuiet_table (by rfl) _ rfl p 4 rfl U CU HCU.out HRU.out ?_
  simp only [Act.put, List.setIfInBounds_toArray, List.set_cons_zero, List.set_cons_succ]
  iterate 5 go_big_quiet_step (fail)
  refine wpQuiet_table (by rfl) _ rfl tb 0 rfl T C HC.out HRC.out ?_
  simp only [Act.put, List.setIfInBounds_toArray, List.set_cons_zero, List.set_cons_succ]
  refine wpQuiet_neq (by rfl) _ _ _ rfl CU C U T rfl rfl HCU.out HC.out false HE.out ?_
  simp only [Act.put, List.setIfInBounds_toArray, List.set_cons_zero, List.set_cons_succ]
  refine wpQuiet_nil ?_
  intro _ hw'
  obtain ⟨nq, hw''⟩ := hw'
  subst hw''
  go_wp2_with fail
  have hbW : Below w.heap.size w ((((w1.drewN nq).setCell ⟨w.heap.size, 0, none⟩ (.slice ao n c)).setCell ⟨w.heap.size, 1, none⟩ (.int .i64 (take T X q).2.1)).alloc (.cells #[.slice ao n c, .int .i64 (take T X q).2.1] 104)) := by
    have e1 := below_drewN hb1 nq
    have e2 := (e1.setCell (p := ⟨w.heap.size, 0, none⟩) (Nat.le_refl _) (.slice ao n c)).setCell (p := ⟨w.heap.size, 1, none⟩) (Nat.le_refl _) (.int .i64 (take T X q).2.1)
    exact e2.alloc e2.size _
  refine bodyPost_ret (results_b2 rfl _ _ w.heap.size n c ao (take T X q).2.1 rfl (two_set_alloc (w := w1.drewN nq) HQ0.out _ _ _)) rfl ?_
  have fW : Fr (fun _ => False) w _ := Fr.of_below hbW
  exact ⟨O, (RdM.below ⟨_, _, _, _, _, _, HH.out⟩ hbW).mono (by omega), fW.mono (fun _ _ h => h.elim), Gr.refl _ _, .inr ⟨ht0, m, ao, n, c, rfl, HEn.out.fr fW (fun _ _ _ _ => id)⟩⟩
end Go.Proofs.Ytmhgjilpgbkaaaa

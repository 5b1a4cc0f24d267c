/- Layer 10: Look, by the program. -/
import Derived.Test.YtdenbbljbkpbdaaDirTaken
namespace Go.Proofs.Ytdenbbljbkpbdaa
set_option linter.unusedVariables false
set_option maxRecDepth 100000
open Go.RowKit Go.Maps
open Nam Cur Cap Dir

namespace Dir
/-- Look's variables: the name at the block a, what was found at f, the error at e. -/
structure LI (a f e : Nat) (t : ByteArray) (j : Nat) (w : World) (O : Nat → Prop) (x : Ent × Int) : Prop where
  nm : Cl w a t
  fo : w.heap[f]? = some (.cells (ev x.1) 35 (0, 0))
  er : w.heap[e]? = some (.cells #[.int .i64 x.2] 26 (0, 0))
  ow : ∀ k, O k ↔ k = a ∨ k = f ∨ k = e
theorem LI.ne {a f e : Nat} {t : ByteArray} {j : Nat} {w : World} {O : Nat → Prop} {x : Ent × Int} (h : LI a f e t j w O x) : a ≠ f ∧ a ≠ e ∧ f ≠ e :=
  ⟨ne_obj h.nm h.fo (by decide), ne_obj h.nm h.er (by decide), ne_obj h.fo h.er (by decide)⟩
theorem LI.fr {a f e : Nat} {t : ByteArray} {j : Nat} {w w' : World} {O S : Nat → Prop} {x : Ent × Int} (h : LI a f e t j w O x) (hf : Fr S w w') (hn : ∀ k, S k → ¬ O k) : LI a f e t j w' O x :=
  ⟨h.nm.fr hf (fun hs => hn _ hs ((h.ow _).2 (.inl rfl))), (hf.block _ (heap_lt h.fo) (fun hs => hn _ hs ((h.ow _).2 (.inr (.inl rfl))))).trans h.fo, (hf.block _ (heap_lt h.er) (fun hs => hn _ hs ((h.ow _).2 (.inr (.inr rfl))))).trans h.er, h.ow⟩
theorem LI.lt {a f e : Nat} {t : ByteArray} {j : Nat} {w : World} {O : Nat → Prop} {x : Ent × Int} (h : LI a f e t j w O x) : ∀ k, O k → k < w.heap.size := fun k hk => by
  rcases (h.ow k).1 hk with rfl | rfl | rfl
  · exact heap_lt h.nm
  · exact heap_lt h.fo
  · exact heap_lt h.er
theorem LI.noB {a f e : Nat} {t : ByteArray} {j : Nat} {w : World} {O : Nat → Prop} {x : Ent × Int} (h : LI a f e t j w O x) : ∀ k, (k = a ∨ k = f ∨ k = e) → NoB w k := by
  intro k hk i y
  rcases hk with rfl | rfl | rfl
  · rw [cell_of_row _ _ _ _ _ _ h.nm]
    cases i with
    | zero => simp
    | succ i => simp
  · rw [cell_of_row _ _ _ _ _ _ h.fo]
    match i with
    | 0 => simp [ev]
    | 1 => simp [ev]
    | 2 => simp [ev]
    | i + 3 => simp [ev]
  · rw [cell_of_row _ _ _ _ _ _ h.er]
    cases i with
    | zero => simp
    | succ i => simp
theorem results_cr2 {fn : Func} {p u : Tmp} {ty : TypeId} (h : fn.results = #[.cell p ty, .tmp u]) (tmps : Array Value) (w : World) (g : Nat) (cs : Array Value)
    (hp : tmps.getD p undef = .pointer (some ⟨g, 0, none⟩)) (hr : (loadVar ty ⟨g, 0, none⟩).run Try.prog w = .ok (.agg cs) w) :
    (results fn tmps).run Try.prog w = .ok (.tuple #[.agg cs, tmps.getD u undef]) w := by
  have hp' : tmps[p]?.getD undef = .pointer (some ⟨g, 0, none⟩) := by simpa using hp
  simp [results, h, hp', asAddr, hr]
theorem set_three {w : World} {p : Nat} {A B : Ent} (h : w.heap[p]? = some (.cells (ev A) 35 (0, 0))) :
    (((w.setCell ⟨p, 0, none⟩ (.string B.name)).setCell ⟨p, 1, none⟩ (.int .i64 B.kind)).setCell ⟨p, 2, none⟩ (.int .i64 B.ref)).heap[p]? = some (.cells (ev B) 35 (0, 0)) := by
  have h1 := heap_setCell_self (i := 0) h (.string B.name)
  have h2 := heap_setCell_self (i := 1) h1 (.int .i64 B.kind)
  have h3 := heap_setCell_self (i := 2) h2 (.int .i64 B.ref)
  rw [h3]; rfl
theorem fr_three (w : World) (p : Nat) (B : Ent) : Fr (One p) w (((w.setCell ⟨p, 0, none⟩ (.string B.name)).setCell ⟨p, 1, none⟩ (.int .i64 B.kind)).setCell ⟨p, 2, none⟩ (.int .i64 B.ref)) :=
  (((Fr.refl (One p) w).set (p := ⟨p, 0, none⟩) _ (fun _ => rfl)).set (p := ⟨p, 1, none⟩) _ (fun _ => rfl)).set (p := ⟨p, 2, none⟩) _ (fun _ => rfl)
end Dir
set_option maxHeartbeats 2000000 in
theorem lookStep (a f e : Nat) (t : ByteArray) (j : Nat) (w : World) (O : Nat → Prop) (x : Ent × Int) (E : Ent) (hj : j ≤ 200000) (h : LI a f e t j w O x) (hE : fit E) :
    Calls Try.prog 30 (#[.agg (ev E)] ++ #[.pointer (some ⟨a, 0, none⟩), .pointer (some ⟨f, 0, none⟩), .pointer (some ⟨e, 0, none⟩)]) w fun r w' => ∃ O', r = .returned (.bool (lst t x E).1) ∧ LI a f e t (j + 1) w' O' (lst t x E).2 ∧ Fr O w w' ∧ ∀ k, O' k → O k ∨ w.heap.size ≤ k := by
  obtain ⟨w1, hw1⟩ : ∃ w1, w1 = w.alloc (.cells (ev E) 35) := ⟨_, rfl⟩
  have b1 : Below w.heap.size w w1 := by rw [hw1]; exact below_one _ _
  have h1 := h.fr (Fr.of_below (S := fun _ => False) b1) (fun k hk => hk.elim)
  have hx1 : w1.heap[w.heap.size]? = some (.cells (ev E) 35 (0, 0)) := by rw [hw1]; exact heap_new rfl
  have ca : w.cell? ⟨a, 0, none⟩ = some (.string t) := h.nm.cell
  have hal := h.nm.lt
  have hfl := heap_lt h.fo
  have hel := heap_lt h.er
  obtain ⟨n1, n2, n3⟩ := h.ne
  obtain ⟨lb, hlb⟩ : ∃ lb, Op.bytesLess E.name.toList t.toList = lb := ⟨_, rfl⟩
  have HLb := hide hlb
  have HW1 := hide hw1
  have HB1 := hide b1
  have HL1 := hide h1
  have HX1 := hide hx1
  have HOw := hide h.ow
  clear hw1 b1 h1 hx1 h
  by_cases he : E.name = t
  · have hq : (E.name.toList == t.toList) = true := by rw [he]; simp
    obtain ⟨w2, hw2⟩ : ∃ w2, w2 = w1.setRow f (ev E) := ⟨_, rfl⟩
    have f2 : Fr (One f) w1 w2 := by rw [hw2]; exact setRow_fr (Fr.refl _ _) _ _ (fun _ => rfl)
    have hfo2 : w2.heap[f]? = some (.cells (ev E) 35 (0, 0)) := by rw [hw2]; exact setRow_heap _ _ _ _ _ _ HL1.out.fo
    have hnm2 : Cl w2 a t := HL1.out.nm.fr f2 n1
    have her2 := (f2.block _ (heap_lt HL1.out.er) (fun hk => n3 (Eq.symm hk))).trans HL1.out.er
    have hx2 := (f2.block _ (heap_lt HX1.out) (fun hk => by have : w.heap.size = f := hk; omega)).trans HX1.out
    have ce2 : w2.cell? ⟨e, 0, none⟩ = some (.int .i64 x.2) := cell_of_row _ _ _ _ _ _ her2
    have fe2 : w2.frozen? ⟨e, 0, none⟩ = false := by simp [World.frozen?, her2]
    have ca2 := hnm2.cell
    have cx2 : w2.cell? ⟨w.heap.size, 0, none⟩ = some (.string E.name) := cell_of_row _ _ _ _ _ _ hx2
    obtain ⟨w3, hw3⟩ : ∃ w3, w3 = w2.setCell ⟨e, 0, none⟩ (.int .i64 0) := ⟨_, rfl⟩
    have f3 : Fr (One e) w2 w3 := by rw [hw3]; exact (Fr.refl (One e) w2).set (p := ⟨e, 0, none⟩) _ (fun _ => rfl)
    have HL3 : Hid (LI a f e t (j + 1) w3 O (E, 0)) := ⟨hnm2.fr f3 n2, (f3.block _ (heap_lt hfo2) n3).trans hfo2, by rw [hw3, heap_setCell_self her2]; rfl, HOw.out⟩
    have HF3 : Hid (Fr O w w3) := by
      refine ((Fr.of_below (S := O) HB1.out).trans f2 (fun i _ hi => (HOw.out i).2 (.inr (.inl hi)))).trans f3 (fun i _ hi => (HOw.out i).2 (.inr (.inr hi)))
    have HW2 := hide hw2
    have HW3 := hide hw3
    have HFO := hide HL1.out.fo
    have n4 : e ≠ a := fun h => n2 h.symm
    have n5 : e ≠ w.heap.size := by omega
    have HEq : Hid (lst t x E = (lb, (E, 0))) := by show lst t x E = _; unfold lst; rw [if_pos he, hlb]
    clear hw2 f2 hfo2 hnm2 her2 hx2 hw3 f3 he
    rw [HEq.out]
    unfold ev at HW1 ⊢
    show Calls Try.prog 30 #[.agg #[.string E.name, .int .i64 E.kind, .int .i64 E.ref], .pointer (some ⟨a, 0, none⟩), .pointer (some ⟨f, 0, none⟩), .pointer (some ⟨e, 0, none⟩)] w _
    go_enter Try.func30, Try.ntmps30
    go_wp2_with (rw [← HW1.out]; refine wpList_store_row rfl _ _ _ rfl f (ev E) rfl rfl 35 _ HFO.out infoRec rfl (ev_one _) ?_; rw [← HW2.out])
    rw [← HW3.out]
    go_ret
    exact ⟨O, rfl, HL3.out, HF3.out, fun k hk => .inl hk⟩
  · have hq : (E.name.toList == t.toList) = false := by
      cases hh : (E.name.toList == t.toList) with
      | false => rfl
      | true => exact absurd (toList_inj (by simpa using hh)) he
    have HEq : Hid (lst t x E = (lb, x)) := by show lst t x E = _; unfold lst; rw [if_neg he, hlb]
    rw [HEq.out]
    have HL2 : Hid (LI a f e t (j + 1) w1 O x) := ⟨HL1.out.nm, HL1.out.fo, HL1.out.er, HL1.out.ow⟩
    unfold ev at HW1 ⊢
    show Calls Try.prog 30 #[.agg #[.string E.name, .int .i64 E.kind, .int .i64 E.ref], .pointer (some ⟨a, 0, none⟩), .pointer (some ⟨f, 0, none⟩), .pointer (some ⟨e, 0, none⟩)] w _
    go_enter Try.func30, Try.ntmps30
    go_wp2
    go_ret
    rw [← HW1.out]
    exact ⟨O, rfl, HL2.out, Fr.of_below HB1.out, fun k hk => .inl hk⟩
set_option maxHeartbeats 2000000 in
/-- What Look answers of the bytes of a list that may be. -/
theorem dLook_any (n c : Nat) (ao : Option Addr) (L : List Ent) (t : ByteArray) (w : World) (hm : may L = true) (hb : Bs w ao n (putB L)) (hc : n ≤ c) (hnil : ao = none → c = 0) (hn : n ≤ 1000000) :
    Calls Try.prog 15 #[.slice ao n c, .string t] w fun r w' => r = .returned (.tuple #[.agg (ev (lk t L).1), .int .i64 (lk t L).2]) ∧ Below w.heap.size w w' := by
  obtain ⟨w1, hw1⟩ : ∃ w1, w1 = (((w.alloc (.cells #[.string t] 9)).alloc (.cells (ev z0) 35)).alloc (.cells (ev z0) 35)).alloc (.cells #[.int .i64 20] 26) := ⟨_, rfl⟩
  have b1 : Below w.heap.size w w1 := by rw [hw1]; exact (((below_one _ _).alloc (by simp) _).alloc (by simp; omega) _).alloc (by simp; omega) _
  have s0 : (w.alloc (.cells #[.string t] 9)).heap.size = w.heap.size + 1 := by simp
  have h0 : w1.heap[w.heap.size]? = some (.cells #[.string t] 9 (0, 0)) := by
    rw [hw1, Below.heap_alloc _ _ _ (by simp <;> omega), Below.heap_alloc _ _ _ (by simp <;> omega), Below.heap_alloc _ _ _ (by simp)]; exact heap_new rfl
  have hr : w1.heap[w.heap.size + 1]? = some (.cells (ev z0) 35 (0, 0)) := by
    rw [hw1, Below.heap_alloc _ _ _ (by simp <;> omega), Below.heap_alloc _ _ _ (by simp)]; exact heap_new (by simp)
  have h2 : w1.heap[w.heap.size + 2]? = some (.cells (ev z0) 35 (0, 0)) := by
    rw [hw1, Below.heap_alloc _ _ _ (by simp)]; exact heap_new (by simp)
  have h3 : w1.heap[w.heap.size + 3]? = some (.cells #[.int .i64 20] 26 (0, 0)) := by
    rw [hw1]; exact heap_new (by simp)
  have hI : LI w.heap.size (w.heap.size + 2) (w.heap.size + 3) t 0 w1 (fun k => k = w.heap.size ∨ k = w.heap.size + 2 ∨ k = w.heap.size + 3) (z0, 20) := ⟨h0, h2, h3, fun k => Iff.rfl⟩
  have HE := hide (each_any (lst t) (LI w.heap.size (w.heap.size + 2) (w.heap.size + 3) t) 30 #[.pointer (some ⟨w.heap.size, 0, none⟩), .pointer (some ⟨w.heap.size + 2, 0, none⟩), .pointer (some ⟨w.heap.size + 3, 0, none⟩)]
    (enters 30 Try.func30 (by decide +kernel) rfl) (fun j w O s E hj h hE => lookStep _ _ _ _ j w O s E hj h hE) (fun j w w' O S s h hf hn => h.fr hf hn) _
    (fun j w O' s h => ⟨h.lt, fun k hk => h.noB k hk⟩) n c ao (putB L) w1 (hb.below b1) hc hnil hn (z0, 20) hI)
  have hR := run_look t (par (putB L)).2 L em hm
  have hp := par_putB (may_fit hm)
  rw [hp] at HE hR
  obtain ⟨R, hRR⟩ : ∃ R, R = run (lst t) L true (z0, 20) := ⟨_, rfl⟩
  rw [← hRR] at HE hR
  have HB1 := hide b1
  have HR := hide hr
  have HW1 := hide hw1
  rw [← hR]
  clear b1 hb s0 h0 hr h2 h3 hI hR hp hRR hm hw1
  unfold ev z0 at HW1
  simp only at HW1
  go_enter Try.func15, Try.ntmps15
  go_wp2_with fail
  rw [← HW1.out]
  refine HE.out.mono ?_
  rintro r w4 ⟨j, O4, rfl, hI4, hF4, _⟩
  have HB4 : Hid (Below w.heap.size w w4) := HB1.out.trans (hF4.below _ HB1.out.size (fun k hk => by rcases hk with h | h | h <;> omega))
  have hfo := hI4.fo
  have her := hI4.er
  have hrr := (hF4.block _ (heap_lt HR.out) (fun hk => by rcases hk with h | h | h <;> omega)).trans HR.out
  obtain ⟨b, X, y⟩ := R
  simp only at hfo her ⊢
  clear hI4 hF4 HE HW1
  go_wp2_with fail
  obtain ⟨p1, hp1⟩ : ∃ p, p = w.heap.size + 1 := ⟨_, rfl⟩
  obtain ⟨p2, hp2⟩ : ∃ p, p = w.heap.size + 2 := ⟨_, rfl⟩
  obtain ⟨p3, hp3⟩ : ∃ p, p = w.heap.size + 3 := ⟨_, rfl⟩
  rw [show w.heap.size + 1 + 1 + 1 = p3 by omega, show w.heap.size + 1 + 1 = p2 by omega, ← hp1]
  rw [← hp2] at hfo
  rw [← hp3] at her
  rw [← hp1] at hrr
  have n12 : p1 ≠ p2 := by omega
  have n13 : p1 ≠ p3 := by omega
  have hlw : w.heap.size ≤ p1 := by omega
  have x0 : w4.cell? ⟨p2, 0, none⟩ = some (.string X.name) := cell_of_row _ _ _ _ _ _ hfo
  have x1 : w4.cell? ⟨p2, 1, none⟩ = some (.int .i64 X.kind) := cell_of_row _ _ _ _ _ _ hfo
  have x2 : w4.cell? ⟨p2, 2, none⟩ = some (.int .i64 X.ref) := cell_of_row _ _ _ _ _ _ hfo
  have x3 : w4.cell? ⟨p3, 0, none⟩ = some (.int .i64 y) := cell_of_row _ _ _ _ _ _ her
  have y0 : w4.cell? ⟨p1, 0, none⟩ = some (.string ⟨#[]⟩) := cell_of_row _ _ _ _ _ _ hrr
  have y1 : w4.cell? ⟨p1, 1, none⟩ = some (.int .i64 0) := cell_of_row _ _ _ _ _ _ hrr
  have y2 : w4.cell? ⟨p1, 2, none⟩ = some (.int .i64 0) := cell_of_row _ _ _ _ _ _ hrr
  have z0' : ∀ k, w4.frozen? ⟨p1, k, none⟩ = false := fun k => by simp [World.frozen?, hrr]
  have HRr := hide hrr
  clear hp1 hp2 hp3 hfo her hrr HR
  go_region
  have HF5 := hide (fr_three w4 p1 X).drew
  have HX5 : Hid ((((w4.setCell ⟨p1, 0, none⟩ (.string X.name)).setCell ⟨p1, 1, none⟩ (.int .i64 X.kind)).setCell ⟨p1, 2, none⟩ (.int .i64 X.ref)).drew.heap[p1]? = some (.cells (ev X) 35 (0, 0))) := set_three HRr.out
  obtain ⟨w5, hw5⟩ : ∃ w5, w5 = (((w4.setCell ⟨p1, 0, none⟩ (.string X.name)).setCell ⟨p1, 1, none⟩ (.int .i64 X.kind)).setCell ⟨p1, 2, none⟩ (.int .i64 X.ref)).drew := ⟨_, rfl⟩
  rw [← hw5] at HF5 HX5 ⊢
  clear hw5 x0 x1 x2 x3 y0 y1 y2 z0' HRr
  go_wp2
  refine bodyPost_ret (v := .tuple #[.agg (ev X), .int .i64 y]) ?_ rfl ⟨rfl, HB4.out.trans (HF5.out.one_below HB4.out.size hlw)⟩
  exact results_cr2 (p := 4) (u := 5) rfl _ _ p1 (ev X) rfl (load_rec HX5.out rfl)
end Go.Proofs.Ytdenbbljbkpbdaa

/- The program's reader of rows in memory: its block (260 cells, a table among them), its map of frames that were taken, and what these calls leave of it; tables held against each other; Open. -/
import Derived.Test.YtmhgjilpgbkaaaaMetAdd
import Derived.Maps.OwnSet
import Derived.Stop.BytesEq
namespace Go.Proofs.Ytmhgjilpgbkaaaa
set_option linter.unusedVariables false
open Go.RowKit Go.Maps
open Go.ChangeMaps Go.MapKept
open Lz (g)
open Crc (ent)
open Frm Mtr

/-- Are two tables the same? -/
def eqT (U T : Nat → Nat) : Bool := (List.range' 0 256 1).all fun i => U i == T i
theorem eqT_true {U T : Nat → Nat} (h : eqT U T = true) : ∀ i, i < 256 → U i = T i := fun i hi => by
  unfold eqT at h
  have := List.all_eq_true.1 h i (List.mem_range'_1.2 ⟨by omega, by omega⟩)
  simpa using this
theorem run_equalIn_tabs (P : Program) (w : World) (d : Nat) (t e : TypeId) (ht : P.underlying t = some (.array 256 e)) (he : P.underlying e = some (.int .u32)) (hsz : ∀ w, (sizeOf e).run P w = .ok 1 w) (U T : Nat → Nat) :
    (Op.equalIn (d + 2) t (.agg (tab U)) (.agg (tab T))).run P w = .ok (eqT U T) w := by
  rw [Op.equalIn]
  simp only [Sem.run_bind, run_underlying ht, Result.andThen_ok, hsz, Std.Legacy.Range.forIn_eq_forIn_range', Std.Legacy.Range.size, Nat.sub_zero, Nat.add_sub_cancel, Nat.div_one]
  unfold eqT
  have hl : ∀ i ∈ List.range' 0 256 1, i < 256 := fun i hi => by simpa using (List.mem_range'_1.1 hi).2
  generalize List.range' 0 256 1 = l at hl ⊢
  induction l with
  | nil => simp
  | cons i l ih =>
    have hi : i < 256 := hl i (by simp)
    have px : ∀ U : Nat → Nat, (part e (tab U) (i * 1)).run P w = .ok (.int .u32 (U i)) w := fun U => by
      simp [part, isAgg, run_underlying he, tab_at U i hi]
    have pe : (Op.equalIn (d + 1) e (.int .u32 (U i)) (.int .u32 (T i))).run P w = .ok (U i == T i) w := by
      rw [run_equalIn_int w d e .u32 .u32 _ _ he]
      congr 1
      rw [Bool.eq_iff_iff]; simp; omega
    simp only [List.forIn_cons, Sem.run_bind, px, pe, Result.andThen_ok, List.all_cons]
    cases hb : (U i == T i)
    · simp
    · simp only [Bool.not_true, Bool.false_eq_true, if_false, Sem.run_pure, Result.andThen_ok, Bool.true_and]
      exact ih fun j hj => hl j (by simp [hj])
theorem eq_tabs (w : World) (C D : Array Value) (U T : Nat → Nat) (hC : C = tab U) (hD : D = tab T) : (Op.equalIn 10000 36 (.agg C) (.agg D)).run Try.prog w = .ok (eqT U T) w := by
  rw [hC, hD]; exact run_equalIn_tabs Try.prog w 9998 36 34 Try.underlying36 Try.underlying34 Try.sizeOf34 U T

/-- A build whose cells are said. -/
theorem wpList_build_to {ops : Array Oper} {rest : List Oper} {o : Oper} {a : Act} {w : World} {Q : Exit → Act → World → Prop} (hg : o.guard = none) (t : TypeId) (parts : Array (Nat × Operand)) (ho : o.op = .build t parts)
    (L : List (Nat × Value)) (hL : (parts.map fun (i, x) => (i, a.eval x)).toList = L) (cells : Array Value) (hc : Try.prog.built t L = some cells)
    (h : wpList Try.prog ops Q rest (a.put o.dst (.agg cells)) w) : wpList Try.prog ops Q (o :: rest) a w :=
  wpList_plain hg fun K hK => by
    subst hL
    unfold Oper.wp execOp
    simp only [ho, Sem.run_bind, run_build w t _ cells hc, Result.andThen_ok]
    exact hK _ _ h
/-- '&T{..}': a new variable that holds the value. -/
theorem wpList_box_to {ops : Array Oper} {rest : List Oper} {o : Oper} {a : Act} {w : World} {Q : Exit → Act → World → Prop} (hg : o.guard = none) (t : TypeId) (x : Operand) (ho : o.op = .box t x)
    (cells : Array Value) (hx : (a.eval x).cells = cells)
    (h : wpList Try.prog ops Q rest (a.put o.dst (.pointer (some ⟨w.heap.size, 0, none⟩))) (w.alloc (.cells cells t))) : wpList Try.prog ops Q (o :: rest) a w := by
  subst hx
  refine wpList_plain hg fun K hK => ?_
  unfold Oper.wp execOp
  simp only [ho, Sem.run_bind, Instr.box, newVar, newRow, run_newObj_alloc, Sem.run_pure, Result.andThen_ok]
  exact hK _ _ h
/-- A reader's cells. -/
def rcs (a b c d : Value) : Array Value := #[a, b, c, d] ++ Array.replicate 256 (.int .u32 0)
theorem rcs_size (a b c d : Value) : (rcs a b c d).size = 260 := by simp [rcs]
theorem rcs_tab (a b c d : Value) (j : Nat) (v : Value) (h : (tab (fun _ => 0)).toList[j]? = some v) : (rcs a b c d)[4 + j]? = some v := by
  have hj : j < 256 := by have := (List.getElem?_eq_some_iff.1 h).1; simpa [tab_size] using this
  rw [Array.getElem?_toList, tab_at _ _ hj] at h
  unfold rcs
  rw [Array.getElem?_append_right (by simp)]
  simp only [List.size_toArray, List.length_cons, List.length_nil, Nat.add_sub_cancel_left]
  rw [Array.getElem?_replicate, if_pos hj]
  exact h
theorem built0 : Try.prog.built 79 [] = some (rcs (.pointer none) (.bool false) (.slice none 0 0) (.map none)) := by kernel_rfl
theorem built4 (tb m n c : Nat) (ao : Option Addr) : Try.prog.built 79 [(0, .pointer (some ⟨tb, 0, none⟩)), (1, .bool true), (2, .slice ao n c), (3, .map (some m))] = some (rcs (.pointer (some ⟨tb, 0, none⟩)) (.bool true) (.slice ao n c) (.map (some m))) := by kernel_rfl

/-- How an entry of the map reads: as itself. -/
def HR (v : Value) : Option (DataW Value × List MemPlace) := some (.held v, [])
/-- A block that has nothing. -/
def zb : Value := .agg #[.slice none 0 0, .int .i64 0]
theorem zeroBlock (w : World) : (zeroValue 104).run Try.prog w = .ok zb w := by kernel_rfl
theorem mapKeyed : Keyed Try.prog 3 := int_keyed Try.underlying3
theorem look_held {w : World} {m N : Nat} {D : DataW Value} (h : w.ownsMap Try.prog 3 HR m N D) (q : Int) (hq : (Lit.int .i64 q).wf = true) :
    ((Instr.lookup 77 (.map (some m)) (.int .i64 q) true).run Try.prog w = .ok (.tuple #[zb, .bool false]) w ∧ has D (.int .i64 q) = false) ∨
    ∃ v, (Instr.lookup 77 (.map (some m)) (.int .i64 q) true).run Try.prog w = .ok (.tuple #[v, .bool true]) w ∧ has D (.int .i64 q) = true ∧ D.atKey (.int .i64 q) (.held zb) = .held v := by
  obtain ⟨es, clock, hb, F, _, rfl⟩ := h
  rcases Maps.fit_look true mapKeyed Try.underlying77 (zeroBlock w) hb F (keyOf_int_mk Try.underlying3 hq) with ⟨hrun, _, hat⟩ | ⟨e0, y, _, _, hrun, hRv, hat, _⟩
  · exact .inl ⟨hrun, Maps.has_false_of_atKey hat⟩
  · refine .inr ⟨e0.val, hrun, Maps.has_true_of_atKey hat, ?_⟩
    rw [hat]
    simp [HR] at hRv
    rw [← hRv]
/-- 'clear(m)'. -/
theorem wpList_clear_own {w : World} {ops : Array Oper} {rest : List Oper} {o : Oper} {a : Act} {Q : Exit → Act → World → Prop} (hg : o.guard = none) (x : Operand)
    (hop : o.op = Op.call { callee := Callee.builtin Builtin.clear, args := #[x], argTypes := #[77] }) (m N : Nat) (D : DataW Value) (hx : a.eval x = .map (some m)) (hown : w.ownsMap Try.prog 3 HR m N D)
    (h : ∀ w', w'.ownsMap Try.prog 3 HR m 0 (.map []) → w.grownBy w' (some m) → wpList Try.prog ops Q rest (a.put o.dst (.tuple #[])) w') : wpList Try.prog ops Q (o :: rest) a w := by
  obtain ⟨es, clock, hb, F, hs, rfl⟩ := hown
  refine wpList_plain hg fun K hK => ?_
  have hrun : (Builtin.clear_ #[77] o.type #[.map (some m)]).run Try.prog w = .ok (.tuple #[]) (setBlock w m (.map #[] clock)) := by
    simp [Builtin.clear_, run_underlying Try.underlying77, MapKept.run_getObj_map hb, MapKept.run_setObj_map _ hb, Result.andThen, setBlock]
  unfold Oper.wp
  simp [execOp, hop, resolve, invoke, builtin, hx, hrun, Result.andThen]
  refine hK _ _ (h _ ⟨#[], clock, heap_setBlock_same hb _, ⟨by simp, stamped_empty clock, by simp⟩, Nat.le_refl _, rfl⟩ ⟨rfl, rfl, rfl, by simp [setBlock], fun i _ hi => heap_setBlock_other hb _ (fun e => hi (by rw [e]))⟩)

/-- The reader's block. -/
def Rb (w : World) (p tb : Nat) (fo : Option Addr) (fn fc m : Nat) (U : Nat → Nat) : Prop :=
  (∃ cur, w.heap[p]? = some (.cells cur 79 (0, 0))) ∧ w.cell? ⟨p, 0, none⟩ = some (.pointer (some ⟨tb, 0, none⟩)) ∧ w.cell? ⟨p, 1, none⟩ = some (.bool true) ∧ w.cell? ⟨p, 2, none⟩ = some (.slice fo fn fc) ∧ w.cell? ⟨p, 3, none⟩ = some (.map (some m)) ∧ w.rangeAt p 4 (tab U).toList
section
variable {w w' : World} {p tb fn fc m : Nat} {fo : Option Addr} {U : Nat → Nat}
theorem Rb.lt (h : Rb w p tb fo fn fc m U) : p < w.heap.size := by obtain ⟨⟨cur, h⟩, _⟩ := h; exact heap_lt h
theorem Rb.fr {S : Nat → Prop} (h : Rb w p tb fo fn fc m U) (hf : Fr S w w') (hn : ¬ S p) : Rb w' p tb fo fn fc m U := by
  have hl := h.lt
  obtain ⟨⟨cur, h0⟩, h1, h2, h3, h4, h5⟩ := h
  have hc : ∀ i, w'.cell? ⟨p, i, none⟩ = w.cell? ⟨p, i, none⟩ := fun i => hf.cell (q := ⟨p, i, none⟩) hl hn
  exact ⟨⟨cur, (hf.block p hl hn).trans h0⟩, (hc 0).trans h1, (hc 1).trans h2, (hc 2).trans h3, (hc 3).trans h4, fun j v hv => (hc (4 + j)).trans (h5 j v hv)⟩
theorem Rb.there (h : Rb w p tb fo fn fc m U) : w.there p 4 256 := fun j hj => by
  obtain ⟨⟨cur, h0⟩, h1, h2, h3, h4, h5⟩ := h
  refine ⟨?_, by simp [World.frozen?, h0]⟩
  rw [h5 j (.int .u32 (U j)) (by rw [Array.getElem?_toList]; exact tab_at U j hj)]; rfl
theorem Rb.set (h : Rb w p tb fo fn fc m U) (T : Nat → Nat) : Rb (w.setCells p 4 (tab T).toList) p tb fo fn fc m T := by
  have ht := h.there
  obtain ⟨⟨cur, h0⟩, h1, h2, h3, h4, h5⟩ := h
  have hc : ∀ i, i < 4 → (w.setCells p 4 (tab T).toList).cell? ⟨p, i, none⟩ = w.cell? ⟨p, i, none⟩ := fun i hi => World.cell?_setCells_out p _ _ _ _ (fun _ _ => .inl hi)
  refine ⟨heap_setCells_self _ _ _ _ h0, (hc 0 (by omega)).trans h1, (hc 1 (by omega)).trans h2, (hc 2 (by omega)).trans h3, (hc 3 (by omega)).trans h4, World.rangeAt_setCells_same _ _ _ _ ?_⟩
  rw [Array.length_toList, tab_size]; exact ht
end
/-- What a frame that was taken holds, as the map has it. -/
def En (w : World) (O : Nat → Prop) (p m : Nat) (T : Nat → Nat) (X : List Int) (q : Int) (v : Value) : Prop :=
  ∃ ao n c, v = .agg #[.slice ao n c, .int .i64 (take T X q).2.1] ∧ (take T X q).2.2 = 0 ∧ Bs w ao n (take T X q).1 ∧ n ≤ c ∧ c ≤ 9223372036854775807 ∧ (ao = none → c = 0) ∧ ∀ a, ao = some a → 0 < n → O a.block ∧ a.block ≠ p ∧ a.block ≠ m
theorem En.fr {S : Nat → Prop} {w w' : World} {O : Nat → Prop} {p m : Nat} {T : Nat → Nat} {X : List Int} {q : Int} {v : Value} (h : En w O p m T X q v) (hf : Fr S w w') (hn : ∀ k, O k → k ≠ p → k ≠ m → ¬ S k) : En w' O p m T X q v := by
  obtain ⟨ao, n, c, h1, h2, h3, h4, h5, h6, h7⟩ := h
  exact ⟨ao, n, c, h1, h2, h3.fr hf (fun a ha h0 => hn _ (h7 a ha h0).1 (h7 a ha h0).2.1 (h7 a ha h0).2.2), h4, h5, h6, h7⟩
theorem En.mono {w : World} {O O' : Nat → Prop} {p m : Nat} {T : Nat → Nat} {X : List Int} {q : Int} {v : Value} (h : En w O p m T X q v) (hn : ∀ k, O k → O' k) : En w O' p m T X q v := by
  obtain ⟨ao, n, c, h1, h2, h3, h4, h5, h6, h7⟩ := h
  exact ⟨ao, n, c, h1, h2, h3, h4, h5, h6, fun a ha h0 => ⟨hn _ (h7 a ha h0).1, (h7 a ha h0).2⟩⟩
/-- The reader of the bytes X by the table T; O: the blocks that are its own; N: at most so many frames were taken. -/
structure RdM' (w : World) (p : Nat) (O : Nat → Prop) (tb : Nat) (T : Nat → Nat) (X : List Int) (N : Nat) (fo : Option Addr) (fn fc m : Nat) (U : Nat → Nat) (D : DataW Value) : Prop where
  rb : Rb w p tb fo fn fc m U
  op : O p
  om : O m
  bs : Bs w fo fn X
  cap : fn ≤ fc
  max : fc ≤ 9223372036854775807
  nil : fo = none → fc = 0
  own : ∀ a, fo = some a → O a.block ∧ a.block ≠ p ∧ a.block ≠ m
  map : w.ownsMap Try.prog 3 HR m N D
  sums : D = .map [] ∨ ∀ i, i < 256 → U i = T i
  lt : ∀ k, O k → k < w.heap.size
  ents : ∀ q : Int, has D (.int .i64 q) = true → ∃ v, D.atKey (.int .i64 q) (.held zb) = .held v ∧ En w O p m T X q v
def RdM (w : World) (p : Nat) (O : Nat → Prop) (tb : Nat) (T : Nat → Nat) (X : List Int) (N : Nat) : Prop := ∃ fo fn fc m U D, RdM' w p O tb T X N fo fn fc m U D
section
variable {w w' : World} {p tb N fn fc m : Nat} {O : Nat → Prop} {T U : Nat → Nat} {X : List Int} {fo : Option Addr} {D : DataW Value}
theorem RdM'.ne (h : RdM' w p O tb T X N fo fn fc m U D) : m ≠ p := fun e => by
  obtain ⟨⟨cur, h0⟩, _⟩ := h.rb
  obtain ⟨es, clock, hb, _⟩ := h.map
  rw [e, h0] at hb; simp at hb
theorem ownsMap_fr {S : Nat → Prop} {w w' : World} {m N : Nat} {D : DataW Value} (h : w.ownsMap Try.prog 3 HR m N D) (hf : Fr S w w') (hn : ¬ S m) : w'.ownsMap Try.prog 3 HR m N D := by
  obtain ⟨es, clock, hb, r⟩ := h
  exact ⟨es, clock, (hf.block m (heap_lt hb) hn).trans hb, r⟩
theorem RdM'.fr {S : Nat → Prop} (h : RdM' w p O tb T X N fo fn fc m U D) (hf : Fr S w w') (hn : ∀ k, O k → ¬ S k) : RdM' w' p O tb T X N fo fn fc m U D :=
  ⟨h.rb.fr hf (hn _ h.op), h.op, h.om, h.bs.fr hf (fun a ha _ => hn _ (h.own a ha).1), h.cap, h.max, h.nil, h.own, ownsMap_fr h.map hf (hn _ h.om), h.sums, fun k hk => Nat.lt_of_lt_of_le (h.lt k hk) hf.size, fun q hq => by
    obtain ⟨v, h1, h2⟩ := h.ents q hq
    exact ⟨v, h1, h2.fr hf (fun k hk _ _ => hn k hk)⟩⟩
theorem RdM.fr {S : Nat → Prop} (h : RdM w p O tb T X N) (hf : Fr S w w') (hn : ∀ k, O k → ¬ S k) : RdM w' p O tb T X N := by
  obtain ⟨fo, fn, fc, m, U, D, h⟩ := h
  exact ⟨fo, fn, fc, m, U, D, h.fr hf hn⟩
theorem RdM.below (h : RdM w p O tb T X N) (hb : Below w.heap.size w w') : RdM w' p O tb T X N := h.fr (Fr.of_below (S := fun _ => False) hb) (fun _ _ h => h)
theorem RdM.mono {N' : Nat} (h : RdM w p O tb T X N) (hn : N ≤ N') : RdM w p O tb T X N' := by
  obtain ⟨fo, fn, fc, m, U, D, h⟩ := h
  exact ⟨fo, fn, fc, m, U, D, h.rb, h.op, h.om, h.bs, h.cap, h.max, h.nil, h.own, h.map.mono hn, h.sums, h.lt, h.ents⟩
/-- The map was cleared and the table laid down. -/
theorem RdM'.cleared {w1 : World} (h : RdM' w p O tb T X N fo fn fc m U D) (hm : w1.ownsMap Try.prog 3 HR m 0 (.map [])) (hg : w.grownBy w1 (some m)) : RdM' (w1.setCells p 4 (tab T).toList) p O tb T X 0 fo fn fc m T (.map []) ∧ Fr O w (w1.setCells p 4 (tab T).toList) ∧ Rb w1 p tb fo fn fc m U := by
  have f1 : Fr (One m) w w1 := Fr.of_grown hg (fun k hk => by cases hk; rfl)
  have r1 := h.rb.fr f1 (fun e => h.ne e.symm)
  have f2 : Fr (One p) w1 (w1.setCells p 4 (tab T).toList) := Fr.of_setCells _ _ _ _ _ rfl
  have fO : Fr O w (w1.setCells p 4 (tab T).toList) := (f1.mono (fun i _ (hi : i = m) => by rw [hi]; exact h.om)).trans f2 (fun i _ (hi : i = p) => by rw [hi]; exact h.op)
  refine ⟨⟨r1.set T, h.op, h.om, ?_, h.cap, h.max, h.nil, h.own, ownsMap_fr hm f2 h.ne, .inl rfl, fun k hk => Nat.lt_of_lt_of_le (h.lt k hk) fO.size, fun q hq => by simp [has] at hq⟩, fO, r1⟩
  exact (h.bs.fr f1 (fun a ha _ e => (h.own a ha).2.2 e)).fr f2 (fun a ha _ e => (h.own a ha).2.1 e)
/-- A frame more was taken. -/
theorem RdM'.stored {w1 w2 : World} {ao : Option Addr} {n c : Nat} {q : Int} (h : RdM' w p O tb T X N fo fn fc m U D) (hU : ∀ i, i < 256 → U i = T i) (hb : Below w.heap.size w w1) (h0 : (take T X q).2.2 = 0) (hB : Fresh w w1 ao n c (take T X q).1)
    (hm : w2.ownsMap Try.prog 3 HR m (N + 1) (D.put (.int .i64 q) (.held (.agg #[.slice ao n c, .int .i64 (take T X q).2.1])))) (hg : w1.grownBy w2 (some m)) :
    ∃ O', RdM w2 p O' tb T X (N + 1) ∧ Fr O w w2 ∧ Gr O O' w ∧ En w2 O' p m T X q (.agg #[.slice ao n c, .int .i64 (take T X q).2.1]) := by
  have f0 : Fr (fun _ => False) w w1 := Fr.of_below hb
  have h1 := h.fr f0 (fun _ _ => id)
  have f1 : Fr (One m) w1 w2 := Fr.of_grown hg (fun k hk => by cases hk; rfl)
  have hpl := h.rb.lt
  have hml := h.map.lt
  have hE : En w2 (fun k => O k ∨ (w.heap.size ≤ k ∧ k < w2.heap.size)) p m T X q (.agg #[.slice ao n c, .int .i64 (take T X q).2.1]) :=
    ⟨ao, n, c, rfl, h0, hB.bs.fr f1 (fun a ha _ e => by have := hB.new a ha; have e' : a.block = m := e; omega), hB.cap, hB.max, hB.nil, fun a ha hn0 => by
      have hnew := hB.new a ha
      refine ⟨.inr ⟨hnew, ?_⟩, by omega, by omega⟩
      rcases hB.bs.2.2 with h | ⟨b, off, h3, h4, _⟩
      · omega
      · rw [ha] at h3
        obtain rfl := Option.some.inj h3
        exact Nat.lt_of_lt_of_le h4 hg.size⟩
  refine ⟨fun k => O k ∨ (w.heap.size ≤ k ∧ k < w2.heap.size), ⟨fo, fn, fc, m, U, _, ⟨h1.rb.fr f1 (fun e => h.ne e.symm), .inl h.op, .inl h.om, h1.bs.fr f1 (fun a ha _ e => (h.own a ha).2.2 e), h.cap, h.max, h.nil, fun a ha => ⟨.inl (h.own a ha).1, (h.own a ha).2⟩, hm, .inr hU, fun k hk => ?_, fun k hk => ?_⟩⟩,
    (f0.mono (S' := O) (fun _ _ h => h.elim)).trans f1 (fun i _ (hi : i = m) => by rw [hi]; exact h.om), fun k hk => hk.imp id (fun h => h.1), hE⟩
  · have := hb.size
    have := hg.size
    rcases hk with hk | hk
    · have := h.lt k hk; omega
    · exact hk.2
  by_cases e : k = q
  · subst e
    refine ⟨_, ?_, hE⟩
    exact atKey_put_same (k := .int .i64 k) h.map.isMap (by simp [WideAt.IsKeyLit]) _ _
  · rw [has_put_other (by simpa using e)] at hk
    obtain ⟨v, v1, v2⟩ := h1.ents k hk
    refine ⟨v, ?_, (v2.fr f1 (fun _ _ _ hm' e' => hm' e')).mono (fun _ => .inl)⟩
    rw [atKey_put_other (by simpa using e)]; exact v1
end
end Go.Proofs.Ytmhgjilpgbkaaaa

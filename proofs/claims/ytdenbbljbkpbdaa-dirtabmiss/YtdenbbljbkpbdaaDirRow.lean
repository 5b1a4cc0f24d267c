/- Layer 10: entries in memory: one, a row of them that came in, a row of the call's own. Nothing here speaks of one function of the program. -/
import Derived.Test.YtdenbbljbkpbdaaDirPure
import Derived.Test.YtdenbbljbkpbdaaNamVal
import Derived.Deep.MidRow
import Derived.Deep.SlicePairs
import Derived.Deep.RegionHeld3
import Derived.Laws.CopyOwn
namespace Go.Proofs.Ytdenbbljbkpbdaa
set_option linter.unusedVariables false
set_option maxRecDepth 100000
open Go.RowKit Go.Maps Go.ChangeShapes Go.WideShapes Go.ChangeAt
open Nam Cur Dir

namespace Dir
theorem enters (fn : Nat) {f : Func} {c : Code} (hf : Try.prog.funcs[fn]? = some f) (hname : (f.name == "runtime.NumGoroutine") = false) (hb : f.body = some c) : ∀ (args : Array Value) (w : World), (callFunc fn args).run Try.prog w = .ok (.enter fn args) w := fun args w => by
  have hn : ¬ f.name = "runtime.NumGoroutine" := by simpa using hname
  simp [callFunc, hf, hn, hb]
theorem heap_new {w : World} {o : Obj} {k : Nat} (h : k = w.heap.size) : (w.alloc o).heap[k]? = some o := by subst h; exact heap_alloc_new w o
theorem below_drewN {B : Nat} {a b : World} (h : Below B a b) (n : Nat) : Below B a (b.drewN n) := ⟨h.os, h.tape, h.output, h.size, h.block⟩
theorem below_one (w : World) (o : Obj) : Below w.heap.size w (w.alloc o) := (Below.refl _ _).alloc (Nat.le_refl _) o
theorem below_eq {w w' : World} (h : w' = w) : Below w.heap.size w w' := by subst h; exact Below.refl _ _
theorem setRow_fr {S : Nat → Prop} {a b : World} (h : Fr S a b) (q : Nat) (cs : Array Value) (hp : q < a.heap.size → S q) : Fr S a (b.setRow q cs) :=
  ⟨h.os, h.tape, h.output, by simpa [World.setRow] using h.size, fun i hi hn => (setRow_other b q i cs (fun e => by subst e; exact hn (hp hi))).trans (h.block i hi hn)⟩
/-- An entry's cells. -/
def ev (E : Ent) : Array Value := #[.string E.name, .int .i64 E.kind, .int .i64 E.ref]
theorem ev_one (E : Ent) : (ev E).all (·.oneCell') = true := by simp [ev, Value.oneCell']
theorem ev_size (E : Ent) : (ev E).size = 3 := rfl
theorem infoRec : (Try.prog.info? 35).map (·.size) = some 3 := by kernel_rfl
theorem infoRecs : (Try.prog.info? 35).map (fun i => (i.zero, i.size, i.bytes)) = some (some (.agg (ev z0)), 3, 32) := by kernel_rfl
theorem yieldsIf_load_row {ops : Array Oper} {S : World → Prop} {op : Oper} {a : Act} (hw : Region.wanted op (yielded ops a.tmps) = true) (ty : TypeId) (x : Operand) (ho : op.op = .load ty x)
    (b : Nat) (hx : a.eval x = .pointer (some ⟨b, 0, none⟩)) (cs : Array Value) (hS : ∀ w, S w → (loadVar ty ⟨b, 0, none⟩).run Try.prog w = .ok (.agg cs) w) : YieldsIf Try.prog ops S op (.agg cs) a :=
  .inl ⟨hw, fun w hw' => by
    unfold execOp
    simp only [ho, hx, Instr.loadAt, Instr.sureAddr, Sem.run_bind, Sem.run_pure, Result.andThen_ok, hS w hw']⟩
theorem load_rec {w : World} {b t : Nat} {cs : Array Value} {fr : Nat × Nat} (h : w.heap[b]? = some (.cells cs t fr)) (hs : cs.size = 3) : (loadVar 35 ⟨b, 0, none⟩).run Try.prog w = .ok (.agg cs) w :=
  run_loadVar_row w b t 35 cs fr _ h Try.underlying35 rfl (by rw [hs]; exact infoRec)
/-- A whole entry loaded, also behind a test. -/
theorem wpList_load_rec {ops : Array Oper} {rest : List Oper} {o : Oper} {a : Act} {w : World} {Q : Exit → Act → World → Prop} (hw : Region.wanted o (yielded ops a.tmps) = true) (x : Operand) (ho : o.op = .load 35 x)
    (b : Nat) (hx : a.eval x = .pointer (some ⟨b, 0, none⟩)) (t : TypeId) (cs : Array Value) (fr : Nat × Nat) (hg : w.heap[b]? = some (.cells cs t fr)) (hs : cs.size = 3)
    (h : wpList Try.prog ops Q rest (a.put o.dst (.agg cs)) w) : wpList Try.prog ops Q (o :: rest) a w :=
  wpList_step fun K hK => by
    rw [if_pos hw]
    exact wp_load_row 35 x ho b hx t cs fr _ hg Try.underlying35 rfl (by rw [hs]; exact infoRec) (hK _ _ h)
/-- An entry loaded from the midst of a row, also behind a test. -/
theorem wpList_load_rec_at {ops : Array Oper} {rest : List Oper} {o : Oper} {a : Act} {w : World} {Q : Exit → Act → World → Prop} (hw : Region.wanted o (yielded ops a.tmps) = true) (x : Operand) (ho : o.op = .load 35 x)
    (b off : Nat) (hx : a.eval x = .pointer (some ⟨b, off, none⟩)) (K : Ent) (hc : w.rangeAt b off (ev K).toList)
    (h : wpList Try.prog ops Q rest (a.put o.dst (.agg (ev K))) w) : wpList Try.prog ops Q (o :: rest) a w :=
  wpList_step fun Kk hK => by
    rw [if_pos hw]
    exact wp_load_mid 35 x ho b off hx (ev K).toList _ hc Try.underlying35 rfl infoRec (hK _ _ h)
/-- Entries' cells, one behind the other. -/
def evs (Ks : List Ent) : List Value := (Ks.map fun K => (ev K).toList).flatten
theorem evs_append (A B : List Ent) : evs (A ++ B) = evs A ++ evs B := by simp [evs]
theorem evs_one (K : Ent) : evs [K] = (ev K).toList := by simp [evs]
theorem evs_length (Ks : List Ent) : (evs Ks).length = Ks.length * 3 := by
  induction Ks with
  | nil => rfl
  | cons K Ks ih =>
    have e : evs (K :: Ks) = (ev K).toList ++ evs Ks := by simp [evs]
    rw [e, List.length_append, ih, List.length_cons]
    have : (ev K).toList.length = 3 := rfl
    omega
theorem evs_get (Ks : List Ent) (j c : Nat) (h : j < Ks.length) (hc : c < 3) : (evs Ks)[j * 3 + c]? = (ev Ks[j]).toList[c]? := by
  have e : evs Ks = evs (Ks.take j) ++ ((ev Ks[j]).toList ++ evs (Ks.drop (j + 1))) := by
    have h1 : evs Ks = evs (Ks.take j ++ (Ks[j] :: Ks.drop (j + 1))) := by rw [List.getElem_cons_drop, List.take_append_drop]
    rw [h1, evs_append]
    unfold evs
    rw [List.map_cons, List.flatten_cons]
  have hl : (evs (Ks.take j)).length = j * 3 := by rw [evs_length, List.length_take, Nat.min_eq_left (by omega)]
  have hl2 : (ev Ks[j]).toList.length = 3 := rfl
  rw [e, List.getElem?_append_right (by omega), hl, List.getElem?_append_left (by omega)]
  congr 1
  omega
theorem evs_ones (Ks : List Ent) : ∀ u ∈ evs Ks, u.oneCell' = true := by
  intro u hu
  unfold evs at hu
  rw [List.mem_flatten] at hu
  obtain ⟨l, hl, hu⟩ := hu
  rw [List.mem_map] at hl
  obtain ⟨K, _, rfl⟩ := hl
  have := ev_one K
  rw [Array.all_eq_true_iff_forall_mem] at this
  exact this u (by simpa using hu)
theorem emptyR {w : World} {B t size : Nat} (hB : B ≤ w.heap.size) : (w.alloc (.cells #[] t)).ownsRow B t size (.slice (some ⟨w.heap.size, 0, none⟩) 0 0) 0 [] :=
  ⟨by simp, .inr ⟨w.heap.size, 0, #[], rfl, hB, heap_alloc_new w _, Nat.le_refl _, by unfold maxLen; omega, by simp, by simp⟩⟩
theorem range_below {w w' : World} {b o B : Nat} {cs : List Value} (h : w.rangeAt b o cs) (hb : Below B w w') (hlt : b < B) : w'.rangeAt b o cs := fun j v hv => (hb.cell (p := ⟨b, o + j, none⟩) hlt).trans (h j v hv)
theorem range_fr {S : Nat → Prop} {w w' : World} {b o : Nat} {cs : List Value} (h : w.rangeAt b o cs) (hf : Fr S w w') (hlt : b < w.heap.size) (hn : ¬ S b) : w'.rangeAt b o cs := fun j v hv => (hf.cell (q := ⟨b, o + j, none⟩) hlt hn).trans (h j v hv)
/-- The slice at ao, n long, holds the entries L. -/
def Es (w : World) (ao : Option Addr) (n : Nat) (L : List Ent) : Prop :=
  L.length = n ∧ (n = 0 ∨ ∃ b off, ao = some ⟨b, off, none⟩ ∧ b < w.heap.size ∧ ∀ i, i < n → w.rangeAt b (off + i * 3) (ev (gl L i)).toList)
theorem Es.below {w w' : World} {ao : Option Addr} {n : Nat} {L : List Ent} (h : Es w ao n L) (hb : Below w.heap.size w w') : Es w' ao n L := by
  refine ⟨h.1, ?_⟩
  rcases h.2 with h0 | ⟨b, off, h1, h2, h3⟩
  · exact .inl h0
  · exact .inr ⟨b, off, h1, Nat.lt_of_lt_of_le h2 hb.size, fun i hi => range_below (h3 i hi) hb h2⟩
theorem Es.fr {S : Nat → Prop} {w w' : World} {ao : Option Addr} {n : Nat} {L : List Ent} (h : Es w ao n L) (hf : Fr S w w') (hn : ∀ a, ao = some a → 0 < n → ¬ S a.block) : Es w' ao n L := by
  refine ⟨h.1, ?_⟩
  rcases h.2 with h0 | ⟨b, off, h1, h2, h3⟩
  · exact .inl h0
  · by_cases hz : n = 0
    · exact .inl hz
    · exact .inr ⟨b, off, h1, Nat.lt_of_lt_of_le h2 hf.size, fun i hi => range_fr (h3 i hi) hf h2 (hn _ h1 (by omega))⟩
theorem Es.take {w : World} {ao : Option Addr} {n : Nat} {L : List Ent} (h : Es w ao n L) (k : Nat) (hk : k ≤ n) : Es w ao k (L.take k) := by
  obtain ⟨hz, h0⟩ := h
  refine ⟨by simp; omega, ?_⟩
  rcases h0 with h0 | ⟨b, off, h1, h2, h3⟩
  · exact .inl (by omega)
  · exact .inr ⟨b, off, h1, h2, fun i hi => by rw [gl_take _ _ _ hi]; exact h3 i (by omega)⟩
theorem Es.nil (w : World) (ao : Option Addr) : Es w ao 0 [] := ⟨rfl, .inl rfl⟩
/-- The cells, where there is one. -/
theorem Es.at {w : World} {ao : Option Addr} {n : Nat} {L : List Ent} (h : Es w ao n L) (hn : 0 < n) : ∃ b off, ao = some ⟨b, off, none⟩ ∧ b < w.heap.size ∧ ∀ i, i < n → w.rangeAt b (off + i * 3) (ev (gl L i)).toList := by
  rcases h.2 with h0 | h0
  · omega
  · exact h0
/-- An entry's cells, one by one. -/
theorem range_cells {w : World} {b o : Nat} {K : Ent} (h : w.rangeAt b o (ev K).toList) : w.cell? ⟨b, o, none⟩ = some (.string K.name) ∧ w.cell? ⟨b, o + 1, none⟩ = some (.int .i64 K.kind) ∧ w.cell? ⟨b, o + 2, none⟩ = some (.int .i64 K.ref) :=
  ⟨h 0 _ rfl, h 1 _ rfl, h 2 _ rfl⟩
theorem es_of_owns {w : World} {B n c : Nat} {ao : Option Addr} {L : List Ent} (h : w.ownsRow B 35 3 (.slice ao n c) n (evs L)) : Es w ao n L := by
  have hlen : L.length = n := by have := h.1; rw [evs_length] at this; omega
  refine ⟨hlen, ?_⟩
  by_cases e : n = 0
  · exact .inl e
  · obtain ⟨gb, c', hv, _, hlt⟩ := h.form (by omega)
    obtain ⟨rfl, _, rfl⟩ : ao = some ⟨gb, 0, none⟩ ∧ n = n ∧ c = c' := by simpa using hv
    refine .inr ⟨gb, 0, rfl, hlt, fun i hi => ?_⟩
    rw [gl_lt L i (by omega), Nat.zero_add]
    intro j v hv
    have hj : j < 3 := by
      have := (List.getElem?_eq_some_iff.1 hv).1
      have e : (ev L[i]).toList.length = 3 := rfl
      omega
    rw [h.cellAt (i * 3 + j) (by omega), evs_get L i j (by omega) hj, hv]
theorem cap_own {w : World} {B e size n c : Nat} {ao : Option Addr} {vs : List Value} (h : w.ownsRow B e size (.slice ao n c) n vs) : n ≤ c ∧ c ≤ 9223372036854775807 ∧ (ao = none → c = 0) := by
  rcases h.2 with ⟨hv, h0⟩ | ⟨g, cap, cur, hv, _, _, h1, h2, _⟩
  · simp at hv
    obtain ⟨rfl, rfl, rfl⟩ := hv
    exact ⟨by omega, by omega, fun _ => rfl⟩
  · simp at hv
    obtain ⟨rfl, rfl⟩ := hv
    refine ⟨h1, ?_, fun h => by simp at h⟩
    unfold maxLen at h2; omega
theorem owns_obj {w : World} {B e size n k : Nat} {v : Value} {xs : List Value} (h : w.ownsRow B e size v n xs) (hk : v.ownBlock = some k) : ∃ cur, w.heap[k]? = some (.cells cur e (0, 0)) := by
  rcases h.2 with ⟨rfl, _⟩ | ⟨g, cap, cur, rfl, _, hgg, _⟩
  · simp [Value.ownBlock] at hk
  · simp [Value.ownBlock] at hk
    subst hk
    exact ⟨cur, hgg⟩
end Dir
/-- Entries that came in. -/
theorem open_entries {H : Type} {enc : TypeId × Value → H} {W : World} {base : Nat} {v : Value} {d : DataW H} {p : List MemPlace} (hok : Value.okWide Try.prog W .any base 22 v)
    (h : DataW.Trod enc Try.prog W 0 (fun _ => true) true 22 v d p) : ∃ a len cap L, v = .slice a len cap ∧ Es W a len L ∧ len ≤ cap ∧ cap ≤ 9223372036854775807 ∧ (∀ E ∈ L, E.In) ∧ (a = none → cap = 0) := by
  obtain ⟨a, len, cap, rfl⟩ := okWide_slice Try.underlying22 hok
  obtain ⟨fuel, hf⟩ := h
  rcases Deep.open_slice Try.underlying22 hf with ⟨hcs, _⟩ | ⟨x, l, c, m, n, D, Pl, hcs, _, hl, hm, hmm, _, hx⟩
  · simp [Value.cells] at hcs
    obtain ⟨rfl, rfl, rfl⟩ := hcs
    exact ⟨none, 0, 0, [], rfl, Es.nil _ _, by omega, by omega, by simp, fun _ => rfl⟩
  · simp [Value.cells] at hcs
    obtain ⟨rfl, rfl, rfl⟩ := hcs
    have ce : Try.prog.cellsOf 35 = 3 := by kernel_rfl
    have ci : Try.prog.cellsOf 3 = 1 := by kernel_rfl
    have c9 : Try.prog.cellsOf 9 = 1 := by kernel_rfl
    have hlm : len ≤ m := by rw [hmm]; simp; exact hl
    have each : ∀ i, i < len → ∃ o : Ent, (∀ k v, (ev o).toList[k]? = some v → W.cell? (x.add (i * 3 + k)) = some v) ∧ o.In := by
      intro i hi
      obtain ⟨cs', h1, h2⟩ := hx i (by omega)
      rw [ce] at h1
      obtain ⟨_, hlen, hcell⟩ := World.cells?_some h1
      obtain ⟨xs, k, hk, hxy, _, hxl, hfld⟩ := DataW.trod_struct Try.underlying35 h2
      match xs, hxl, cs', hlen with
      | [y0, y1, y2], _, [v0, v1, v2], _ =>
        have g0 := hfld 0 _ rfl
        have g1 := hfld 1 _ rfl
        have g2 := hfld 2 _ rfl
        simp [ci, c9] at g0 g1 g2
        obtain ⟨a0, q0, _, x0⟩ := DataW.trod_string Try.underlying9 g0
        obtain ⟨a1, q1, _, x1⟩ := DataW.trod_int Try.underlying3 g1
        obtain ⟨a2, q2, _, x2⟩ := DataW.trod_int Try.underlying3 g2
        simp at q0 q1 q2
        subst q0 q1 q2
        refine ⟨⟨a0, a1, a2⟩, fun k v hv => ?_, ⟨wf_i64_bd x1, wf_i64_bd x2⟩⟩
        have hk3 : k < 3 := (List.getElem?_eq_some_iff.1 hv).1
        have e0 := hcell k (by omega)
        rw [Deep.add_add] at e0
        rw [e0]
        exact hv
    obtain ⟨O, hO⟩ : ∃ O : Nat → Ent, ∀ i, i < len → (∀ k v, (ev (O i)).toList[k]? = some v → W.cell? (x.add (i * 3 + k)) = some v) ∧ (O i).In := by
      refine ⟨fun i => if h : i < len then (each i h).choose else z0, fun i hi => ?_⟩
      simp only [dif_pos hi]
      exact (each i hi).choose_spec
    refine ⟨_, len, cap, (List.range len).map O, rfl, ⟨by simp, ?_⟩, hl, by unfold maxLen at hm; omega, fun E hE => ?_, fun h => by simp at h⟩
    · by_cases e : len = 0
      · exact .inl e
      · obtain ⟨b, off, spot⟩ := x
        have h00 := (hO 0 (by omega)).1 0 _ rfl
        have hspot : spot = none := by simpa [Addr.add] using World.cell?_spot h00
        subst hspot
        have hlt : b < W.heap.size := by
          have := World.block_lt_of_cell? W _ h00
          simpa [Addr.add] using this
        refine .inr ⟨b, off, rfl, hlt, fun i hi => ?_⟩
        obtain ⟨h1, h2⟩ := hO i hi
        rw [gl_lt _ _ (by simpa using hi)]
        simp only [List.getElem_map, List.getElem_range]
        intro k v hv
        have := h1 k v hv
        simp only [Addr.add_lit, ← Nat.add_assoc] at this
        exact this
    · simp only [List.mem_map, List.mem_range] at hE
      obtain ⟨i, hi, rfl⟩ := hE
      exact (hO i hi).2
end Go.Proofs.Ytdenbbljbkpbdaa

/- Layer 6: rows of names in memory: one that came in, one of the call's own. Nothing here speaks of one function of the program. -/
import Derived.Test.YtgkclldiphcogaaBase
import Derived.Test.YtgkclldiphcogaaNamTxt
import Derived.Deep.Strs
import Derived.ProofKit
namespace Go.Proofs.Ytgkclldiphcogaa
set_option linter.unusedVariables false
open Go.RowKit Go.Maps Go.ChangeShapes Go.WideShapes Go.ChangeAt

/-- The name at a place; the empty one where there is none. -/
def gs (l : List ByteArray) (i : Nat) : ByteArray := l.getD i ⟨#[]⟩
theorem gs_lt (l : List ByteArray) (i : Nat) (h : i < l.length) : gs l i = l[i] := by simp [gs, h]
theorem gs_take (l : List ByteArray) (k i : Nat) (h : i < k) : gs (l.take k) i = gs l i := by simp [gs, h]
/-- Names as lists of bytes. -/
def nm (l : List ByteArray) : List (List UInt8) := l.map ByteArray.toList
theorem nm_length (l : List ByteArray) : (nm l).length = l.length := by simp [nm]
theorem nm_append (l m : List ByteArray) : nm (l ++ m) = nm l ++ nm m := by simp [nm]
theorem nm_take (l : List ByteArray) (k : Nat) : nm (l.take k) = (nm l).take k := by simp [nm]
theorem nm_drop (l : List ByteArray) (i : Nat) (h : i < l.length) : (nm l).drop i = (gs l i).toList :: (nm l).drop (i + 1) := by
  rw [List.drop_eq_getElem_cons (by rw [nm_length]; exact h), gs_lt l i h]
  simp [nm]
theorem nm_inj {l m : List ByteArray} (h : nm l = nm m) : l = m := List.map_inj_right (fun _ _ e => toList_inj e) |>.1 h
/-- The slice at ao, n long, holds the names l. -/
def Rs (w : World) (ao : Option Addr) (n : Nat) (l : List ByteArray) : Prop :=
  l.length = n ∧ (n = 0 ∨ ∃ b off, ao = some ⟨b, off, none⟩ ∧ b < w.heap.size ∧ ∀ i, i < l.length → w.cell? ⟨b, off + i, none⟩ = some (.string (gs l i)))
theorem Rs.below {w w' : World} {ao : Option Addr} {n : Nat} {l : List ByteArray} (h : Rs w ao n l) (hb : Below w.heap.size w w') : Rs w' ao n l := by
  refine ⟨h.1, ?_⟩
  rcases h.2 with h0 | ⟨b, off, h1, h2, h3⟩
  · exact .inl h0
  · exact .inr ⟨b, off, h1, Nat.lt_of_lt_of_le h2 hb.size, fun i hi => (hb.cell (by exact h2)).trans (h3 i hi)⟩
theorem Rs.drewN {w : World} {ao : Option Addr} {n : Nat} {l : List ByteArray} (h : Rs w ao n l) (k : Nat) : Rs (w.drewN k) ao n l := by
  refine ⟨h.1, ?_⟩
  rcases h.2 with h0 | ⟨b, off, h1, h2, h3⟩
  · exact .inl h0
  · exact .inr ⟨b, off, h1, h2, fun i hi => by rw [← h3 i hi]; simp⟩
theorem Rs.take {w : World} {ao : Option Addr} {n : Nat} {l : List ByteArray} (h : Rs w ao n l) (k : Nat) (hk : k ≤ n) : Rs w ao k (l.take k) := by
  obtain ⟨hz, h0⟩ := h
  refine ⟨by simp; omega, ?_⟩
  rcases h0 with h0 | ⟨b, off, h1, h2, h3⟩
  · exact .inl (by omega)
  · refine .inr ⟨b, off, h1, h2, fun i hi => ?_⟩
    simp at hi
    rw [gs_take _ _ _ (by omega)]
    exact h3 i (by omega)
theorem Rs.nil (w : World) (ao : Option Addr) : Rs w ao 0 [] := ⟨rfl, .inl rfl⟩
/-- The cells, where there is one. -/
theorem Rs.at {w : World} {ao : Option Addr} {n : Nat} {l : List ByteArray} (h : Rs w ao n l) (hn : 0 < n) : ∃ b off, ao = some ⟨b, off, none⟩ ∧ b < w.heap.size ∧ ∀ i, i < n → w.cell? ⟨b, off + i, none⟩ = some (.string (gs l i)) := by
  rcases h.2 with h0 | ⟨b, off, h1, h2, h3⟩
  · omega
  · exact ⟨b, off, h1, h2, fun i hi => h3 i (by rw [h.1]; exact hi)⟩
/-- Names as strings' values. -/
def sv (l : List ByteArray) : List Value := l.map Value.string
theorem sv_append (l m : List ByteArray) : sv (l ++ m) = sv l ++ sv m := by simp [sv]
theorem sv_length (l : List ByteArray) : (sv l).length = l.length := by simp [sv]
theorem rs_of_owns {w : World} {B n c : Nat} {ao : Option Addr} {l : List ByteArray} (h : w.ownsRow B 9 1 (.slice ao n c) n (sv l)) : Rs w ao n l := by
  have hlen : l.length = n := by have := h.1; rw [sv_length] at this; omega
  refine ⟨hlen, ?_⟩
  by_cases e : n = 0
  · exact .inl e
  · obtain ⟨gb, c', hv, _, hlt⟩ := h.form (by omega)
    obtain ⟨rfl, _, rfl⟩ : ao = some ⟨gb, 0, none⟩ ∧ n = n ∧ c = c' := by simpa using hv
    refine .inr ⟨gb, 0, rfl, hlt, fun i hi => ?_⟩
    rw [Nat.zero_add, h.cellAt i (by omega)]
    unfold sv
    rw [List.getElem?_map, List.getElem?_eq_getElem hi, gs_lt _ _ hi]; rfl
theorem infoStr : (Try.prog.info? 9).map (fun i => (i.zero, i.size, i.bytes)) = some (some (.string ⟨#[]⟩), 1, 16) := by kernel_rfl
theorem emptyS {w : World} {B : Nat} (hB : B ≤ w.heap.size) : (w.alloc (.cells #[] 9)).ownsRow B 9 1 (.slice (some ⟨w.heap.size, 0, none⟩) 0 0) 0 (sv []) :=
  ⟨rfl, .inr ⟨w.heap.size, 0, #[], rfl, hB, heap_alloc_new w _, Nat.le_refl _, by unfold maxLen; omega, rfl, rfl⟩⟩
theorem sv_one (l : List ByteArray) : ∀ u ∈ sv l, u.oneCell' = true := by
  intro u hu
  simp only [sv, List.mem_map] at hu
  obtain ⟨s, _, rfl⟩ := hu
  rfl
/-- 'append' of one name to a row of the call's own. -/
theorem wpList_append_str (w : World) {ops : Array Oper} {rest : List Oper} {o : Oper} {a : Act} {Q : Exit → Act → World → Prop} (hgd : o.guard = none) (s x : Operand)
    (ho : o.op = .call { callee := .builtin .append, args := #[s, x], argTypes := #[65, 65] })
    (base : Nat) (vo : Option Addr) (n vc : Nat) (l : List ByteArray) (hs : a.eval s = .slice vo n vc) (hown : w.ownsRow base 9 1 (.slice vo n vc) n (sv l))
    (p : Nat) (t : ByteArray) (hx : a.eval x = .slice (some ⟨p, 0, none⟩) 1 1) (hp : w.cell? ⟨p, 0, none⟩ = some (.string t))
    (hbd : n + 1 ≤ 100000000) (hbase : base ≤ w.heap.size)
    (h : ∀ ao' c' w', w'.ownsRow base 9 1 (.slice ao' (n + 1) c') (n + 1) (sv (l ++ [t])) → w.grownBy w' (Value.slice vo n vc).ownBlock → wpList Try.prog ops Q rest (a.put o.dst (.slice ao' (n + 1) c')) w') :
    wpList Try.prog ops Q (o :: rest) a w := by
  obtain ⟨i0, hi, hz0, hz1, hz2⟩ := info_parts infoStr
  refine wpList_append_own w hgd s x _ ho base 9 i0 (.string ⟨#[]⟩) 1 16 Try.underlying65 hi hz0 hz1 hz2 rfl (by decide) _ n (sv l) hs hown ⟨p, 0, none⟩ 1 1 (sv [t]) hx (by simp [sv]) ?_ (sv_one _) (by unfold maxLen; omega) (by omega) hbase ?_
  · intro j u hj
    match j, hj with
    | 0, hj => simp [sv] at hj; subst hj; simpa [Addr.add] using hp
  · intro v' w' h2 h3 _
    obtain ⟨ao', c', rfl⟩ := owns_shape h2
    exact h ao' c' w' (by rw [sv_append]; exact h2) h3

set_option maxRecDepth 100000 in
/-- A row of names that came in. -/
theorem open_names {H : Type} {enc : TypeId × Value → H} {W : World} {base : Nat} {v : Value} {d : DataW H} {p : List MemPlace} (hok : Value.okWide Try.prog W .any base 65 v)
    (h : DataW.Trod enc Try.prog W 0 (fun _ => true) true 65 v d p) : ∃ a len cap l, v = .slice a len cap ∧ Rs W a len l ∧ len ≤ cap ∧ cap ≤ 9223372036854775807 ∧ (∀ s ∈ l, s.size ≤ 9223372036854775807) := by
  obtain ⟨a, len, cap, rfl⟩ := okWide_slice Try.underlying65 hok
  obtain ⟨fuel, hf⟩ := h
  rcases Deep.open_strs Try.underlying65 Try.underlying9 (by kernel_rfl) hf with ⟨hcs, _⟩ | ⟨x, l, c, m, Sx, hcs, _, hl, hm, hmm, _, hr⟩
  · simp [Value.cells] at hcs
    obtain ⟨rfl, rfl, rfl⟩ := hcs
    exact ⟨none, 0, 0, [], rfl, Rs.nil _ _, by omega, by omega, by simp⟩
  · simp [Value.cells] at hcs
    obtain ⟨rfl, rfl, rfl⟩ := hcs
    simp only [if_true] at hmm
    subst hmm
    refine ⟨_, _, _, (List.range len).map Sx, rfl, ⟨by simp, ?_⟩, hl, by unfold maxLen at hm; omega, fun s hs => ?_⟩
    · by_cases e : len = 0
      · exact .inl e
      · obtain ⟨b, off, spot⟩ := x
        have hc0 := (hr 0 (by omega)).1
        have hspot : spot = none := by simpa [Addr.add] using World.cell?_spot hc0
        subst hspot
        have hlt : b < W.heap.size := by
          have := World.block_lt_of_cell? W _ hc0
          simpa [Addr.add] using this
        refine .inr ⟨b, off, rfl, hlt, fun i hi => ?_⟩
        simp at hi
        rw [gs_lt _ _ (by simpa using hi)]
        have := (hr i (by omega)).1
        rw [Addr.add_lit] at this
        simpa using this
    · simp only [List.mem_map, List.mem_range] at hs
      obtain ⟨i, hi, rfl⟩ := hs
      have := (hr i (by omega)).2
      unfold maxLen at this; omega
end Go.Proofs.Ytgkclldiphcogaa

/- Layer 6: what a bound on what comes in says of a row of names: how long their path is. -/
import Derived.Test.YtlaeplfbkpjpgaaNamSplits
namespace Go.Proofs.Ytlaeplfbkpjpgaa
set_option linter.unusedVariables false
open Go.RowKit Go.Maps Go.ChangeShapes Go.WideShapes Go.ChangeAt

theorem bulk_names {H : Type} : ∀ l : List ByteArray, Rows.uptoBulkAll (l.map fun s => DataW.lit (H := H) (.string s.data.toList)) = (jn l).length
  | [] => by simp [Rows.uptoBulkAll, jn, nm]
  | s :: l => by
    have e : jn (s :: l) = jn [s] ++ jn l := jn_append [s] l
    rw [List.map_cons, Rows.uptoBulkAll, bulk_names l, e, List.length_append, Rows.uptoBulk]
    have e2 : (jn [s]).length = s.data.toList.length + 1 := by simp [jn, nm, ByteArray.toList_eq]
    omega
set_option maxRecDepth 100000 in
/-- A row of names that came in, and how much it holds. -/
theorem open_nameb {H : Type} {enc : TypeId × Value → H} {W : World} {base : Nat} {v : Value} {d : DataW H} {p : List MemPlace} (hok : Value.okWide Try.prog W .any base 26 v)
    (h : DataW.Trod enc Try.prog W 0 (fun _ => true) true 26 v d p) : ∃ a len cap l, v = .slice a len cap ∧ Rs W a len l ∧ len ≤ cap ∧ cap ≤ 9223372036854775807 ∧ (jn l).length ≤ Rows.uptoBulk d := by
  obtain ⟨a, len, cap, rfl⟩ := okWide_slice Try.underlying26 hok
  obtain ⟨fuel, hf⟩ := h
  rcases Deep.open_strs Try.underlying26 Try.underlying9 (by kernel_rfl) hf with ⟨hcs, _⟩ | ⟨x, l, c, m, Sx, hcs, _, hl, hm, hmm, hd, hr⟩
  · simp [Value.cells] at hcs
    obtain ⟨rfl, rfl, rfl⟩ := hcs
    exact ⟨none, 0, 0, [], rfl, Rs.nil _ _, by omega, by omega, by simp [jn, nm]⟩
  · simp [Value.cells] at hcs
    obtain ⟨rfl, rfl, rfl⟩ := hcs
    simp only [if_true] at hmm
    subst hmm
    have hd1 := congrArg Prod.fst hd
    simp only at hd1
    refine ⟨_, _, _, (List.range len).map Sx, rfl, ⟨by simp, ?_⟩, hl, by unfold maxLen at hm; omega, ?_⟩
    · by_cases e : len = 0
      · exact .inl e
      · obtain ⟨b, off, spot⟩ := x
        have hc0 := (hr 0 (by omega)).1
        have hspot : spot = none := by simpa [Addr.add] using World.cell?_spot hc0
        subst hspot
        have hlt : b < W.heap.size := by
          have := World.block_lt_of_cell? W _ hc0
          simpa [Addr.add] using this
        refine .inr ⟨b, off, rfl, hlt, fun i hi => ?_⟩
        simp at hi
        rw [gs_lt _ _ (by simpa using hi)]
        have := (hr i (by omega)).1
        rw [Addr.add_lit] at this
        simpa using this
    · rw [hd1, ← bulk_names (H := H), Rows.uptoBulk, List.map_map]
      have : ((fun s : ByteArray => DataW.lit (H := H) (.string s.data.toList)) ∘ Sx) = fun i => DataW.lit (.string (Sx i).data.toList) := rfl
      rw [this]
      omega
theorem bound2 {H : Type} {d0 d1 : DataW H} (hk : Rows.uptoSmall H ([d0, d1] ++ []) = true) : Rows.uptoBulk d1 ≤ 1048576 := by
  have h : Rows.uptoBulkAll ([d0, d1] ++ []) ≤ 1048576 := of_decide_eq_true hk
  simp only [List.append_nil, Rows.uptoBulkAll] at h
  omega
theorem splitsUpto_walk {H : Type} (s : ByteArray) (a0 : Option Addr) (n0 c0 : Nat) (l0 : List ByteArray) (w : World) (hs : s.size ≤ maxLen) (h0 : Rs w a0 n0 l0) (h0c : n0 ≤ c0) (h0m : c0 ≤ 9223372036854775807) {d0 d1 : DataW H} (hb : (jn l0).length ≤ Rows.uptoBulk d1) (hk : Rows.uptoSmall H ([d0, d1] ++ []) = true) :
    Calls Try.prog 5 #[.string s, .slice a0 n0 c0] w fun e w' => e = .returned (.bool true) ∧ Below w.heap.size w w' :=
  splits_walk s a0 n0 c0 l0 w hs h0 h0c h0m (by have := bound2 hk; omega)
end Go.Proofs.Ytlaeplfbkpjpgaa

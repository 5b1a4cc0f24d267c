/- Layer 7: what is within a directory: the pure part; strings.Compare; rows of ints. -/
import Derived.Test.YtppmekmaclolbabTreStab5
import Derived.Lib.Bytealg
namespace Go.Proofs.Ytppmekmaclolbab
set_option linter.unusedVariables false
open Go.RowKit Go.Maps
open Nam Tre Stb

namespace Tre
theorem compare_neg : ∀ a b : List UInt8, Lib.compareBytes a b < 0 ↔ Op.bytesLess a b = true
  | [], [] => by simp [Lib.compareBytes, Op.bytesLess]
  | [], _ :: _ => by simp [Lib.compareBytes, Op.bytesLess]
  | _ :: _, [] => by simp [Lib.compareBytes, Op.bytesLess]
  | x :: a, y :: b => by
    unfold Lib.compareBytes Op.bytesLess
    have ih := compare_neg a b
    by_cases h : x < y
    · simp [h]
    · by_cases k : y < x
      · have hne : x ≠ y := fun e => by subst e; exact UInt8.lt_irrefl x k
        simp [h, k, hne]
      · have e : x = y := UInt8.le_antisymm (UInt8.not_lt.1 k) (UInt8.not_lt.1 h)
        subst e
        simp [h, ih]
/-- The name of a node at a place of its row. -/
def ky (L : List (Nv × Nod)) (p i : Nat) : List UInt8 := (gs (gl L i).2.names p).toList
/-- Whether a node stands within the directory of these names. -/
def kid (L : List (Nv × Nod)) (k : List ByteArray) (i : Nat) : Bool := decide ((gl L i).2.names.length = k.length + 1) && decide ((gl L i).2.names.take k.length = k)
/-- The order of what is within: by the last name, then by the place. -/
def kl (L : List (Nv × Nod)) (p i j : Nat) : Prop := Op.bytesLess (ky L p i) (ky L p j) = true ∨ (ky L p i = ky L p j ∧ i < j)
def kcm (L : List (Nv × Nod)) (p i j : Nat) : Int := Lib.compareBytes (ky L p i) (ky L p j)
theorem kl_irrefl (L : List (Nv × Nod)) (p i : Nat) : ¬ kl L p i i := by
  rintro (h | h)
  · rw [bless_irrefl] at h; cases h
  · omega
theorem kl_trans (L : List (Nv × Nod)) (p i j k : Nat) (h1 : kl L p i j) (h2 : kl L p j k) : kl L p i k := by
  rcases h1 with h1 | ⟨e1, h1⟩
  · rcases h2 with h2 | ⟨e2, h2⟩
    · exact .inl (bless_trans _ _ _ h1 h2)
    · rw [e2] at h1; exact .inl h1
  · rcases h2 with h2 | ⟨e2, h2⟩
    · rw [← e1] at h2; exact .inl h2
    · exact .inr ⟨e1.trans e2, by omega⟩
theorem kl_odr (L : List (Nv × Nod)) (p : Nat) : Odr (kcm L p) (kl L p) := by
  refine ⟨fun x y _ h => .inl ((compare_neg _ _).1 h), fun x y hxy h => ?_, kl_trans L p⟩
  by_cases e : ky L p y = ky L p x
  · exact .inr ⟨e, hxy⟩
  · rcases bless_total _ _ e with c | c
    · exact .inl c
    · exact absurd ((compare_neg _ _).2 c) h
/-- What is within the directory of these names, in order. -/
structure IsKids (L : List (Nv × Nod)) (k : List ByteArray) (K : List Nat) : Prop where
  pw : K.Pairwise (kl L k.length)
  mem : ∀ i, i ∈ K ↔ (i < L.length ∧ kid L k i = true)
theorem kids_one {L : List (Nv × Nod)} {k : List ByteArray} {K K' : List Nat} (h : IsKids L k K) (h' : IsKids L k K') : K = K' :=
  srd_one (kl_irrefl L _) (kl_trans L _) K K' h.pw h'.pw fun x => (h.mem x).trans (h'.mem x).symm
/-- Those among the first i. -/
def kf (L : List (Nv × Nod)) (k : List ByteArray) (i : Nat) : List Nat := (List.range i).filter (kid L k)
theorem kf_succ (L : List (Nv × Nod)) (k : List ByteArray) (i : Nat) : kf L k (i + 1) = if kid L k i = true then kf L k i ++ [i] else kf L k i := by
  unfold kf
  rw [List.range_succ, List.filter_append]
  by_cases h : kid L k i = true
  · rw [if_pos h]; simp [h]
  · rw [if_neg h]; simp [h]
theorem kf_lt {L : List (Nv × Nod)} {k : List ByteArray} {i x : Nat} (h : x ∈ kf L k i) : x < i ∧ kid L k x = true := by
  unfold kf at h
  rw [List.mem_filter] at h
  exact ⟨by simpa using h.1, h.2⟩
theorem kf_length (L : List (Nv × Nod)) (k : List ByteArray) (i : Nat) : (kf L k i).length ≤ i := by
  have := List.length_filter_le (kid L k) (List.range i)
  unfold kf
  simpa using this
theorem kf_rise (L : List (Nv × Nod)) (k : List ByteArray) (i : Nat) : (kf L k i).Pairwise (· < ·) := List.Pairwise.filter _ List.pairwise_lt_range
end Tre
/-- A row of numbers as a function of its place. -/
def fn0 (K : List Nat) : Nat → Nat := fun i => K.getD i 0
theorem fn0_lt (K : List Nat) (i : Nat) (h : i < K.length) : fn0 K i = K[i] := by simp [fn0, h]
theorem ivs_fn0 (K : List Nat) : ivs K.length (fn0 K) = K.map (fun z : Nat => Value.int .i64 (z : Int)) := by
  apply List.ext_getElem
  · simp [ivs]
  · intro i h1 h2
    have hi : i < K.length := by simpa [ivs] using h1
    simp [ivs, fn0, hi]
theorem isKids_of {L : List (Nv × Nod)} {k : List ByteArray} {D : Nat → Nat} (h : St (kl L k.length) (fn0 (kf L k L.length)) D 0 (kf L k L.length).length) : IsKids L k ((List.range (kf L k L.length).length).map D) := by
  constructor
  · rw [List.pairwise_map]
    refine (List.pairwise_lt_range (n := (kf L k L.length).length)).imp_of_mem ?_
    intro i j hi hj hij
    exact h.srd i j (Nat.zero_le _) hij (by simpa using hj)
  · intro i
    have e : i ∈ (List.range (kf L k L.length).length).map D ↔ In D 0 (kf L k L.length).length i := by
      rw [List.mem_map]
      exact ⟨fun ⟨x, h1, h2⟩ => ⟨x, Nat.zero_le _, by simpa using h1, h2⟩, fun ⟨x, _, h1, h2⟩ => ⟨x, by simpa using h1, h2⟩⟩
    rw [e, h.inn i]
    constructor
    · rintro ⟨x, _, hx, rfl⟩
      have : fn0 (kf L k L.length) x ∈ kf L k L.length := by
        rw [fn0_lt _ _ hx]
        exact List.getElem_mem hx
      exact kf_lt this
    · rintro ⟨h1, h2⟩
      have hm : i ∈ kf L k L.length := by
        unfold kf
        rw [List.mem_filter]
        exact ⟨by simpa using h1, h2⟩
      obtain ⟨x, hx, e⟩ := List.getElem_of_mem hm
      refine ⟨x, Nat.zero_le _, hx, ?_⟩
      rw [fn0_lt _ _ hx]; exact e
/-- A slice of ints in memory. -/
def Ki (w : World) (ao : Option Addr) (m : Nat) (K : List Nat) : Prop := K.length = m ∧ (m = 0 ∨ ∃ b, ao = some ⟨b, 0, none⟩ ∧ b < w.heap.size ∧ ∀ i, i < m → w.cell? ⟨b, i, none⟩ = some (.int .i64 (fn0 K i : Int)))
theorem Ki.below {w w' : World} {ao : Option Addr} {m : Nat} {K : List Nat} (h : Ki w ao m K) (hb : Below w.heap.size w w') : Ki w' ao m K := by
  refine ⟨h.1, ?_⟩
  rcases h.2 with c | ⟨b, h1, h2, h3⟩
  · exact .inl c
  · exact .inr ⟨b, h1, Nat.lt_of_lt_of_le h2 hb.size, fun i hi => (hb.cell h2).trans (h3 i hi)⟩
theorem Ki.of {w : World} {B m c : Nat} {ao : Option Addr} {K : List Nat} (h : w.ownsRow B 3 1 (.slice ao m c) m (K.map (fun z : Nat => Value.int .i64 (z : Int)))) : Ki w ao m K := by
  have hl : K.length = m := by have := h.1; simpa using this
  refine ⟨hl, ?_⟩
  by_cases hm0 : m = 0
  · exact .inl hm0
  · obtain ⟨g, c', hv, hg, _⟩ := h.form (by omega)
    obtain ⟨rfl, rfl⟩ : ao = some ⟨g, 0, none⟩ ∧ c = c' := by simpa using hv
    refine .inr ⟨g, rfl, (h.lt g rfl).2, fun i hi => ?_⟩
    rw [h.cellAt i (by omega)]
    simp [fn0, hl, hi]
theorem infoInt : (Try.prog.info? 3).map (fun i => (i.zero, i.size, i.bytes)) = some (some (.int .i64 0), 1, 8) := by kernel_rfl
theorem wpList_append_int (w : World) {ops : Array Oper} {rest : List Oper} {o : Oper} {a : Act} {Q : Exit → Act → World → Prop} (hgd : o.guard = none) (s x : Operand)
    (ho : o.op = .call { callee := .builtin .append, args := #[s, x], argTypes := #[28, 28] })
    (base : Nat) (vo : Option Addr) (n vc : Nat) (l : List Nat) (hs : a.eval s = .slice vo n vc) (hown : w.ownsRow base 3 1 (.slice vo n vc) n (l.map (fun z : Nat => Value.int .i64 (z : Int))))
    (p : Nat) (t : Nat) (hx : a.eval x = .slice (some ⟨p, 0, none⟩) 1 1) (hp : w.cell? ⟨p, 0, none⟩ = some (.int .i64 (t : Int)))
    (hbd : n + 1 ≤ 100000000) (hbase : base ≤ w.heap.size)
    (h : ∀ ao' c' w', w'.ownsRow base 3 1 (.slice ao' (n + 1) c') (n + 1) ((l ++ [t]).map (fun z : Nat => Value.int .i64 (z : Int))) → w.grownBy w' (Value.slice vo n vc).ownBlock → wpList Try.prog ops Q rest (a.put o.dst (.slice ao' (n + 1) c')) w') :
    wpList Try.prog ops Q (o :: rest) a w := by
  obtain ⟨i0, hi, hz0, hz1, hz2⟩ := info_parts infoInt
  refine wpList_append_own w hgd s x _ ho base 3 i0 (.int .i64 0) 1 8 Try.underlying28 hi hz0 hz1 hz2 rfl (by decide) _ n _ hs hown ⟨p, 0, none⟩ 1 1 [.int .i64 (t : Int)] hx (by simp) ?_ (by simp; rfl) (by unfold maxLen; omega) (by omega) hbase ?_
  · intro j u hj
    match j, hj with
    | 0, hj => simp at hj; subst hj; simpa [Addr.add] using hp
  · intro v' w' h2 h3 _
    obtain ⟨ao', c', rfl⟩ := owns_shape h2
    exact h ao' c' w' (by rw [List.map_append]; exact h2) h3
set_option maxRecDepth 100000 in
set_option maxHeartbeats 1000000 in
theorem compareString_any (s t : ByteArray) (w : World) : Calls Try.prog 34 #[.string s, .string t] w fun e w' => e = .returned (.int .i64 (Lib.compareBytes s.toList t.toList)) ∧ w' = w := by
  go_enter Try.func34, Try.ntmps34
  go_wp2
  rw [run_callFunc_extern Try.func56 (by kernel_rfl) (by kernel_rfl) (by kernel_rfl) (e := Extern.BytealgCompare.compare) (by kernel_rfl), Lib.run_compareString]
  simp only [Result.andThen]
  rw [Oper.upon_value]
  go_wp2
  go_ret
  exact ⟨ret_int (by rw [ByteArray.toList_eq, ByteArray.toList_eq]), rfl⟩
theorem strCompare_any (s t : ByteArray) (w : World) : Calls Try.prog 17 #[.string s, .string t] w fun e w' => e = .returned (.int .i64 (Lib.compareBytes s.toList t.toList)) ∧ w' = w := by
  go_enter Try.func17, Try.ntmps17
  go_wp2_with (go_at_call 34; refine (compareString_any _ _ _).mono ?_; rintro e w' ⟨rfl, rfl⟩)
  go_ret
  exact ⟨rfl, rfl⟩
end Go.Proofs.Ytppmekmaclolbab

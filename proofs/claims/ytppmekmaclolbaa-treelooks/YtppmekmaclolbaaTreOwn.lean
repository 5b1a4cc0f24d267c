/- Layer 7: rows of nodes of the call's own, and what is appended to them. Nothing here speaks of one function of the program. -/
import Derived.Test.YtppmekmaclolbaaTreRow
namespace Go.Proofs.Ytppmekmaclolbaa
set_option linter.unusedVariables false
open Go.RowKit Go.Maps
open Nam Tre

/-- Nodes' cells, one behind the other. -/
def nvs (V : List Nv) : List Value := V.flatMap (fun v => v.cells.toList)
theorem nvs_append (V U : List Nv) : nvs (V ++ U) = nvs V ++ nvs U := by simp [nvs]
theorem cells_length (v : Nv) : v.cells.toList.length = 10 := rfl
theorem nvs_length (V : List Nv) : (nvs V).length = V.length * 10 := by
  induction V with
  | nil => rfl
  | cons v r ih =>
    have : nvs (v :: r) = v.cells.toList ++ nvs r := by simp [nvs]
    rw [this, List.length_append, cells_length, ih, List.length_cons]; omega
theorem nvs_get (V : List Nv) (i c : Nat) (h : i < V.length) (hc : c < 10) : (nvs V)[i * 10 + c]? = (V[i].cells.toList)[c]? := by
  induction V generalizing i with
  | nil => simp at h
  | cons v r ih =>
    have e : nvs (v :: r) = v.cells.toList ++ nvs r := by simp [nvs]
    rw [e]
    cases i with
    | zero => rw [Nat.zero_mul, Nat.zero_add, List.getElem?_append_left (by rw [cells_length]; exact hc)]; rfl
    | succ i =>
      rw [List.getElem?_append_right (by rw [cells_length]; omega), cells_length, show (i + 1) * 10 + c - 10 = i * 10 + c by omega, ih i (by simpa using h)]
      rfl
def gv (V : List Nv) (i : Nat) : Nv := V.getD i nv0
theorem gv_lt (V : List Nv) (i : Nat) (h : i < V.length) : gv V i = V[i] := by simp [gv, h]
/-- The slice at ao, n long, holds nodes' cells. -/
def Sh (w : World) (ao : Option Addr) (n : Nat) (V : List Nv) : Prop :=
  V.length = n ∧ (n = 0 ∨ ∃ b off, ao = some ⟨b, off, none⟩ ∧ b < w.heap.size ∧ ∀ i, i < n → NodAt w b (off + i * 10) (gv V i))
theorem gv_map (L : List (Nv × Nod)) (i : Nat) (h : i < L.length) : gv (L.map (·.1)) i = (gl L i).1 := by
  rw [gv_lt _ _ (by simpa using h), gl_lt L i h]; simp
theorem Ns.sh {w : World} {ao : Option Addr} {n : Nat} {L : List (Nv × Nod)} (h : Ns w ao n L) : Sh w ao n (L.map (·.1)) := by
  refine ⟨by rw [List.length_map]; exact h.1, ?_⟩
  rcases h.2.2 with h0 | ⟨b, off, h1, h2, h3⟩
  · exact .inl h0
  · exact .inr ⟨b, off, h1, h2, fun i hi => by rw [gv_map L i (by rw [h.1]; exact hi)]; exact h3 i hi⟩
theorem Sh.ns {w : World} {ao : Option Addr} {n : Nat} {L : List (Nv × Nod)} (h : Sh w ao n (L.map (·.1))) (hr : ∀ p ∈ L, Rep w p.1 p.2) : Ns w ao n L := by
  have hl : L.length = n := by have := h.1; rw [List.length_map] at this; exact this
  refine ⟨hl, hr, ?_⟩
  rcases h.2 with h0 | ⟨b, off, h1, h2, h3⟩
  · exact .inl h0
  · exact .inr ⟨b, off, h1, h2, fun i hi => by rw [← gv_map L i (by rw [hl]; exact hi)]; exact h3 i hi⟩
theorem Sh.below {w w' : World} {ao : Option Addr} {n : Nat} {V : List Nv} (h : Sh w ao n V) (hb : Below w.heap.size w w') : Sh w' ao n V := by
  refine ⟨h.1, ?_⟩
  rcases h.2 with h0 | ⟨b, off, h1, h2, h3⟩
  · exact .inl h0
  · exact .inr ⟨b, off, h1, Nat.lt_of_lt_of_le h2 hb.size, fun i hi => (h3 i hi).below hb h2⟩
theorem Sh.at {w : World} {ao : Option Addr} {n : Nat} {V : List Nv} (h : Sh w ao n V) (hn : 0 < n) : ∃ b off, ao = some ⟨b, off, none⟩ ∧ b < w.heap.size ∧ ∀ i, i < n → NodAt w b (off + i * 10) (gv V i) := by
  rcases h.2 with h0 | h1
  · omega
  · exact h1
theorem NodAt.of {w : World} {b o : Nat} {v : Nv} (h : ∀ c, c < 10 → w.cell? ⟨b, o + c, none⟩ = (v.cells.toList)[c]?) : NodAt w b o v :=
  ⟨h 0 (by omega), h 1 (by omega), h 2 (by omega), h 3 (by omega), h 4 (by omega), h 5 (by omega), h 6 (by omega), h 7 (by omega), h 8 (by omega), h 9 (by omega)⟩
theorem NodAt.cell {w : World} {b o : Nat} {v : Nv} (h : NodAt w b o v) (c : Nat) (hc : c < 10) : w.cell? ⟨b, o + c, none⟩ = (v.cells.toList)[c]? := by
  match c, hc with
  | 0, _ => exact h.c0
  | 1, _ => exact h.c1
  | 2, _ => exact h.c2
  | 3, _ => exact h.c3
  | 4, _ => exact h.c4
  | 5, _ => exact h.c5
  | 6, _ => exact h.c6
  | 7, _ => exact h.c7
  | 8, _ => exact h.c8
  | 9, _ => exact h.c9
theorem sh_of_owns {w : World} {B n c : Nat} {ao : Option Addr} {V : List Nv} (h : w.ownsRow B 42 10 (.slice ao n c) n (nvs V)) : Sh w ao n V := by
  have hlen : V.length = n := by have := h.1; rw [nvs_length] at this; omega
  refine ⟨hlen, ?_⟩
  by_cases e : n = 0
  · exact .inl e
  · obtain ⟨gb, c', hv, _, hlt⟩ := h.form (by omega)
    obtain ⟨rfl, _, rfl⟩ : ao = some ⟨gb, 0, none⟩ ∧ n = n ∧ c = c' := by simpa using hv
    refine .inr ⟨gb, 0, rfl, hlt, fun i hi => NodAt.of fun k hk => ?_⟩
    rw [Nat.zero_add, h.cellAt _ (by omega), nvs_get V i k (by omega) hk, gv_lt V i (by omega)]
theorem cap_owns {w : World} {B n c size e : Nat} {ao : Option Addr} {xs : List Value} (h : w.ownsRow B e size (.slice ao n c) n xs) : n ≤ c ∧ c ≤ 9223372036854775807 ∧ (ao = none → c = 0) := by
  rcases h.2 with ⟨e, _⟩ | ⟨_, _, _, e, _, _, h1, h2, _⟩
  · simp at e; obtain ⟨rfl, rfl, rfl⟩ := e; exact ⟨by omega, by omega, fun _ => rfl⟩
  · simp at e; obtain ⟨rfl, rfl⟩ := e; unfold maxLen at h2; exact ⟨by omega, by omega, fun k => by simp at k⟩
theorem infoNode : (Try.prog.info? 42).map (fun i => (i.zero, i.size, i.bytes)) = some (some (.agg (Nv.cells nv0)), 10, 136) := by kernel_rfl
theorem emptyN {w : World} {B : Nat} (hB : B ≤ w.heap.size) : (w.alloc (.cells #[] 42)).ownsRow B 42 10 (.slice (some ⟨w.heap.size, 0, none⟩) 0 0) 0 (nvs []) :=
  ⟨rfl, .inr ⟨w.heap.size, 0, #[], rfl, hB, heap_alloc_new w _, Nat.le_refl _, by unfold maxLen; omega, rfl, rfl⟩⟩
theorem nilN (w : World) (B : Nat) : w.ownsRow B 42 10 (.slice none 0 0) 0 (nvs []) := ⟨rfl, .inl ⟨rfl, rfl⟩⟩
theorem nvs_one (V : List Nv) : ∀ u ∈ nvs V, u.oneCell' = true := by
  intro u hu
  simp only [nvs, List.mem_flatMap] at hu
  obtain ⟨v, _, hv⟩ := hu
  simp only [Nv.cells, List.mem_cons, List.not_mem_nil, or_false] at hv
  rcases hv with h | h | h | h | h | h | h | h | h | h <;> (rw [h]; rfl)
/-- 'append' of nodes to a row of the call's own. -/
theorem wpList_append_nod (w : World) {ops : Array Oper} {rest : List Oper} {o : Oper} {a : Act} {Q : Exit → Act → World → Prop} (hgd : o.guard = none) (s x : Operand)
    (ho : o.op = .call { callee := .builtin .append, args := #[s, x], argTypes := #[22, 22] })
    (base : Nat) (vo : Option Addr) (n vc : Nat) (V : List Nv) (hs : a.eval s = .slice vo n vc) (hown : w.ownsRow base 42 10 (.slice vo n vc) n (nvs V))
    (ao : Option Addr) (m c : Nat) (U : List Nv) (hx : a.eval x = .slice ao m c) (hb : Sh w ao m U) (hnil : ao = none → c = 0)
    (hbd : n + m ≤ 1000000) (hbase : base ≤ w.heap.size)
    (h : ∀ ao' c' w', w'.ownsRow base 42 10 (.slice ao' (n + m) c') (n + m) (nvs (V ++ U)) → w.grownBy w' (Value.slice vo n vc).ownBlock → wpList Try.prog ops Q rest (a.put o.dst (.slice ao' (n + m) c')) w') :
    wpList Try.prog ops Q (o :: rest) a w := by
  obtain ⟨i0, hi, hz0, hz1, hz2⟩ := info_parts infoNode
  obtain ⟨hz, h0⟩ := hb
  cases ao with
  | none =>
    obtain rfl : c = 0 := hnil rfl
    obtain rfl : m = 0 := by
      rcases h0 with h0 | ⟨b, off, h1, _⟩
      · exact h0
      · simp at h1
    obtain rfl : U = [] := List.eq_nil_of_length_eq_zero hz
    refine wpList_append_own_none hgd s x _ ho base 42 i0 10 Try.underlying22 hi _ n (nvs V) hs hown hx ?_
    have := h vo vc w (by simpa using hown) (World.grownBy.refl _ _)
    simpa using this
  | some ad =>
    refine wpList_append_own w hgd s x _ ho base 42 i0 (.agg (Nv.cells nv0)) 10 136 Try.underlying22 hi hz0 hz1 hz2 rfl (by decide) _ n (nvs V) hs hown ad m c (nvs U) hx (by rw [nvs_length]; omega) ?_ (nvs_one _) (by unfold maxLen; omega) (by omega) hbase ?_
    · rcases h0 with h0 | ⟨b, off, h1, _, hseg⟩
      · have : U = [] := List.eq_nil_of_length_eq_zero (by omega)
        subst this
        intro j u hu; simp [nvs] at hu
      · obtain rfl := Option.some.inj h1
        intro j u hu
        have hj : j < (nvs U).length := (List.getElem?_eq_some_iff.1 hu).1
        rw [nvs_length, hz] at hj
        have e : j = j / 10 * 10 + j % 10 := by omega
        have hq : j / 10 < m := by omega
        have hr : j % 10 < 10 := by omega
        rw [e, nvs_get U _ _ (by omega) hr] at hu
        rw [Addr.add_lit]
        have := (hseg (j / 10) hq).cell (j % 10) hr
        rw [gv_lt U _ (by omega)] at this
        rw [show off + j = off + j / 10 * 10 + j % 10 by omega, this]
        exact hu
    · intro v' w' h2 h3 _
      obtain ⟨ao', c', rfl⟩ := owns_shape h2
      exact h ao' c' w' (by rw [nvs_append]; exact h2) h3
theorem sh_one (w : World) (v : Nv) : Sh (w.alloc (.cells v.cells 42)) (some ⟨w.heap.size, 0, none⟩) 1 [v] := by
  refine ⟨rfl, .inr ⟨w.heap.size, 0, rfl, by simp, fun i hi => ?_⟩⟩
  obtain rfl : i = 0 := by omega
  obtain ⟨_, b0, b1, b2, b3, b4, b5, b6, b7, b8, b9⟩ := boxed w v
  exact ⟨b0, b1, b2, b3, b4, b5, b6, b7, b8, b9⟩
/-- Two nodes' cells. -/
def cells2 (v u : Nv) : Array Value := #[.slice v.na v.nn v.nc, .int .i64 v.ino, .int .i64 v.kind, .int .i64 v.mode, .int .i64 v.uid, .int .i64 v.gid, .slice v.da v.dn v.dc, .string v.tg, .slice v.xa v.xn v.xc, .bool v.op, .slice u.na u.nn u.nc, .int .i64 u.ino, .int .i64 u.kind, .int .i64 u.mode, .int .i64 u.uid, .int .i64 u.gid, .slice u.da u.dn u.dc, .string u.tg, .slice u.xa u.xn u.xc, .bool u.op]
theorem sh_two (w : World) (v u : Nv) : Sh (w.alloc (.cells (cells2 v u) 42)) (some ⟨w.heap.size, 0, none⟩) 2 [v, u] := by
  refine ⟨rfl, .inr ⟨w.heap.size, 0, rfl, by simp, fun i hi => ?_⟩⟩
  match i, hi with
  | 0, _ => constructor <;> simp [cells2, gv]
  | 1, _ => constructor <;> simp [cells2, gv]
theorem sh_one' {w : World} {v : Nv} {p : Nat} (hp : p = w.heap.size) : Sh (w.alloc (.cells v.cells 42)) (some ⟨p, 0, none⟩) 1 [v] := by
  subst hp; exact sh_one w v
theorem sh_two' {w : World} {v u : Nv} {p : Nat} (hp : p = w.heap.size) : Sh (w.alloc (.cells (cells2 v u) 42)) (some ⟨p, 0, none⟩) 2 [v, u] := by
  subst hp; exact sh_two w v u
end Go.Proofs.Ytppmekmaclolbaa

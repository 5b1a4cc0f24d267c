/- What the proof stands on: TreApp, with what the proof reaches of it. -/
import Derived.Test.YtchcejjoncihkaaGreatDoorTreCopy

/- Layer 7: nodes that are appended to rows, in regions that draw; parts of rows. -/
namespace Go.Proofs.YtchcejjoncihkaaGreatDoor
set_option linter.unusedVariables false
open Go.RowKit Go.Maps
open Nam Tre

theorem owns_low {w : World} {B B' e size n : Nat} {v : Value} {xs : List Value} (h : w.ownsRow B e size v n xs) (hb : B' ≤ B) : w.ownsRow B' e size v n xs := by
  refine ⟨h.1, ?_⟩
  rcases h.2 with h0 | ⟨g, cap, cur, h1, h2, h3⟩
  · exact .inl h0
  · exact .inr ⟨g, cap, cur, h1, Nat.le_trans hb h2, h3⟩
/-- 'append' of nodes, as it runs. -/
theorem run_append_nod (w : World) (ty : TypeId) (base : Nat) (vo : Option Addr) (n vc : Nat) (V : List Nv) (hown : w.ownsRow base 37 10 (.slice vo n vc) n (nvs V))
    (ao : Option Addr) (m c : Nat) (U : List Nv) (hb : Sh w ao m U) (hnil : ao = none → c = 0) (hbd : n + m ≤ 1000000) (hbase : base ≤ w.heap.size) :
    ∃ ao' c' w', (Builtin.append_ #[22, 22] ty #[.slice vo n vc, .slice ao m c]).run Tryz.prog w = .ok (.slice ao' (n + m) c') w' ∧ w'.ownsRow base 37 10 (.slice ao' (n + m) c') (n + m) (nvs (V ++ U)) ∧ w.grownBy w' (Value.slice vo n vc).ownBlock := by
  obtain ⟨i0, hi, hz0, hz1, hz2⟩ := info_parts infoNode
  obtain ⟨hz, h0⟩ := hb
  cases ao with
  | none =>
    obtain rfl : c = 0 := hnil rfl
    obtain rfl : m = 0 := by
      rcases h0 with h0 | ⟨b, off, h1, _⟩
      · exact h0
      · simp at h1
    obtain rfl : U = [] := List.eq_nil_of_length_eq_zero hz
    refine ⟨vo, vc, w, ?_, by simpa using hown, World.grownBy.refl _ _⟩
    exact run_append_owned_none (P := Tryz.prog) w base 22 ty 37 i0 10 Tryz.underlying22 hi _ n (nvs V) hown
  | some ad =>
    obtain ⟨v', w', hr, ho, hg, _⟩ := run_append_own (P := Tryz.prog) w base 22 ty 37 i0 (.agg (Nv.cells nv0)) 10 136 Tryz.underlying22 hi hz0 hz1 hz2 rfl (by decide) (.slice vo n vc) n (nvs V) hown ad m c (nvs U) (by rw [nvs_length]; omega) (by
      rcases h0 with h0 | ⟨b, off, h1, _, hseg⟩
      · have : U = [] := List.eq_nil_of_length_eq_zero (by omega)
        subst this
        intro j u hu; simp [nvs] at hu
      · obtain rfl := Option.some.inj h1
        intro j u hu
        have hj : j < (nvs U).length := (List.getElem?_eq_some_iff.1 hu).1
        rw [nvs_length, hz] at hj
        have e : j = j / 10 * 10 + j % 10 := by omega
        have hq : j / 10 < m := by omega
        have hr : j % 10 < 10 := by omega
        rw [e, nvs_get U _ _ (by omega) hr] at hu
        rw [Addr.add_lit]
        have := (hseg (j / 10) hq).cell (j % 10) hr
        rw [gv_lt U _ (by omega)] at this
        rw [show off + j = off + j / 10 * 10 + j % 10 by omega, this]
        exact hu) (nvs_one _) (by unfold maxLen; omega) (by omega) hbase
    obtain ⟨ao', c', rfl⟩ := owns_shape ho
    exact ⟨ao', c', w', hr, by rw [nvs_append]; exact ho, hg⟩
theorem step_append_nod (w : World) {ops : Array Oper} {o : Oper} {a : Act} {K : Act → World → Prop} {Q : Exit → Act → World → Prop} {E : Prop} (hgd : o.guard = none) (s x : Operand)
    (ho : o.op = .call { callee := .builtin .append, args := #[s, x], argTypes := #[22, 22] })
    (W : World) (hW : Below W.heap.size W w) (vo : Option Addr) (n vc : Nat) (V : List Nv) (hs : a.eval s = .slice vo n vc) (hown : w.ownsRow W.heap.size 37 10 (.slice vo n vc) n (nvs V))
    (ao : Option Addr) (m c : Nat) (U : List Nv) (hx : a.eval x = .slice ao m c) (hb : Sh w ao m U) (hnil : ao = none → c = 0) (k : Nat) (hk : n + m = k) (T : List Nv) (hT : V ++ U = T) (hbd : k ≤ 1000000)
    (h : ∀ ao' c' w', w'.ownsRow W.heap.size 37 10 (.slice ao' k c') k (nvs T) → w.grownBy w' (Value.slice vo n vc).ownBlock → Below W.heap.size W w' → K (a.put o.dst (.slice ao' k c')) w') :
    if Region.wanted o (yielded ops a.tmps) = true then Oper.wp Tryz.prog o a w K Q else E := by
  subst hk hT
  obtain ⟨ao', c', w', hr, h1, h2⟩ := run_append_nod w o.type W.heap.size vo n vc V hown ao m c U hb hnil hbd hW.size
  exact step_append_run hgd s x _ ho _ _ _ hs hx hr (h ao' c' w' h1 h2 (hW.grown h2 hW.size (fun k e => (hown.lt k e).1)))
theorem up_drewN {W w : World} (h : Below W.heap.size W w) (k : Nat) : Below W.heap.size W (w.drewN k) := h.trans ((drewN_below (B := w.heap.size) w k).mono h.size)
theorem up_drew {W w : World} (h : Below W.heap.size W w) : Below W.heap.size W w.drew := up_drewN h 1
theorem up_alloc {W w : World} (h : Below W.heap.size W w) (o : Obj) : Below W.heap.size W (w.alloc o) := h.alloc h.size o
theorem emptyN' {w : World} {B p : Nat} (hB : B ≤ w.heap.size) (hp : p = w.heap.size) : (w.alloc (.cells #[] 37)).ownsRow B 37 10 (.slice (some ⟨p, 0, none⟩) 0 0) 0 (nvs []) := by subst hp; exact emptyN hB
theorem Sh.take {w : World} {ao : Option Addr} {n : Nat} {V : List Nv} (h : Sh w ao n V) (k : Nat) (hk : k ≤ n) : Sh w ao k (V.take k) := by
  refine ⟨by rw [List.length_take, h.1]; omega, ?_⟩
  rcases h.2 with h0 | ⟨b, off, h1, h2, h3⟩
  · exact .inl (by omega)
  · refine .inr ⟨b, off, h1, h2, fun i hi => ?_⟩
    have := h3 i (by omega)
    rw [gv_lt _ _ (by rw [h.1]; omega)] at this
    rw [gv_lt _ _ (by rw [List.length_take, h.1]; omega), List.getElem_take]
    exact this
theorem Sh.drop {w : World} {b off n : Nat} {V : List Nv} (h : Sh w (some ⟨b, off, none⟩) n V) (k : Nat) (hk : k ≤ n) : Sh w (some ⟨b, off + k * 10, none⟩) (n - k) (V.drop k) := by
  refine ⟨by rw [List.length_drop, h.1], ?_⟩
  rcases h.2 with h0 | ⟨b', off', h1, h2, h3⟩
  · exact .inl (by omega)
  · obtain ⟨rfl, rfl⟩ : b = b' ∧ off = off' := by simpa using h1
    refine .inr ⟨b, off + k * 10, rfl, h2, fun i hi => ?_⟩
    have := h3 (k + i) (by omega)
    rw [gv_lt _ _ (by rw [h.1]; omega)] at this
    rw [gv_lt _ _ (by rw [List.length_drop, h.1]; omega), List.getElem_drop, show off + k * 10 + i * 10 = off + (k + i) * 10 by omega]
    exact this
end Go.Proofs.YtchcejjoncihkaaGreatDoor

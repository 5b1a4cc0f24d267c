/- Layer 7: the reference's Sorted. -/
import Derived.Test.YtppmekmaclolbaaTreRefSame
import Derived.Test.YtppmekmaclolbaaTreSort
namespace Go.Proofs.Ytppmekmaclolbaa
set_option linter.unusedVariables false
open Go.RowKit Go.Maps
open Nam Tre

/-- Nodes in order. -/
def Srt (C : List (Nv × Nod)) : Prop := C.Pairwise (fun p q => ltn q.2 p.2 = false)
/-- One more in its place. -/
def insJ (C : List (Nv × Nod)) (x : Nv × Nod) (j : Nat) : List (Nv × Nod) := C.take j ++ [x] ++ C.drop j
theorem ltn_asymm {a b : Nod} (h : ltn a b = true) : ltn b a = false := by
  cases h2 : ltn b a with
  | false => rfl
  | true => have := less_trans _ _ _ h h2; rw [less_irrefl] at this; cases this
theorem insJ_srt {C : List (Nv × Nod)} {x : Nv × Nod} {j : Nat} (hs : Srt C) (hj : j ≤ C.length) (h1 : ∀ k, j ≤ k → k < C.length → ltn x.2 (gl C k).2 = true) (h2 : j = 0 ∨ ltn x.2 (gl C (j - 1)).2 = false) : Srt (insJ C x j) := by
  have hs' : (C.take j ++ C.drop j).Pairwise (fun p q => ltn q.2 p.2 = false) := by rw [List.take_append_drop]; exact hs
  obtain ⟨s1, s2, s3⟩ := List.pairwise_append.1 hs'
  have hx : ∀ p ∈ C.take j, ltn x.2 p.2 = false := by
    intro p hp
    rcases h2 with h0 | h2
    · rw [h0] at hp; simp at hp
    · obtain ⟨k, hk, rfl⟩ := List.mem_take_iff_getElem.1 hp
      have hk1 : k < j := by omega
      have hk2 : k < C.length := by omega
      rw [gl_lt C (j - 1) (by omega)] at h2
      by_cases e : k = j - 1
      · subst e; exact h2
      · exact less_ntrans _ _ _ h2 (List.pairwise_iff_getElem.1 hs k (j - 1) hk2 (by omega) (by omega))
  have hy : ∀ q ∈ C.drop j, ltn q.2 x.2 = false := by
    intro q hq
    obtain ⟨k, hk, rfl⟩ := List.mem_drop_iff_getElem.1 hq
    have := h1 (j + k) (by omega) (by omega)
    rw [gl_lt C (j + k) (by omega)] at this
    exact ltn_asymm this
  unfold Srt insJ
  rw [List.append_assoc, List.pairwise_append]
  refine ⟨s1, List.pairwise_cons.2 ⟨hy, s2⟩, fun p hp q hq => ?_⟩
  rcases List.mem_cons.1 hq with rfl | hq
  · exact hx p hp
  · exact s3 p hp q hq
theorem insJ_perm {C L : List (Nv × Nod)} {i j : Nat} (hp : C.Perm (L.take i)) (hi : i < L.length) : (insJ C (gl L i) j).Perm (L.take (i + 1)) := by
  rw [List.take_succ_eq_append_getElem hi, ← gl_lt L i hi]
  refine List.Perm.trans ?_ (hp.append_right _)
  unfold insJ
  have e : C ++ [gl L i] = C.take j ++ (C.drop j ++ [gl L i]) := by rw [← List.append_assoc, List.take_append_drop]
  rw [e, List.append_assoc]
  exact List.Perm.append_left _ List.perm_append_comm
/-- 'append' of nodes, as it runs. -/
theorem run_append_nod (w : World) (ty : TypeId) (base : Nat) (vo : Option Addr) (n vc : Nat) (V : List Nv) (hown : w.ownsRow base 42 10 (.slice vo n vc) n (nvs V))
    (ao : Option Addr) (m c : Nat) (U : List Nv) (hb : Sh w ao m U) (hnil : ao = none → c = 0) (hbd : n + m ≤ 1000000) (hbase : base ≤ w.heap.size) :
    ∃ ao' c' w', (Builtin.append_ #[22, 22] ty #[.slice vo n vc, .slice ao m c]).run Try.prog w = .ok (.slice ao' (n + m) c') w' ∧ w'.ownsRow base 42 10 (.slice ao' (n + m) c') (n + m) (nvs (V ++ U)) ∧ w.grownBy w' (Value.slice vo n vc).ownBlock := by
  obtain ⟨i0, hi, hz0, hz1, hz2⟩ := info_parts infoNode
  obtain ⟨hz, h0⟩ := hb
  cases ao with
  | none =>
    obtain rfl : c = 0 := hnil rfl
    obtain rfl : m = 0 := by
      rcases h0 with h0 | ⟨b, off, h1, _⟩
      · exact h0
      · simp at h1
    obtain rfl : U = [] := List.eq_nil_of_length_eq_zero hz
    refine ⟨vo, vc, w, ?_, by simpa using hown, World.grownBy.refl _ _⟩
    exact run_append_owned_none (P := Try.prog) w base 22 ty 42 i0 10 Try.underlying22 hi _ n (nvs V) hown
  | some ad =>
    obtain ⟨v', w', hr, ho, hg, _⟩ := run_append_own (P := Try.prog) w base 22 ty 42 i0 (.agg (Nv.cells nv0)) 10 136 Try.underlying22 hi hz0 hz1 hz2 rfl (by decide) (.slice vo n vc) n (nvs V) hown ad m c (nvs U) (by rw [nvs_length]; omega) (by
      rcases h0 with h0 | ⟨b, off, h1, _, hseg⟩
      · have : U = [] := List.eq_nil_of_length_eq_zero (by omega)
        subst this
        intro j u hu; simp [nvs] at hu
      · obtain rfl := Option.some.inj h1
        intro j u hu
        have hj : j < (nvs U).length := (List.getElem?_eq_some_iff.1 hu).1
        rw [nvs_length, hz] at hj
        have e : j = j / 10 * 10 + j % 10 := by omega
        have hq : j / 10 < m := by omega
        have hr : j % 10 < 10 := by omega
        rw [e, nvs_get U _ _ (by omega) hr] at hu
        rw [Addr.add_lit]
        have := (hseg (j / 10) hq).cell (j % 10) hr
        rw [gv_lt U _ (by omega)] at this
        rw [show off + j = off + j / 10 * 10 + j % 10 by omega, this]
        exact hu) (nvs_one _) (by unfold maxLen; omega) (by omega) hbase
    obtain ⟨ao', c', rfl⟩ := owns_shape ho
    exact ⟨ao', c', w', hr, by rw [nvs_append]; exact ho, hg⟩
theorem step_append_nod (w : World) {ops : Array Oper} {o : Oper} {a : Act} {K : Act → World → Prop} {Q : Exit → Act → World → Prop} {E : Prop} (hgd : o.guard = none) (s x : Operand)
    (ho : o.op = .call { callee := .builtin .append, args := #[s, x], argTypes := #[22, 22] })
    (W : World) (hW : Below W.heap.size W w) (vo : Option Addr) (n vc : Nat) (V : List Nv) (hs : a.eval s = .slice vo n vc) (hown : w.ownsRow W.heap.size 42 10 (.slice vo n vc) n (nvs V))
    (ao : Option Addr) (m c : Nat) (U : List Nv) (hx : a.eval x = .slice ao m c) (hb : Sh w ao m U) (hnil : ao = none → c = 0) (k : Nat) (hk : n + m = k) (T : List Nv) (hT : V ++ U = T) (hbd : k ≤ 1000000)
    (h : ∀ ao' c' w', w'.ownsRow W.heap.size 42 10 (.slice ao' k c') k (nvs T) → w.grownBy w' (Value.slice vo n vc).ownBlock → Below W.heap.size W w' → K (a.put o.dst (.slice ao' k c')) w') :
    if Region.wanted o (yielded ops a.tmps) = true then Oper.wp Try.prog o a w K Q else E := by
  subst hk hT
  obtain ⟨ao', c', w', hr, h1, h2⟩ := run_append_nod w o.type W.heap.size vo n vc V hown ao m c U hb hnil hbd hW.size
  exact step_append_run hgd s x _ ho _ _ _ hs hx hr (h ao' c' w' h1 h2 (hW.grown h2 hW.size (fun k e => (hown.lt k e).1)))
theorem up_drewN {W w : World} (h : Below W.heap.size W w) (k : Nat) : Below W.heap.size W (w.drewN k) := h.trans ((below_drewN (B := w.heap.size) w k).mono h.size)
theorem up_drew {W w : World} (h : Below W.heap.size W w) : Below W.heap.size W w.drew := up_drewN h 1
theorem up_alloc {W w : World} (h : Below W.heap.size W w) (o : Obj) : Below W.heap.size W (w.alloc o) := h.alloc h.size o
theorem heap_new' {w : World} {o : Obj} {p : Nat} (hp : p = w.heap.size) : (w.alloc o).heap[p]? = some o := by subst hp; exact heap_alloc_new w o
theorem heap_old' {w : World} {o z : Obj} {p : Nat} (h : w.heap[p]? = some z) : (w.alloc o).heap[p]? = some z := by
  have hp : p < w.heap.size := heap_lt h
  simp only [World.alloc]
  rw [Array.getElem?_push_lt hp, ← Array.getElem?_eq_getElem hp]; exact h
theorem emptyN' {w : World} {B p : Nat} (hB : B ≤ w.heap.size) (hp : p = w.heap.size) : (w.alloc (.cells #[] 42)).ownsRow B 42 10 (.slice (some ⟨p, 0, none⟩) 0 0) 0 (nvs []) := by subst hp; exact emptyN hB
theorem ten {w : World} {b o : Nat} {v : Nv} (h0 : NodAt w b o v) : w.cell? ⟨b, o, none⟩ = some (.slice v.na v.nn v.nc) ∧ w.cell? ⟨b, o + 1, none⟩ = some (.int .i64 v.ino) ∧ w.cell? ⟨b, o + 2, none⟩ = some (.int .i64 v.kind) ∧ w.cell? ⟨b, o + 3, none⟩ = some (.int .i64 v.mode) ∧ w.cell? ⟨b, o + 4, none⟩ = some (.int .i64 v.uid) ∧ w.cell? ⟨b, o + 5, none⟩ = some (.int .i64 v.gid) ∧ w.cell? ⟨b, o + 6, none⟩ = some (.slice v.da v.dn v.dc) ∧ w.cell? ⟨b, o + 7, none⟩ = some (.string v.tg) ∧ w.cell? ⟨b, o + 8, none⟩ = some (.slice v.xa v.xn v.xc) ∧ w.cell? ⟨b, o + 9, none⟩ = some (.bool v.op) := ⟨h0.c0, h0.c1, h0.c2, h0.c3, h0.c4, h0.c5, h0.c6, h0.c7, h0.c8, h0.c9⟩
theorem box_keep {w w' : World} {p : Nat} {v : Nv} {r : Option Nat} (hb : w.heap[p]? = some (.cells v.cells 42 (0, 0))) (hg : w.grownBy w' r) (hne : r ≠ some p) : Sh w' (some ⟨p, 0, none⟩) 1 [v] := by
  have hp : p < w.heap.size := heap_lt hb
  have hb' : w'.heap[p]? = some (.cells v.cells 42 (0, 0)) := by rw [hg.block p hp (fun e => hne e.symm)]; exact hb
  refine ⟨rfl, .inr ⟨p, 0, rfl, heap_lt hb', fun i hi => ?_⟩⟩
  obtain rfl : i = 0 := by omega
  have hbk : Bk w' p v := hb'
  obtain ⟨_, b0, b1, b2, b3, b4, b5, b6, b7, b8, b9⟩ := hbk.box
  exact ⟨b0, b1, b2, b3, b4, b5, b6, b7, b8, b9⟩
theorem Sh.take {w : World} {ao : Option Addr} {n : Nat} {V : List Nv} (h : Sh w ao n V) (k : Nat) (hk : k ≤ n) : Sh w ao k (V.take k) := by
  refine ⟨by rw [List.length_take, h.1]; omega, ?_⟩
  rcases h.2 with h0 | ⟨b, off, h1, h2, h3⟩
  · exact .inl (by omega)
  · refine .inr ⟨b, off, h1, h2, fun i hi => ?_⟩
    have := h3 i (by omega)
    rw [gv_lt _ _ (by rw [h.1]; omega)] at this
    rw [gv_lt _ _ (by rw [List.length_take, h.1]; omega), List.getElem_take]
    exact this
theorem Sh.drop {w : World} {b off n : Nat} {V : List Nv} (h : Sh w (some ⟨b, off, none⟩) n V) (k : Nat) (hk : k ≤ n) : Sh w (some ⟨b, off + k * 10, none⟩) (n - k) (V.drop k) := by
  refine ⟨by rw [List.length_drop, h.1], ?_⟩
  rcases h.2 with h0 | ⟨b', off', h1, h2, h3⟩
  · exact .inl (by omega)
  · obtain ⟨rfl, rfl⟩ : b = b' ∧ off = off' := by simpa using h1
    refine .inr ⟨b, off + k * 10, rfl, h2, fun i hi => ?_⟩
    have := h3 (k + i) (by omega)
    rw [gv_lt _ _ (by rw [h.1]; omega)] at this
    rw [gv_lt _ _ (by rw [List.length_drop, h.1]; omega), List.getElem_drop, show off + k * 10 + i * 10 = off + (k + i) * 10 by omega]
    exact this
end Go.Proofs.Ytppmekmaclolbaa

/- Layer 10: Take, by the program. -/
import Derived.Test.YtdenbbljbkpbdaaDirEach
import Derived.Maps.AppendAt
import Derived.Deep.AppendLies
namespace Go.Proofs.Ytdenbbljbkpbdaa
set_option linter.unusedVariables false
set_option maxRecDepth 100000
open Go.RowKit Go.Maps
open Lz (g)
open Nam Cur Cap Dir

namespace Dir
/-- Take's variables: the list at the block a, the function at the block f, newList's variable at q; they and the list's row are O. -/
structure TI (B a f q : Nat) (j : Nat) (w : World) (O : Nat → Prop) (s : List Ent × ByteArray) : Prop where
  ls : ∃ v, w.heap[a]? = some (.cells #[v] 22 (0, 0)) ∧ w.ownsRow B 35 3 v s.1.length (evs s.1) ∧ (∀ k, O k ↔ k = a ∨ k = f ∨ k = q ∨ v.ownBlock = some k)
  fn : w.heap[f]? = some (.cells #[.func (.func 31) #[] #[.pointer (some ⟨q, 0, none⟩)]] 46 (0, 0))
  cl : Cl w q s.2
  len : s.1.length = j
  big : B ≤ w.heap.size
theorem TI.ne {B a f q j : Nat} {w : World} {O : Nat → Prop} {s : List Ent × ByteArray} (h : TI B a f q j w O s) : a ≠ f ∧ a ≠ q ∧ f ≠ q := by
  obtain ⟨v, h1, _⟩ := h.ls
  exact ⟨ne_obj h1 h.fn (by decide), ne_obj h1 h.cl (by decide), ne_obj h.fn h.cl (by decide)⟩
theorem TI.fr {B a f q j : Nat} {w w' : World} {O S : Nat → Prop} {s : List Ent × ByteArray} (h : TI B a f q j w O s) (hf : Fr S w w') (hn : ∀ k, S k → ¬ O k) : TI B a f q j w' O s := by
  obtain ⟨v, h1, h2, h3⟩ := h.ls
  have n1 : ¬ S a := fun hs => hn a hs ((h3 a).2 (.inl rfl))
  have n2 : ¬ S f := fun hs => hn f hs ((h3 f).2 (.inr (.inl rfl)))
  have n3 : ¬ S q := fun hs => hn q hs ((h3 q).2 (.inr (.inr (.inl rfl))))
  exact ⟨⟨v, (hf.block _ (heap_lt h1) n1).trans h1, owns_fr h2 hf (fun k hk hs => hn k hs ((h3 k).2 (.inr (.inr (.inr hk))))), h3⟩, (hf.block _ (heap_lt h.fn) n2).trans h.fn, h.cl.fr hf n3, h.len, Nat.le_trans h.big hf.size⟩
theorem TI.noB {B a f q j : Nat} {w : World} {O : Nat → Prop} {s : List Ent × ByteArray} (h : TI B a f q j w O s) : ∀ k, (k = a ∨ k = f ∨ k = q) → NoB w k := by
  obtain ⟨v, h1, h2, _⟩ := h.ls
  obtain ⟨ao, c, rfl⟩ := owns_shape h2
  intro k hk i x
  rcases hk with rfl | rfl | rfl
  · rw [cell_of_row _ _ _ _ _ _ h1]
    cases i with
    | zero => simp
    | succ i => simp
  · rw [cell_of_row _ _ _ _ _ _ h.fn]
    cases i with
    | zero => simp
    | succ i => simp
  · rw [cell_of_row _ _ _ _ _ _ h.cl]
    cases i with
    | zero => simp
    | succ i => simp
theorem TI.lt {B a f q j : Nat} {w : World} {O : Nat → Prop} {s : List Ent × ByteArray} (h : TI B a f q j w O s) : ∀ k, O k → k < w.heap.size := by
  obtain ⟨v, h1, h2, h3⟩ := h.ls
  intro k hk
  rcases (h3 k).1 hk with rfl | rfl | rfl | hk
  · exact heap_lt h1
  · exact heap_lt h.fn
  · exact heap_lt h.cl
  · exact (h2.lt k hk).2
theorem TI.goes {B a f q j : Nat} {w w' : World} {O : Nat → Prop} {l : List Ent} {last t : ByteArray} (h : TI B a f q j w O (l, last)) (hc : Cl w' q t) (hf : Fr (One q) w w') : TI B a f q j w' O (l, t) := by
  obtain ⟨n1, n2, n3⟩ := h.ne
  obtain ⟨v, h1, h2, h3⟩ := h.ls
  refine ⟨⟨v, (hf.block _ (heap_lt h1) n2).trans h1, owns_fr h2 hf (fun k hk hs => ?_), h3⟩, (hf.block _ (heap_lt h.fn) n3).trans h.fn, hc, h.len, Nat.le_trans h.big hf.size⟩
  obtain ⟨cur, hcur⟩ := owns_obj h2 hk
  have : k = q := hs
  exact ne_obj hcur h.cl (by decide) this
theorem TI.app {B a f q j : Nat} {w w6 : World} {O : Nat → Prop} {l : List Ent} {last : ByteArray} {v v' : Value} {E : Ent} (h : TI B a f q j w O (l, last)) (hv : w.heap[a]? = some (.cells #[v] 22 (0, 0))) (hg : w.grownBy w6 v.ownBlock)
    (ho : w6.ownsRow B 35 3 v' (l.length + 1) (evs l ++ (ev E).toList)) (hl : v'.ownBlock = v.ownBlock ∨ v'.ownBlock = some w.heap.size) :
    w6.heap[a]? = some (.cells #[v] 22 (0, 0)) ∧ w6.heap[f]? = w.heap[f]? ∧ (∀ k, k < w.heap.size → ¬ O k → w6.heap[k]? = w.heap[k]?) ∧ ∃ O', TI B a f q (j + 1) (w6.setCell ⟨a, 0, none⟩ v') O' (l ++ [E], last) ∧ Fr O w (w6.setCell ⟨a, 0, none⟩ v') ∧ (∀ k, O' k → O k ∨ w.heap.size ≤ k) := by
  obtain ⟨n1, n2, n3⟩ := h.ne
  obtain ⟨v0, h1, h2, h3⟩ := h.ls
  obtain rfl : v0 = v := by
    rw [h1] at hv
    injection hv with hv
    injection hv with hv _ _
    simpa using hv
  have own : ∀ k, v0.ownBlock = some k → k ≠ a ∧ k ≠ f ∧ k ≠ q := fun k hk => by
    obtain ⟨cur, hcur⟩ := owns_obj h2 hk
    exact ⟨ne_obj hcur h1 (by decide), ne_obj hcur h.fn (by decide), ne_obj hcur h.cl (by decide)⟩
  have f6 : Fr (fun k => v0.ownBlock = some k) w w6 := Fr.of_grown hg (fun k hk => hk)
  have a6 := (f6.block _ (heap_lt h1) (fun hk => (own _ hk).1 rfl)).trans h1
  have g6 := (f6.block _ (heap_lt h.fn) (fun hk => (own _ hk).2.1 rfl)).trans h.fn
  have q6 : Cl w6 q last := h.cl.fr f6 (fun hk => (own _ hk).2.2 rfl)
  have f7 : Fr (One a) w6 (w6.setCell ⟨a, 0, none⟩ v') := (Fr.refl (One a) w6).set (p := ⟨a, 0, none⟩) v' (fun _ => rfl)
  refine ⟨a6, f6.block _ (heap_lt h.fn) (fun hk => (own _ hk).2.1 rfl), fun k hk hO => f6.block k hk (fun hx => hO ((h3 k).2 (.inr (.inr (.inr hx))))), fun k => k = a ∨ k = f ∨ k = q ∨ v'.ownBlock = some k, ⟨⟨v', ?_, ?_, fun k => Iff.rfl⟩, ?_, ?_, ?_, ?_⟩, ?_, ?_⟩
  · rw [heap_setCell_self a6]; rfl
  · have e : (l ++ [E], last).1.length = l.length + 1 := by simp
    rw [e, evs_append, evs_one]
    refine owns_fr ho f7 (fun k hk hs => ?_)
    obtain ⟨cur, hcur⟩ := owns_obj ho hk
    have : k = a := hs
    exact ne_obj hcur a6 (by decide) this
  · exact (f7.block _ (heap_lt g6) (fun e => n1 (Eq.symm e))).trans g6
  · exact q6.fr f7 (fun e => n2 (Eq.symm e))
  · have := h.len
    simp only at this
    simp [this]
  · exact Nat.le_trans h.big (Nat.le_trans f6.size f7.size)
  · exact (f6.mono (S' := O) (fun i _ hi => (h3 i).2 (.inr (.inr (.inr hi))))).trans f7 (fun i _ hi => (h3 i).2 (.inl hi))
  · rintro k (rfl | rfl | rfl | hk)
    · exact .inl ((h3 _).2 (.inl rfl))
    · exact .inl ((h3 _).2 (.inr (.inl rfl)))
    · exact .inl ((h3 _).2 (.inr (.inr (.inl rfl))))
    · rcases hl with hl | hl
      · rw [hl] at hk; exact .inl ((h3 k).2 (.inr (.inr (.inr hk))))
      · rw [hl] at hk; cases hk; exact .inr (Nat.le_refl _)
end Dir
set_option maxHeartbeats 2000000 in
theorem takeStep (B a f q : Nat) (j : Nat) (w : World) (O : Nat → Prop) (s : List Ent × ByteArray) (E : Ent) (hj : j ≤ 200000) (h : TI B a f q j w O s) (hE : fit E) :
    Calls Try.prog 27 (#[.agg (ev E)] ++ #[.pointer (some ⟨a, 0, none⟩), .pointer (some ⟨f, 0, none⟩)]) w fun e w' => ∃ O', e = .returned (.bool (tst s E).1) ∧ TI B a f q (j + 1) w' O' (tst s E).2 ∧ Fr O w w' ∧ ∀ k, O' k → O k ∨ w.heap.size ≤ k := by
  obtain ⟨ir, hir, hy0, hy1, hy2⟩ := info_parts infoRecs
  obtain ⟨l, last⟩ := s
  obtain ⟨v, h1, h2, h3⟩ := h.ls
  have hlen := h.len
  simp only at h2 hlen
  obtain ⟨ao, c, rfl⟩ := owns_shape h2
  obtain ⟨wB, hwB⟩ : ∃ wB, wB = (w.alloc (.cells (ev E) 35)).alloc (.cells (ev E) 35) := ⟨_, rfl⟩
  have bB : Below w.heap.size w wB := by rw [hwB]; exact (below_one _ _).alloc (by simp) _
  have hTB := h.fr (Fr.of_below (S := fun _ => False) bB) (fun k hk => hk.elim)
  have c0 : w.cell? ⟨a, 0, none⟩ = some (.slice ao l.length c) := cell_of_row _ _ _ _ _ _ h1
  have hal := heap_lt h1
  have hfl := heap_lt h.fn
  have hk6 : (l.length + 1) * 32 ≤ 140737488355328 := by omega
  have hne := h.ne
  have hB1 : wB.heap[w.heap.size + 1]? = some (.cells (ev E) 35 (0, 0)) := by rw [hwB]; exact heap_new (by simp)
  have HNews : Hid (∀ i u, (ev E).toList[i]? = some u → wB.cell? ((⟨w.heap.size + 1, 0, none⟩ : Addr).add i) = some u) := fun i u hu => by
    rw [Addr.add_lit, Nat.zero_add, cell_of_row _ _ _ _ _ _ hB1]
    simpa using hu
  have HOne : Hid (∀ u ∈ (ev E).toList, u.oneCell' = true) := by
    have := evs_ones [E]
    rw [evs_one] at this
    exact this
  have hB0 : wB.heap[w.heap.size]? = some (.cells (ev E) 35 (0, 0)) := by rw [hwB, Below.heap_alloc _ _ _ (by simp)]; exact heap_new rfl
  have h2B := owns_below h2 bB
  have hBB : B ≤ wB.heap.size := Nat.le_trans h.big bB.size
  have hOl := hide h.lt
  have hsB : wB.heap.size = w.heap.size + 2 := by rw [hwB]; simp
  have HWB := hide hwB
  have HTB := hide hTB
  have H2B := hide h2B
  have HB0 := hide hB0
  have HBB := hide bB
  have H3 := hide h3
  have H2 := hide h2
  have HA := hide ((Fr.of_below (S := fun _ => False) bB).block _ hal (fun hk => hk) |>.trans h1)
  subst hlen
  clear h h2 hTB hwB hB1 h2B hB0 bB h3 h1
  unfold ev at HWB ⊢
  show Calls Try.prog 27 #[.agg #[.string E.name, .int .i64 E.kind, .int .i64 E.ref], .pointer (some ⟨a, 0, none⟩), .pointer (some ⟨f, 0, none⟩)] w _
  go_enter Try.func27, Try.ntmps27
  go_wp2_with (first
    | (at_builtin
       rw [← HWB.out]
       refine wpList_append_own_at _ (by rfl) (.tmp 5) (.tmp 7) 22 (by rfl) B 35 ir (.agg (ev z0)) 3 32 Try.underlying22 hir hy0 hy1 hy2 rfl (by decide) _ l.length (evs l) (by rfl) H2B.out ⟨w.heap.size + 1, 0, none⟩ 1 1 (ev E).toList (by rfl) rfl HNews.out HOne.out (by unfold maxLen; omega) hk6 hBB ?_
       intro v6 w6 ho6 hg6 _ hl6
       obtain ⟨ha6, hf6, hx6, O6, hT6, hF6, hG6⟩ := HTB.out.app HA.out hg6 ho6 hl6
       obtain ⟨ao6, c6, rfl⟩ := owns_shape ho6
       have HT6 := hide hT6
       have HF6 := hide hF6
       have HG6 := hide hG6
       have ca : w6.cell? ⟨a, 0, none⟩ = some (.slice ao l.length c) := cell_of_row _ _ _ _ _ _ ha6
       have fa : w6.frozen? ⟨a, 0, none⟩ = false := by simp [World.frozen?, ha6]
       have cf : w6.cell? ⟨f, 0, none⟩ = some (.func (.func 31) #[] #[.pointer (some ⟨q, 0, none⟩)]) := cell_of_row _ _ _ _ _ _ (hf6.trans HTB.out.fn)
       have hx := (hx6 w.heap.size (by omega) (fun hO => by have := hOl.out _ hO; omega)).trans HB0.out
       have cx0 : w6.cell? ⟨w.heap.size, 0, none⟩ = some (.string E.name) := cell_of_row _ _ _ _ _ _ hx
       have cx1 : w6.cell? ⟨w.heap.size, 1, none⟩ = some (.int .i64 E.kind) := cell_of_row _ _ _ _ _ _ hx
       have cx2 : w6.cell? ⟨w.heap.size, 2, none⟩ = some (.int .i64 E.ref) := cell_of_row _ _ _ _ _ _ hx
       have n1 : a ≠ f := hne.1
       have n2 : a ≠ w.heap.size := by omega
       obtain ⟨w7, hw7⟩ : ∃ w7, w7 = w6.setCell ⟨a, 0, none⟩ (.slice ao6 (l.length + 1) c6) := ⟨_, rfl⟩
       have HW7 := hide hw7
       rw [← hw7] at HT6 HF6
       clear hT6 hF6 hG6 ho6 hg6 hl6 ha6 hw7 hf6 hx6 hx))
  rw [← HW7.out]
  refine (goesOn_any E q last w7 HT6.out.cl).mono ?_
  rintro r w8 ⟨rfl, hC8, hF8⟩
  have HT8 := hide (HT6.out.goes hC8 hF8)
  have HF8 : Hid (Fr O w w8) := by
    refine ((Fr.of_below (S := O) HBB.out).then HF6.out).trans hF8 (fun i hi hk => ?_)
    have : i = q := hk
    exact (H3.out i).2 (.inr (.inr (.inl this)))
  clear hC8 hF8 ca fa cf cx0 cx1 cx2 HW7
  go_wp2
  go_ret
  exact ⟨O6, rfl, HT8.out, HF8.out, fun k hk => (HG6.out k hk).imp id (fun h => by omega)⟩
end Go.Proofs.Ytdenbbljbkpbdaa

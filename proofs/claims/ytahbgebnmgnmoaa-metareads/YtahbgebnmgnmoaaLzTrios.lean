/- The walks of newTrios, addUpTo and match: what the table of threes holds, and that match finds the longest and nearest match. -/
import Derived.Test.YtahbgebnmgnmoaaLzLeaf
import Derived.Maps.Own
import Derived.Maps.OwnOps
import Derived.Maps.OwnSet
import Derived.Maps.AppendAt
import Derived.Deep.AppendLies
import Derived.Maps.Views
namespace Go.Proofs.Ytahbgebnmgnmoaa
set_option linter.unusedVariables false
open Go.RowKit Go.Maps
open Lz (g lk key lastP prevOf aheadL)

theorem mapLaw : Keyed Try.prog 3 := int_keyed Try.underlying3
theorem zeroInt (w : World) : (zeroValue 3).run Try.prog w = .ok (.int .i64 0) w := by kernel_rfl
theorem infoInt : (Try.prog.info? 3).map (fun i => (i.zero, i.size, i.bytes)) = some (some (.int .i64 0), 1, 8) := by kernel_rfl

/-- The table of threes at block p: the places below k of zs are taken in. -/
def Tr (w : World) (B p : Nat) (zs : List Int) (k : Nat) : Prop :=
  ∃ (mb : Nat) (v : Value) (D : DataW Unit), w.heap[p]? = some (.cells #[.map (some mb), v] 118 (0, 0)) ∧ B ≤ p ∧ B ≤ mb ∧
    w.ownsRow B 3 1 v k ((aheadL zs k).map (Value.int .i64)) ∧ w.ownsMap Try.prog 3 (plainElem Try.prog 3) mb k D ∧
    (∀ q : Int, Maps.has D (.int .i64 q) = (lastP zs q k).isSome) ∧ (∀ (q : Int) (n : Nat), lastP zs q k = some n → D.atKey (.int .i64 q) (.lit (.int .i64 0)) = .lit (.int .i64 n))





theorem Tr.drewN {w : World} {B p k : Nat} {zs : List Int} (h : Tr w B p zs k) (n : Nat) : Tr (w.drewN n) B p zs k := h
theorem Tr.kept {w w' : World} {B p k : Nat} {zs : List Int} (h : Tr w B p zs k) (hk : KeepN 5 w w') : Tr w' B p zs k := by
  obtain ⟨mb, v, D, h1, h2, h3, h4, h5, h6⟩ := h
  refine ⟨mb, v, D, hk _ _ h1 (by simp), h2, h3, ?_, ?_, h6⟩
  · refine ⟨h4.1, ?_⟩
    rcases h4.2 with hn | ⟨g, cap, cur, rfl, hb, hgg, rest⟩
    · exact .inl hn
    · exact .inr ⟨g, cap, cur, rfl, hb, hk _ _ hgg (by simp), rest⟩
  · obtain ⟨es, clock, hb, r⟩ := h5
    exact ⟨es, clock, hk _ _ hb (by simp), r⟩

set_option maxHeartbeats 400000 in
theorem newTrios_any (w : World) (zs : List Int) :
    Calls Try.prog 56 #[] w fun e w' => e = .returned (.pointer (some ⟨w.heap.size + 1, 0, none⟩)) ∧ Tr w' w.heap.size (w.heap.size + 1) zs 0 ∧ Below w.heap.size w w' ∧ KeepT 5 w w' := by
  have hmm := @run_makeMap Try.prog
  go_enter Try.func56, Try.ntmps56
  go_wp2
  go_ret
  refine ⟨rfl, ⟨w.heap.size, .slice none 0 0, .map [], ?_, by omega, Nat.le_refl _, World.ownsRow_nil _ _ _ _, (World.ownsMap_made w _ _ _).alloc _, fun q => rfl, fun q n hq => by simp [lastP] at hq⟩, ?_, ?_⟩
  · have := heap_alloc_new (w.alloc (Obj.map #[] 0)) (Obj.cells #[Value.map (some w.heap.size), Value.slice none 0 0] 118)
    simpa using this
  · exact ((Below.refl _ _).alloc (Nat.le_refl _) _).alloc (by simp) _
  · exact ((KeepT.refl _ _).alloc _).alloc _

theorem cell_of_pair {w : World} {p : Nat} {x y : Value} {t : TypeId} (h : w.heap[p]? = some (Obj.cells #[x, y] t (0, 0))) : w.cell? ⟨p, 0, none⟩ = some x ∧ w.cell? ⟨p, 1, none⟩ = some y ∧ w.frozen? ⟨p, 1, none⟩ = false := by
  refine ⟨by rw [cell_of_row w p 0 _ _ _ h]; rfl, by rw [cell_of_row w p 1 _ _ _ h]; rfl, ?_⟩
  simp [World.frozen?, h]

theorem pair_setCell {w : World} {p : Nat} {x y : Value} {t : TypeId} (h : w.heap[p]? = some (Obj.cells #[x, y] t (0, 0))) (u : Value) : (w.setCell ⟨p, 1, none⟩ u).heap[p]? = some (Obj.cells #[x, u] t (0, 0)) := by
  simp [World.setCell, Array.getElem?_modify, h]

theorem pair_kept {w w1 : World} {B p t mb nq : Nat} {v : Value} {xs : List Value} {o : Obj} {D : DataW Unit} (h1 : w.heap[p]? = some (Obj.cells #[.map (some mb), v] 118 (0, 0))) (h4 : w.ownsRow B 3 1 v t xs)
    (h5 : w.ownsMap Try.prog 3 (plainElem Try.prog 3) mb t D) (a2 : ((w.drewN nq).alloc o).grownBy w1 v.ownBlock) :
    w1.cell? ⟨p, 0, none⟩ = some (.map (some mb)) ∧ w1.cell? ⟨p, 1, none⟩ = some v ∧ w1.frozen? ⟨p, 1, none⟩ = false ∧ w1.ownsMap Try.prog 3 (plainElem Try.prog 3) mb t D := by
  have hp0 : ((w.drewN nq).alloc o).heap[p]? = some (Obj.cells #[.map (some mb), v] 118 (0, 0)) := by rw [Below.heap_alloc (w.drewN nq) _ _ (heap_lt (w := w.drewN nq) h1)]; exact h1
  have hp1 : w1.heap[p]? = some (Obj.cells #[.map (some mb), v] 118 (0, 0)) := by
    rw [a2.block p (heap_lt hp0) (owns_ne (w := w) h4 h1 (by simp))]; exact hp0
  obtain ⟨c0, c1, c2⟩ := cell_of_pair hp1
  refine ⟨c0, c1, c2, ?_⟩
  have h5' : ((w.drewN nq).alloc o).ownsMap Try.prog 3 (plainElem Try.prog 3) mb t D := World.ownsMap.alloc (w := w.drewN nq) h5 _
  refine h5'.kept a2 ?_
  obtain ⟨es, clock, hb, _⟩ := h5
  exact owns_ne (w := w) h4 hb (by simp)

theorem atKey_int {D : DataW Unit} {k : Lit} {z : DataW Unit} {a b : Int} (h : D.atKey k z = .lit (.int .i64 a)) (h' : D.atKey k z = .lit (.int .i64 b)) : a = b := by
  rw [h] at h'; simpa using h'

/-- One place more is taken in. -/
theorem tr_step {w wr w1 w2 : World} {B p t mb nq : Nat} {zs : List Int} {v v' : Value} {D : DataW Unit} {o : Obj}
    (h1 : wr.heap[p]? = some (Obj.cells #[.map (some mb), v] 118 (0, 0))) (h2 : B ≤ p) (h3 : B ≤ mb) (h4 : wr.ownsRow B 3 1 v t ((aheadL zs t).map (Value.int .i64)))
    (h5 : wr.ownsMap Try.prog 3 (plainElem Try.prog 3) mb t D) (h6 : ∀ q : Int, Maps.has D (.int .i64 q) = (lastP zs q t).isSome)
    (h7 : ∀ (q : Int) (n : Nat), lastP zs q t = some n → D.atKey (.int .i64 q) (.lit (.int .i64 0)) = .lit (.int .i64 n)) (X : Int) (hX : X = prevOf (lastP zs (key zs t) t))
    (hw : Below B w wr) (hk : KeepT 5 w wr) (hBs : B ≤ wr.heap.size)
    (a1 : w1.ownsRow B 3 1 v' (t + 1) ((aheadL zs t).map (Value.int .i64) ++ [.int .i64 X])) (a2 : ((wr.drewN nq).alloc o).grownBy w1 v.ownBlock)
    (m1 : w2.ownsMap Try.prog 3 (plainElem Try.prog 3) mb (t + 1) (D.put (.int .i64 (key zs t)) (.lit (.int .i64 t)))) (m2 : (w1.setCell ⟨p, 1, none⟩ v').grownBy w2 (some mb)) :
    Tr w2 B p zs (t + 1) ∧ Below B w w2 ∧ KeepT 5 w w2 := by
  have hp0 : ((wr.drewN nq).alloc o).heap[p]? = some (Obj.cells #[.map (some mb), v] 118 (0, 0)) := by rw [Below.heap_alloc (wr.drewN nq) _ _ (heap_lt (w := wr.drewN nq) h1)]; exact h1
  have hp1 : w1.heap[p]? = some (Obj.cells #[.map (some mb), v] 118 (0, 0)) := by
    rw [a2.block p (heap_lt hp0) (owns_ne (w := wr) h4 h1 (by simp))]; exact hp0
  have hp2 := pair_setCell hp1 v'
  have hpm : p ≠ mb := by
    obtain ⟨es, clock, hb, _⟩ := h5
    intro e; subst e; rw [h1] at hb; simp at hb
  have hp3 : w2.heap[p]? = some (Obj.cells #[.map (some mb), v'] 118 (0, 0)) := by
    rw [m2.block p (heap_lt hp2) (by simpa using hpm)]; exact hp2
  have hv : v'.ownBlock ≠ some p := fun e => owns_ne a1 hp1 (by simp) e.symm
  have b1 : (w1.setCell ⟨p, 1, none⟩ v').ownsRow B 3 1 v' (t + 1) ((aheadL zs t).map (Value.int .i64) ++ [.int .i64 X]) := by
    refine ⟨a1.1, ?_⟩
    rcases a1.2 with hn | ⟨g, cap, cur, rfl, hb, hgg, rest⟩
    · exact .inl hn
    · refine .inr ⟨g, cap, cur, rfl, hb, ?_, rest⟩
      rw [Below.heap_setCell _ _ _ _ (by simpa [Value.ownBlock] using hv)]; exact hgg
  have hmv : v'.ownBlock ≠ some mb := by
    obtain ⟨es, clock, hb, _⟩ := h5
    have hb0 : ((wr.drewN nq).alloc o).heap[mb]? = some (Obj.map es clock) := by rw [Below.heap_alloc (wr.drewN nq) _ _ (heap_lt (w := wr.drewN nq) hb)]; exact hb
    have hb1 : w1.heap[mb]? = some (Obj.map es clock) := by rw [a2.block mb (heap_lt hb0) (owns_ne (w := wr) h4 hb (by simp))]; exact hb0
    exact fun e => owns_ne a1 hb1 (by simp) e.symm
  have b2 := b1.kept m2 (.inr hmv)
  have hsz1 : wr.heap.size ≤ ((wr.drewN nq).alloc o).heap.size := by simp
  have hsz2 := a2.size
  have bel0 : Below B w ((wr.drewN nq).alloc o) := (below_drewN hw nq).alloc (by simpa using hBs) _
  have bel1 : Below B w w1 := bel0.grown a2 (by omega) (fun k e => by have := (h4.lt k e).1; omega)
  have bel2 : Below B w (w1.setCell ⟨p, 1, none⟩ v') := bel1.setCell (by simpa using h2) _
  have bel3 : Below B w w2 := bel2.grown m2 (by simp [World.setCell]; omega) (fun k e => by cases e; exact h3)
  have k0 : KeepT 5 w ((wr.drewN nq).alloc o) := (hk.drewN nq).alloc _
  have k1 : KeepT 5 w w1 := k0.grown a2 (fun k e cur fz hc => by
    have h4' : ((wr.drewN nq).alloc o).ownsRow B 3 1 v t ((aheadL zs t).map (Value.int .i64)) := World.ownsRow.alloc (w := wr.drewN nq) h4 _
    exact owns_ne h4' hc (by simp) e.symm)
  have k2 : KeepT 5 w (w1.setCell ⟨p, 1, none⟩ v') := k1.setCell _ (fun cur fz hc => by rw [hp1] at hc; simp at hc)
  have k3 : KeepT 5 w w2 := k2.grown m2 (fun k e cur fz hc => by
    cases e
    obtain ⟨es, clock, hb, _⟩ := h5
    have hb0 : ((wr.drewN nq).alloc o).heap[mb]? = some (Obj.map es clock) := by rw [Below.heap_alloc (wr.drewN nq) _ _ (heap_lt (w := wr.drewN nq) hb)]; exact hb
    have hb1 : w1.heap[mb]? = some (Obj.map es clock) := by rw [a2.block mb (heap_lt hb0) (owns_ne (w := wr) h4 hb (by simp))]; exact hb0
    rw [Below.heap_setCell _ _ _ _ (fun e => hpm e.symm), hb1] at hc
    simp at hc)
  refine ⟨⟨mb, v', _, hp3, h2, h3, ?_, m1, fun q => ?_, fun q n hq => ?_⟩, bel3, k3⟩
  · rw [aheadL, List.map_append, ← hX]; exact b2
  · have hD := h5.isMap
    by_cases e : q = key zs t
    · subst e
      rw [has_put_same (k := .int .i64 (key zs t)) hD (by simp [WideAt.IsKeyLit])]
      simp [lastP]
    · rw [has_put_other (by simpa using e), h6 q, lastP, if_neg (fun e' => e e'.symm)]
  · have hD := h5.isMap
    by_cases e : q = key zs t
    · subst e
      rw [atKey_put_same (k := .int .i64 (key zs t)) hD (by simp [WideAt.IsKeyLit])]
      simp [lastP] at hq
      rw [hq]
    · rw [atKey_put_other (by simpa using e)]
      rw [lastP, if_neg (fun e' => e e'.symm)] at hq
      exact h7 q n hq

set_option maxHeartbeats 400000 in
theorem addUpTo_any (b off len cap p B k e : Nat) (zs : List Int) (w : World) (hz : zs.length = len) (hs : Seg w b off zs) (hbB : b < B) (hB : B ≤ w.heap.size) (hl : len ≤ 1000000)
    (hby : ∀ i, 0 ≤ g zs i ∧ g zs i ≤ 255) (ht : Tr w B p zs k) (he : e ≤ len) :
    Calls Try.prog 60 #[.pointer (some ⟨p, 0, none⟩), .slice (some ⟨b, off, none⟩) len cap, .int .i64 e] w fun r w' => r = .returned (.tuple #[]) ∧ Tr w' B p zs (max k (min e (len - 2))) ∧ Below B w w' ∧ KeepT 5 w w' := by
  obtain ⟨mb, v, D, h1, h2, h3, h4, h5, h6, h7⟩ := id ht
  obtain ⟨ao, c, rfl⟩ := owns_shape h4
  obtain ⟨c0, c1, _⟩ := cell_of_pair h1
  obtain ⟨E, hE⟩ : ∃ E : Int, (if (len : Int) - 3 + 1 < e then (len : Int) - 3 + 1 else e) = E := ⟨_, rfl⟩
  have hE1 : E ≤ (len : Int) - 2 := by rw [← hE]; split <;> omega
  have hE2 : E ≤ (e : Int) := by rw [← hE]; split <;> omega
  have hE3 : (e : Int) ≤ E ∨ (len : Int) - 2 ≤ E := by rw [← hE]; split <;> omega
  have HT : Hid (Tr w B p zs k) := ht
  clear h1 h4 h5 h6 h7 h2 h3 ht
  go_enter Try.func60, Try.ntmps60
  go_wp2_with fail
  clear c0 c1
  go_loopw [6] (fun i wr => ∃ t : Nat, k ≤ t ∧ ((t : Int) ≤ E ∨ t = k) ∧ i = .int .i64 t ∧ Tr wr B p zs t ∧ Below B w wr ∧ KeepT 5 w wr) (fun i _ => E.toNat - (intOf i).toNat)
  case atStart => exact ⟨k, Nat.le_refl _, .inr rfl, rfl, HT.out, Below.refl _ _, KeepT.refl _ _⟩
  case round =>
    obtain ⟨t, hkt, htE, rfl, hT, hbel, hkeep⟩ := hrel
    by_cases hlt : (t : Int) < E
    · obtain ⟨mb, v, D, h1, h2, h3, h4, h5, h6, h7⟩ := id hT
      have hsz := hbel.size
      have hs' : Seg wr b off zs := fun i hi => (hbel.cell (by exact hbB)).trans (hs i hi)
      go_wp2_with fail
      refine (trio_any b off len cap t zs _ hz hs' (by omega) hl (fun i _ => hby i)).mono ?_
      rintro r w1 ⟨rfl, nq, rfl⟩
      obtain ⟨c0, c1, f1⟩ := cell_of_pair h1
      have hkb := Lz.key_bd zs t hby
      have hkw : (Lit.int .i64 (key zs t)).wf = true := WalkArith.wf_i64 (by omega)
      have hmp : mb ≠ (⟨p, 1, none⟩ : Addr).block := by
        obtain ⟨es, clock, hb, _⟩ := h5
        intro e; subst e; rw [h1] at hb; simp at hb
      obtain ⟨i0, hi, hz0, hz1, hz2⟩ := info_parts infoInt
      have HH : Hid ((∀ q : Int, Maps.has D (.int .i64 q) = (lastP zs q t).isSome) ∧ (∀ (q : Int) (n : Nat), lastP zs q t = some n → D.atKey (.int .i64 q) (.lit (.int .i64 0)) = .lit (.int .i64 n))) := ⟨h6, h7⟩
      clear h6 h7 hE
      cases hq : lastP zs (key zs t) t with
      | none =>
        have hhas : Maps.has D (.int .i64 (key zs t)) = false := by rw [HH.out.1, hq]; rfl
        have HQ : Hid (lastP zs (key zs t) t = none) := hq
        clear hq
        go_wp2_with (first
          | (at_lookup; refine wpList_lookup_own_ok_int _ rfl _ _ 116 rfl 3 3 .i64 mapLaw Try.underlying116 Try.underlying3 (zeroInt _) mb t D rfl h5 _ _ rfl (keyOf_int_mk Try.underlying3 hkw) ?_; intro x hat hwc)
          | (at_builtin; refine wpList_append_lies _ rfl _ _ 54 rfl B 3 i0 (.int .i64 0) 1 8 Try.underlying54 hi hz0 hz1 hz2 rfl (by decide) _ _ _ rfl (World.ownsRow.alloc (w := wr.drewN nq) h4 _) ⟨wr.heap.size, 0, none⟩ 1 1 [.int .i64 (-1)] rfl rfl (cell_one_new (wr.drewN nq) _ _) (ints_oneCell .i64 [(-1)]) (by decide) (by unfold maxLen; omega) (by omega) (by simp; omega) (wr.heap.size + 1) (by simp) ?_; intro gg cc w1 a1 a2 _ _; obtain ⟨d0, d1, d2, b1⟩ := pair_kept h1 h4 h5 a2; clear c0 c1 f1)
          | (at_mapUpdate; refine wpList_mapUpdate_own _ rfl _ _ _ 116 rfl 3 3 mapLaw Try.underlying116 _ mb t D rfl (b1.setCell hmp _) (by unfold maxLen; omega) _ _ _ rfl rfl (keyOf_int_mk Try.underlying3 hkw) _ [] (plainElem_int Try.underlying3 (WalkArith.wf_i64 (by omega))) ?_; intro w2 m1 m2))
        have R := tr_step (w := w) h1 h2 h3 h4 h5 HH.out.1 HH.out.2 (-1) (by rw [HQ.out]; rfl) hbel hkeep (by omega) a1 a2 m1 m2
        go_roundw
        case rel => exact ⟨t + 1, by omega, .inl (by omega), by go_num, R.1, R.2.1, R.2.2⟩
        case measure => simp [intOf]; omega
      | some n =>
        have hhas : Maps.has D (.int .i64 (key zs t)) = true := by rw [HH.out.1, hq]; rfl
        have HQ : Hid (lastP zs (key zs t) t = some n) := hq
        clear hq
        go_wp2_with (first
          | (at_lookup; refine wpList_lookup_own_ok_int _ rfl _ _ 116 rfl 3 3 .i64 mapLaw Try.underlying116 Try.underlying3 (zeroInt _) mb t D rfl h5 _ _ rfl (keyOf_int_mk Try.underlying3 hkw) ?_; intro x hat hwc; have HX : Hid (x = (n : Int)) := atKey_int hat (HH.out.2 _ n HQ.out); clear hat)
          | (at_builtin; refine wpList_append_lies _ rfl _ _ 54 rfl B 3 i0 (.int .i64 0) 1 8 Try.underlying54 hi hz0 hz1 hz2 rfl (by decide) _ _ _ rfl (World.ownsRow.alloc (w := wr.drewN nq) h4 _) ⟨wr.heap.size, 0, none⟩ 1 1 [.int .i64 x] rfl rfl (cell_one_new (wr.drewN nq) _ _) (ints_oneCell .i64 [x]) (by decide) (by unfold maxLen; omega) (by omega) (by simp; omega) (wr.heap.size + 1) (by simp) ?_; intro gg cc w1 a1 a2 _ _; obtain ⟨d0, d1, d2, b1⟩ := pair_kept h1 h4 h5 a2; clear c0 c1 f1)
          | (at_mapUpdate; refine wpList_mapUpdate_own _ rfl _ _ _ 116 rfl 3 3 mapLaw Try.underlying116 _ mb t D rfl (b1.setCell hmp _) (by unfold maxLen; omega) _ _ _ rfl rfl (keyOf_int_mk Try.underlying3 hkw) _ [] (plainElem_int Try.underlying3 (WalkArith.wf_i64 (by omega))) ?_; intro w2 m1 m2))
        have R := tr_step (w := w) h1 h2 h3 h4 h5 HH.out.1 HH.out.2 x (by rw [HQ.out, HX.out]; rfl) hbel hkeep (by omega) a1 a2 m1 m2
        go_roundw
        case rel => exact ⟨t + 1, by omega, .inl (by omega), by go_num, R.1, R.2.1, R.2.2⟩
        case measure => simp [intOf]; omega
    · go_wp2
      go_end0
      have e : max k (min e (len - 2)) = t := by omega
      exact ⟨rfl, by rw [e]; exact hT, hbel, hkeep⟩

theorem owns_cells {w : World} {B e n : Nat} {v : Value} {xs : List Int} (h : w.ownsRow B e 1 v n (xs.map (Value.int .i64))) (hn : 0 < n) :
    ∃ gb c, v = .slice (some ⟨gb, 0, none⟩) n c ∧ ∀ i, i < n → w.cell? ⟨gb, i, none⟩ = some (.int .i64 (g xs i)) := by
  obtain ⟨gb, c, rfl, _, _⟩ := h.form hn
  refine ⟨gb, c, rfl, fun i hi => ?_⟩
  have hlen : xs.length = n := by have := h.1; simpa using this
  rw [h.cellAt i (by omega)]
  simp [g, hlen, hi]

theorem look_any {w : World} {mb t : Nat} {D : DataW Unit} (h5 : w.ownsMap Try.prog 3 (plainElem Try.prog 3) mb t D) (q : Int) (hkw : (Lit.int .i64 q).wf = true) :
    ∃ x : Int, D.atKey (.int .i64 q) (.lit (.int .i64 0)) = .lit (.int .i64 x) ∧ ∀ nq, (Instr.lookup 116 (.map (some mb)) (.int .i64 q) true).run Try.prog (w.drewN nq) = .ok (.tuple #[.int .i64 x, .bool (Maps.has D (.int .i64 q))]) (w.drewN nq) := by
  obtain ⟨v, ps, _, hv⟩ := h5.look_ok mapLaw Try.underlying116 (zeroInt w) (plainElem_int Try.underlying3 (by decide)) (keyOf_int_mk Try.underlying3 hkw)
  obtain ⟨x, rfl, hx, _⟩ := plainElem_int_inv Try.underlying3 hv
  refine ⟨x, congrArg Prod.fst hx, fun nq => ?_⟩
  have h5' : (w.drewN nq).ownsMap Try.prog 3 (plainElem Try.prog 3) mb t D := h5
  obtain ⟨v', ps', hrun, hv'⟩ := h5'.look_ok mapLaw Try.underlying116 (zeroInt (w.drewN nq)) (plainElem_int Try.underlying3 (by decide)) (keyOf_int_mk Try.underlying3 hkw)
  obtain ⟨x', rfl, hx', _⟩ := plainElem_int_inv Try.underlying3 hv'
  have : x' = x := by
    have e1 := congrArg Prod.fst hx; have e2 := congrArg Prod.fst hx'
    exact atKey_int e2 e1
  rw [hrun, this]

set_option maxRecDepth 100000 in
set_option maxHeartbeats 800000 in
theorem match_any (b off len cap p B k a : Nat) (zs : List Int) (w : World) (hz : zs.length = len) (hs : Seg w b off zs) (hl : len ≤ 1000000)
    (hby : ∀ i, 0 ≤ g zs i ∧ g zs i ≤ 255) (ht : Tr w B p zs k) (ha : a < len) (hk : a + 3 ≤ len → k = a) :
    Calls Try.prog 57 #[.pointer (some ⟨p, 0, none⟩), .slice (some ⟨b, off, none⟩) len cap, .int .i64 a] w fun r w' =>
      r = .returned (.tuple #[.int .i64 (Lz.mt zs a).1, .int .i64 (Lz.mt zs a).2]) ∧ ∃ n, w' = w.drewN n := by
  obtain ⟨M, hM⟩ : ∃ M : Nat, M = Lz.most zs a := ⟨_, rfl⟩
  have hM' : M = min 130 (len - a) := by rw [hM, Lz.most, hz]
  have hM1 : M ≤ 130 := by omega
  have hM2 : a + M ≤ len := by omega
  have hmin : (if (len : Int) - a < 130 then (len : Int) - a else 130) = (M : Int) := by split <;> omega
  have HM : Hid (M = Lz.most zs a) := hM
  by_cases hM3 : M < 3
  · have hfin : Lz.mt zs a = (0, 0) := Lz.mt_small zs a (by rw [← hM]; exact hM3)
    rw [hfin]
    clear hfin hM hM'
    go_enter Try.func57, Try.ntmps57
    go_wp2
    go_ret2
    exact ⟨rfl, 0, rfl⟩
  · obtain rfl : k = a := hk (by omega)
    obtain ⟨mb, v, D, h1, h2, h3, h4, h5, h6, h7⟩ := id ht
    obtain ⟨c0, c1, f1⟩ := cell_of_pair h1
    have hkb := Lz.key_bd zs k hby
    have hkw : (Lit.int .i64 (key zs k)).wf = true := WalkArith.wf_i64 (by omega)
    have htrio : ∀ n, Calls Try.prog 69 #[.slice (some ⟨b, off, none⟩) len cap, .int .i64 k] (w.drewN n) fun e w' => e = .returned (.int .i64 (key zs k)) ∧ ∃ m, w' = (w.drewN n).drewN m :=
      fun n => trio_any b off len cap k zs _ hz (hs.drewN n) (by omega) hl (fun i _ => hby i)
    have HT : Hid (∀ n, Calls Try.prog 69 #[.slice (some ⟨b, off, none⟩) len cap, .int .i64 k] (w.drewN n) fun e w' => e = .returned (.int .i64 (key zs k)) ∧ ∃ m, w' = (w.drewN n).drewN m) := htrio
    clear htrio hM hM'
    cases hq : lastP zs (key zs k) k with
    | none =>
      have hhas : Maps.has D (.int .i64 (key zs k)) = false := by rw [h6, hq]; rfl
      obtain ⟨x, _, hlook⟩ := look_any h5 (key zs k) hkw
      rw [hhas] at hlook
      have hfin : Lz.mt zs k = (0, 0) := by
        have := Lz.Inv.start zs k
        rw [hq] at this
        exact Lz.Inv.mt (by simpa [prevOf, Lz.cov] using this)
      rw [hfin]
      clear hfin h6 h7 h5 h4 hq
      go_enter Try.func57, Try.ntmps57
      go_wp2
      go_quiet ((go_at_call 69; exact Calls.quiet_of (HT.out _)))
      go_wp2
      go_ret2
      exact ⟨rfl, _, rfl⟩
    | some n =>
      have hhas : Maps.has D (.int .i64 (key zs k)) = true := by rw [h6, hq]; rfl
      obtain ⟨x, hx, hlook⟩ := look_any h5 (key zs k) hkw
      rw [hhas] at hlook
      obtain rfl : x = (n : Int) := atKey_int hx (h7 _ n hq)
      have hnk := (Lz.lastP_some zs _ k n hq).1
      have hnkey := (Lz.lastP_some zs _ k n hq).2.1
      have hinv : Lz.Inv zs k 0 0 (Lz.cov k (n : Int)) := by
        have := Lz.Inv.start zs k
        rw [hq] at this
        exact this
      obtain ⟨gb, c, rfl, hcells⟩ := owns_cells h4 (by omega)
      have HC : Hid (∀ i, i < k → w.cell? ⟨gb, i, none⟩ = some (.int .i64 (g (aheadL zs k) i))) := hcells
      clear h6 h7 h5 h4 hq hx hcells
      go_enter Try.func57, Try.ntmps57
      go_wp2
      go_quiet ((go_at_call 69; exact Calls.quiet_of (HT.out _)))
      go_wp2
      go_loopw [6, 7, 9] (fun i6 i7 i9 wr => ∃ (l bk : Nat) (pl : Int), i6 = .int .i64 l ∧ i7 = .int .i64 bk ∧ i9 = .int .i64 pl ∧ -1 ≤ pl ∧ pl < k ∧ (0 ≤ pl → key zs pl.toNat = key zs k) ∧ Lz.Inv zs k l bk (Lz.cov k pl) ∧ ∃ m, wr = w.drewN m)
        (fun _ _ i9 _ => (intOf i9 + 1).toNat)
      case atStart => exact ⟨0, 0, n, rfl, rfl, rfl, by omega, by omega, fun _ => hnkey, hinv, _, rfl⟩
      case round =>
        clear hlook c0 hnkey hinv
        obtain ⟨l, bk, pl, rfl, rfl, rfl, hp1, hp2, hp3, hI, m, rfl⟩ := hrel
        have hlM : l ≤ M := by have := hI.len; rw [← HM.out] at this; exact this
        by_cases d1 : 0 ≤ pl
        · obtain ⟨P, rfl⟩ := Int.eq_ofNat_of_zero_le d1
          have hP : P < k := by omega
          have HP : Hid (key zs P = key zs k) := hp3 d1
          clear hp3
          by_cases d2 : (k : Int) - P ≤ 256
          · by_cases d3 : l < M
            · have hcov : Lz.cov k (P : Int) = k - P - 1 := by unfold Lz.cov; omega
              rw [hcov] at hI
              have HI : Hid (Lz.Inv zs k l bk (k - P - 1)) := hI
              have hlb : lk zs P k M = Lz.lb zs k (k - P) := by unfold Lz.lb; rw [← HM.out, show k - (k - P) = P by omega]
              have h3 : 3 ≤ Lz.lb zs k (k - P) := Lz.lb_three zs k (k - P) hby (by rw [← HM.out]; omega) (by rw [show k - (k - P) = P by omega]; exact HP.out)
              have hn := Lz.prevOf_lt zs (key zs P) P
              have hca := HC.out P hP
              rw [Lz.aheadL_at zs k P hP] at hca
              have HK : Hid (∀ l' bk', Lz.Inv zs k l' bk' (k - P) → Lz.Inv zs k l' bk' (Lz.cov k (prevOf (lastP zs (key zs P) P)))) := fun l' bk' h => h.next hP (by omega) HP.out
              have HN : Hid (0 ≤ prevOf (lastP zs (key zs P) P) → key zs (prevOf (lastP zs (key zs P) P)).toNat = key zs k) := fun h => (Lz.prevOf_key zs _ P h).trans HP.out
              have HL : Hid (lk zs P k M = Lz.lb zs k (k - P)) := hlb
              clear hI hcov hlb
              generalize prevOf (lastP zs (key zs P) P) = np at hn hca HK HN
              have hlbM := Lz.lb_le zs k (k - P)
              rw [← HM.out] at hlbM
              by_cases d4 : l < Lz.lb zs k (k - P)
              · have R := HK.out _ _ (by have := HI.out.better (by rw [show k - P - 1 + 1 = k - P by omega]; exact h3) (by rw [show k - P - 1 + 1 = k - P by omega]; exact d4); rw [show k - P - 1 + 1 = k - P by omega] at this; exact this)
                go_wp2_with (go_at_call 70; refine (likewise_any b off len cap P k M zs _ hz (hs.drewN _) (by omega) (by omega) hl).mono ?_; rintro e w' ⟨rfl, mm, rfl⟩; rw [HL.out])
                go_roundw
                case rel => exact ⟨_, k - P, np, rfl, by go_num, rfl, by omega, by omega, HN.out, R, _, rfl⟩
                case measure => simp only [intOf]; omega
              · have R := HK.out _ _ (by have := HI.out.worse (by rw [show k - P - 1 + 1 = k - P by omega]; exact h3) (by rw [show k - P - 1 + 1 = k - P by omega]; exact d4); rw [show k - P - 1 + 1 = k - P by omega] at this; exact this)
                go_wp2_with (go_at_call 70; refine (likewise_any b off len cap P k M zs _ hz (hs.drewN _) (by omega) (by omega) hl).mono ?_; rintro e w' ⟨rfl, mm, rfl⟩; rw [HL.out])
                go_roundw
                case rel => exact ⟨l, bk, np, rfl, rfl, rfl, by omega, by omega, HN.out, R, _, rfl⟩
                case measure => simp only [intOf]; omega
            · have HF : Hid (Lz.mt zs k = (l, bk)) := hI.full (by rw [← HM.out]; omega) (by rw [← HM.out]; omega) (by unfold Lz.cov; omega)
              clear hI
              go_wp2
              go_ret2
              rw [HF.out]
              exact ⟨rfl, _, rfl⟩
          · have HF : Hid (Lz.mt zs k = (l, bk)) := Lz.Inv.mt (by have e : Lz.cov k (P : Int) = min 256 k := by unfold Lz.cov; omega
                                                                  rw [e] at hI; exact hI)
            clear hI
            go_wp2
            go_ret2
            rw [HF.out]
            exact ⟨rfl, _, rfl⟩
        · have HF : Hid (Lz.mt zs k = (l, bk)) := Lz.Inv.mt (by have e : Lz.cov k pl = min 256 k := by unfold Lz.cov; omega
                                                                rw [e] at hI; exact hI)
          clear hI hp3
          go_wp2
          go_ret2
          rw [HF.out]
          exact ⟨rfl, _, rfl⟩
end Go.Proofs.Ytahbgebnmgnmoaa

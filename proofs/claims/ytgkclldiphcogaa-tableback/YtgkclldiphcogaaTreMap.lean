/- Layer 7: maps of the call's own whose values are numbers, as functions of the key; and what becomes of such a function when keys are laid down one behind the other. -/
import Derived.Test.YtgkclldiphcogaaTreRow
import Derived.Maps.OwnSet
import Derived.Maps.Views
import Derived.Carry
namespace Go.Proofs.Ytgkclldiphcogaa
set_option linter.unusedVariables false
open Go.RowKit Go.Maps
open Nam Tre

/-- How an entry reads: as itself. -/
def HV (v : Value) : Option (DataW Value × List MemPlace) := some (.held v, [])
/-- The map in block b has sz entries: those of f. -/
def MpK (k : TypeId) (w : World) (b sz : Nat) (f : Lit → Option Nat) : Prop :=
  ∃ D : DataW Value, w.ownsMap Try.prog k HV b sz D ∧ Maps.size D = sz ∧ ∀ kl, WideAt.IsKeyLit kl → has D kl = (f kl).isSome ∧ ∀ z, f kl = some z → D.atKey kl (.held (.int .i64 0)) = .held (.int .i64 (z : Int))
theorem MpK.same {k : TypeId} {w w' : World} {b sz : Nat} {f : Lit → Option Nat} (h : MpK k w b sz f) (hb : w'.heap[b]? = w.heap[b]?) : MpK k w' b sz f := by
  obtain ⟨D, ⟨es, clock, h1, h2⟩, h3⟩ := h
  exact ⟨D, ⟨es, clock, hb.trans h1, h2⟩, h3⟩
theorem MpK.lt {k : TypeId} {w : World} {b sz : Nat} {f : Lit → Option Nat} (h : MpK k w b sz f) : b < w.heap.size := by
  obtain ⟨D, h1, _⟩ := h
  exact h1.lt
theorem MpK.below {k : TypeId} {w w' : World} {b sz : Nat} {f : Lit → Option Nat} (h : MpK k w b sz f) (hb : Below w.heap.size w w') : MpK k w' b sz f :=
  h.same (hb.block b h.lt)
theorem mpk_new (k : TypeId) (w : World) : MpK k (w.alloc (.map #[] 0)) w.heap.size 0 (fun _ => none) :=
  ⟨.map [], World.ownsMap_made w _ _ _, rfl, fun kl _ => ⟨rfl, fun z hz => by cases hz⟩⟩
theorem MpK.len {k : TypeId} {w : World} {b sz : Nat} {f : Lit → Option Nat} (h : MpK k w b sz f) {t e : TypeId} (ht : Try.prog.underlying t = some (.map k e)) (ty : TypeId) : (Builtin.len_ #[t] ty #[.map (some b)]).run Try.prog w = .ok (.int .i64 (sz : Int)) w := by
  obtain ⟨D, h1, h2, _⟩ := h
  have := h1.len ht ty
  rw [h2] at this
  exact this
theorem zeroInt7 (w : World) : (zeroValue 3).run Try.prog w = .ok (.int .i64 0) w := by kernel_rfl
theorem MpK.look {k : TypeId} {w : World} {b sz : Nat} {f : Lit → Option Nat} (h : MpK k w b sz f) (K : Keyed Try.prog k) {t : TypeId} (ht : Try.prog.underlying t = some (.map k 3)) {key : Value} {kl : Lit} (hkey : keyOf Try.prog k key = some kl) (hk : WideAt.IsKeyLit kl) :
    (Instr.lookup t (.map (some b)) key true).run Try.prog w = .ok (.tuple #[.int .i64 (((f kl).getD 0 : Nat) : Int), .bool (f kl).isSome]) w := by
  obtain ⟨D, h1, _, h3⟩ := h
  obtain ⟨e1, e2⟩ := h3 kl hk
  obtain ⟨v, ps, hr, hv⟩ := h1.look_ok K ht (zeroInt7 w) (zd := .held (.int .i64 0)) (zp := []) rfl hkey
  rw [e1] at hr
  cases hf : f kl with
  | none =>
    rw [hf] at e1 hr
    rw [Maps.atKey_of_not_has e1] at hv
    simp [HV] at hv
    rw [hv.1] at hr
    exact hr
  | some z =>
    rw [hf] at hr
    rw [e2 z hf] at hv
    simp [HV] at hv
    rw [hv.1] at hr
    exact hr
/-- f with an entry more. -/
def upd (f : Lit → Option Nat) (kl : Lit) (z : Nat) : Lit → Option Nat := fun k => if k.sameKey kl = true then some z else f k
theorem upd_same (f : Lit → Option Nat) (kl : Lit) (z : Nat) (hk : WideAt.IsKeyLit kl) : upd f kl z kl = some z := by
  unfold upd; rw [if_pos (WideAt.sameKey_self hk)]
theorem upd_other (f : Lit → Option Nat) {kl k : Lit} (z : Nat) (h : k ≠ kl) : upd f kl z k = f k := by
  unfold upd; rw [if_neg (fun e => h (WideAt.sameKey_eq e))]
theorem tight {k : TypeId} {w : World} {b n : Nat} {D : DataW Value} (h : w.ownsMap Try.prog k HV b n D) : w.ownsMap Try.prog k HV b (Maps.size D) D := by
  obtain ⟨es, clock, h1, h2, h3, rfl⟩ := h
  refine ⟨es, clock, h1, h2, ?_, rfl⟩
  simp [Maps.size, length_sorted]
theorem MpK.store {k : TypeId} {w : World} {b sz : Nat} {f : Lit → Option Nat} (h : MpK k w b sz f) (K : Keyed Try.prog k) {t : TypeId} (ht : Try.prog.underlying t = some (.map k 3)) {key : Value} {kl : Lit} (hkey : keyOf Try.prog k key = some kl) (hk : WideAt.IsKeyLit kl) (hsz : sz ≤ 1000000) (z : Nat) :
    ∃ w', (Instr.mapUpdate t (.map (some b)) key (.int .i64 (z : Int))).run Try.prog w = .ok () w' ∧ MpK k w' b (if (f kl).isSome = true then sz else sz + 1) (upd f kl z) ∧ w.grownBy w' (some b) := by
  obtain ⟨D, h1, h2, h3⟩ := h
  obtain ⟨w', hr, hm, hg⟩ := h1.update K ht (by unfold maxLen; omega) hkey (show HV (.int .i64 (z : Int)) = some (.held _, []) from rfl)
  refine ⟨w', hr, ⟨D.put kl (.held (.int .i64 (z : Int))), ?_, ?_, fun k' hk' => ?_⟩, hg⟩
  · have := tight hm
    rw [Maps.size_put (h1.tidy K), (h3 kl hk).1, h2] at this
    exact this
  · rw [Maps.size_put (h1.tidy K), (h3 kl hk).1, h2]
  · by_cases e : k' = kl
    · subst e
      rw [upd_same _ _ _ hk]
      refine ⟨Maps.has_put_same h1.isMap hk _, fun y hy => ?_⟩
      cases hy
      exact Maps.atKey_put_same h1.isMap hk _ _
    · rw [upd_other _ _ e, Maps.has_put_other e]
      refine ⟨(h3 k' hk').1, fun y hy => ?_⟩
      rw [Maps.atKey_put_other e]
      exact (h3 k' hk').2 y hy

namespace Tre
/-- The places of keys, the last one of each, of the first i. -/
def mlast (ks : List Lit) : Nat → Lit → Option Nat
  | 0 => fun _ => none
  | i + 1 => upd (mlast ks i) (ks.getD i (.bool false)) i
/-- How many keys these are. -/
def mcnt (ks : List Lit) : Nat → Nat
  | 0 => 0
  | i + 1 => if (mlast ks i (ks.getD i (.bool false))).isSome = true then mcnt ks i else mcnt ks i + 1
theorem mlast_some {ks : List Lit} (hk : ∀ k ∈ ks, WideAt.IsKeyLit k) : ∀ (i : Nat), i ≤ ks.length → ∀ k j, mlast ks i k = some j → j < i ∧ ks[j]? = some k
  | 0, _, k, j, h => by cases h
  | i + 1, hi, k, j, h => by
    have hg : ks.getD i (.bool false) = ks[i] := by simp [show i < ks.length by omega]
    by_cases e : k = ks.getD i (.bool false)
    · rw [mlast, e, upd_same _ _ _ (by rw [hg]; exact hk _ (List.getElem_mem _))] at h
      cases h
      exact ⟨by omega, by rw [e, hg, List.getElem?_eq_getElem]⟩
    · rw [mlast, upd_other _ _ e] at h
      obtain ⟨h1, h2⟩ := mlast_some hk i (by omega) k j h
      exact ⟨by omega, h2⟩
theorem mlast_mem {ks : List Lit} (hk : ∀ k ∈ ks, WideAt.IsKeyLit k) : ∀ (i : Nat), i ≤ ks.length → ∀ k, (mlast ks i k).isSome = true ↔ k ∈ ks.take i
  | 0, _, k => by simp [mlast]
  | i + 1, hi, k => by
    have hi' : i < ks.length := by omega
    have hg : ks.getD i (.bool false) = ks[i] := by simp [hi']
    rw [List.take_succ_eq_append_getElem hi', List.mem_append, List.mem_singleton]
    by_cases e : k = ks[i]
    · rw [mlast, hg, e, upd_same _ _ _ (hk _ (List.getElem_mem _))]
      simp
    · rw [mlast, hg, upd_other _ _ e, mlast_mem hk i (by omega) k]
      simp [e]
theorem mcnt_le {ks : List Lit} : ∀ (i : Nat), mcnt ks i ≤ i
  | 0 => Nat.le_refl _
  | i + 1 => by
    have := mcnt_le (ks := ks) i
    rw [mcnt]; split <;> omega
theorem mcnt_nodup {ks : List Lit} (hk : ∀ k ∈ ks, WideAt.IsKeyLit k) : ∀ (i : Nat), i ≤ ks.length → (mcnt ks i = i ↔ (ks.take i).Nodup)
  | 0, _ => by simp [mcnt]
  | i + 1, hi => by
    have hi' : i < ks.length := by omega
    have hg : ks.getD i (.bool false) = ks[i] := by simp [hi']
    have hm := mlast_mem hk i (by omega) ks[i]
    have ih := mcnt_nodup hk i (by omega)
    have hle := mcnt_le (ks := ks) i
    rw [mcnt, hg, List.take_succ_eq_append_getElem hi', List.nodup_append]
    by_cases e : (mlast ks i ks[i]).isSome = true
    · rw [if_pos e]
      constructor
      · intro h; omega
      · intro h; exact absurd rfl (h.2.2 _ (hm.1 e) _ (List.mem_singleton.2 rfl))
    · rw [if_neg e]
      constructor
      · intro h
        refine ⟨ih.1 (by omega), by simp, fun a ha b hb => ?_⟩
        rw [List.mem_singleton] at hb
        intro eq
        rw [eq, hb] at ha
        exact e (hm.2 ha)
      · intro h
        have := ih.2 h.1
        omega
end Tre
end Go.Proofs.Ytgkclldiphcogaa

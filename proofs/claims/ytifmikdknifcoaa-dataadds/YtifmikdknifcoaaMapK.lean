/- Maps of the call's own whose values are numbers, as functions of the key. -/
import Derived.Test.YtifmikdknifcoaaBase
import Derived.Maps.OwnSet
import Derived.Maps.Views
import Derived.Carry
namespace Go.Proofs.Ytifmikdknifcoaa
set_option linter.unusedVariables false
open Go.RowKit Go.Maps

/-- How an entry reads: as itself. -/
def HV (v : Value) : Option (DataW Value × List MemPlace) := some (.held v, [])
/-- The map in block b has sz entries: those of f. -/
def MpK (k : TypeId) (w : World) (b sz : Nat) (f : Lit → Option Nat) : Prop :=
  ∃ D : DataW Value, w.ownsMap Try.prog k HV b sz D ∧ Maps.size D = sz ∧ ∀ kl, WideAt.IsKeyLit kl → has D kl = (f kl).isSome ∧ ∀ z, f kl = some z → D.atKey kl (.held (.int .i64 0)) = .held (.int .i64 (z : Int))
theorem MpK.same {k : TypeId} {w w' : World} {b sz : Nat} {f : Lit → Option Nat} (h : MpK k w b sz f) (hb : w'.heap[b]? = w.heap[b]?) : MpK k w' b sz f := by
  obtain ⟨D, ⟨es, clock, h1, h2⟩, h3⟩ := h
  exact ⟨D, ⟨es, clock, hb.trans h1, h2⟩, h3⟩
theorem MpK.lt {k : TypeId} {w : World} {b sz : Nat} {f : Lit → Option Nat} (h : MpK k w b sz f) : b < w.heap.size := by
  obtain ⟨D, h1, _⟩ := h
  exact h1.lt
theorem MpK.below {k : TypeId} {w w' : World} {b sz : Nat} {f : Lit → Option Nat} (h : MpK k w b sz f) (hb : Below w.heap.size w w') : MpK k w' b sz f :=
  h.same (hb.block b h.lt)
theorem mpk_new (k : TypeId) (w : World) : MpK k (w.alloc (.map #[] 0)) w.heap.size 0 (fun _ => none) :=
  ⟨.map [], World.ownsMap_made w _ _ _, rfl, fun kl _ => ⟨rfl, fun z hz => by cases hz⟩⟩
theorem MpK.len {k : TypeId} {w : World} {b sz : Nat} {f : Lit → Option Nat} (h : MpK k w b sz f) {t e : TypeId} (ht : Try.prog.underlying t = some (.map k e)) (ty : TypeId) : (Builtin.len_ #[t] ty #[.map (some b)]).run Try.prog w = .ok (.int .i64 (sz : Int)) w := by
  obtain ⟨D, h1, h2, _⟩ := h
  have := h1.len ht ty
  rw [h2] at this
  exact this
theorem zeroInt7 (w : World) : (zeroValue 3).run Try.prog w = .ok (.int .i64 0) w := by kernel_rfl
theorem MpK.look {k : TypeId} {w : World} {b sz : Nat} {f : Lit → Option Nat} (h : MpK k w b sz f) (K : Keyed Try.prog k) {t : TypeId} (ht : Try.prog.underlying t = some (.map k 3)) {key : Value} {kl : Lit} (hkey : keyOf Try.prog k key = some kl) (hk : WideAt.IsKeyLit kl) :
    (Instr.lookup t (.map (some b)) key true).run Try.prog w = .ok (.tuple #[.int .i64 (((f kl).getD 0 : Nat) : Int), .bool (f kl).isSome]) w := by
  obtain ⟨D, h1, _, h3⟩ := h
  obtain ⟨e1, e2⟩ := h3 kl hk
  obtain ⟨v, ps, hr, hv⟩ := h1.look_ok K ht (zeroInt7 w) (zd := .held (.int .i64 0)) (zp := []) rfl hkey
  rw [e1] at hr
  cases hf : f kl with
  | none =>
    rw [hf] at e1 hr
    rw [Maps.atKey_of_not_has e1] at hv
    simp [HV] at hv
    rw [hv.1] at hr
    exact hr
  | some z =>
    rw [hf] at hr
    rw [e2 z hf] at hv
    simp [HV] at hv
    rw [hv.1] at hr
    exact hr
/-- f with an entry more. -/
def upd (f : Lit → Option Nat) (kl : Lit) (z : Nat) : Lit → Option Nat := fun k => if k.sameKey kl = true then some z else f k
theorem upd_same (f : Lit → Option Nat) (kl : Lit) (z : Nat) (hk : WideAt.IsKeyLit kl) : upd f kl z kl = some z := by
  unfold upd; rw [if_pos (WideAt.sameKey_self hk)]
theorem upd_other (f : Lit → Option Nat) {kl k : Lit} (z : Nat) (h : k ≠ kl) : upd f kl z k = f k := by
  unfold upd; rw [if_neg (fun e => h (WideAt.sameKey_eq e))]
theorem tight {k : TypeId} {w : World} {b n : Nat} {D : DataW Value} (h : w.ownsMap Try.prog k HV b n D) : w.ownsMap Try.prog k HV b (Maps.size D) D := by
  obtain ⟨es, clock, h1, h2, h3, rfl⟩ := h
  refine ⟨es, clock, h1, h2, ?_, rfl⟩
  simp [Maps.size, length_sorted]
theorem MpK.store {k : TypeId} {w : World} {b sz : Nat} {f : Lit → Option Nat} (h : MpK k w b sz f) (K : Keyed Try.prog k) {t : TypeId} (ht : Try.prog.underlying t = some (.map k 3)) {key : Value} {kl : Lit} (hkey : keyOf Try.prog k key = some kl) (hk : WideAt.IsKeyLit kl) (hsz : sz ≤ 1000000) (z : Nat) :
    ∃ w', (Instr.mapUpdate t (.map (some b)) key (.int .i64 (z : Int))).run Try.prog w = .ok () w' ∧ MpK k w' b (if (f kl).isSome = true then sz else sz + 1) (upd f kl z) ∧ w.grownBy w' (some b) := by
  obtain ⟨D, h1, h2, h3⟩ := h
  obtain ⟨w', hr, hm, hg⟩ := h1.update K ht (by unfold maxLen; omega) hkey (show HV (.int .i64 (z : Int)) = some (.held _, []) from rfl)
  refine ⟨w', hr, ⟨D.put kl (.held (.int .i64 (z : Int))), ?_, ?_, fun k' hk' => ?_⟩, hg⟩
  · have := tight hm
    rw [Maps.size_put (h1.tidy K), (h3 kl hk).1, h2] at this
    exact this
  · rw [Maps.size_put (h1.tidy K), (h3 kl hk).1, h2]
  · by_cases e : k' = kl
    · subst e
      rw [upd_same _ _ _ hk]
      refine ⟨Maps.has_put_same h1.isMap hk _, fun y hy => ?_⟩
      cases hy
      exact Maps.atKey_put_same h1.isMap hk _ _
    · rw [upd_other _ _ e, Maps.has_put_other e]
      refine ⟨(h3 k' hk').1, fun y hy => ?_⟩
      rw [Maps.atKey_put_other e]
      exact (h3 k' hk').2 y hy
theorem keyStr (s : ByteArray) (hs : s.size ≤ maxLen) : keyOf Try.prog 9 (.string s) = some (.string s.data.toList) := by
  rw [keyOf_string Try.underlying9]
  simp [mapKey, Try.underlying9, hs]
theorem keyedStr : Keyed Try.prog 9 := string_keyed Try.underlying9
end Go.Proofs.Ytifmikdknifcoaa

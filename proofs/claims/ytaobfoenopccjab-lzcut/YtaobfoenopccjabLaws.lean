/- The walks of LzMatches, LzUnpacks and LzPacks: each returns true and writes nothing that was there. -/
import Derived.Test.YtaobfoenopccjabShown
import Derived.OpenShut
import Derived.Laws.AppendOwnNone
namespace Go.Proofs.Ytaobfoenopccjab
set_option linter.unusedVariables false
open Go.RowKit Go.Maps
open Lz (g cp up unpack pack runs mt)

/-- A slice of bytes that came in. -/
def RowB (w : World) (a : Option Addr) (len cap : Nat) (zs : List Int) : Prop :=
  (a = none ∧ len = 0 ∧ cap = 0 ∧ zs = []) ∨
  ∃ x, a = some x ∧ len ≤ cap ∧ cap ≤ maxLen ∧ zs.length = cap ∧ (∀ i, i < zs.length → w.cell? (x.add i) = some (.int .u8 (zs.getD i 0))) ∧ ∀ n ∈ zs, (Lit.int .u8 n).wf = true

theorem wf_u8 {n : Int} (h : (Lit.int .u8 n).wf = true) : 0 ≤ n ∧ n ≤ 255 := by
  have := bounds_u8 h
  omega
theorem wf_i64_bd {n : Int} (h : (Lit.int .i64 n).wf = true) : -9223372036854775808 ≤ n ∧ n ≤ 9223372036854775807 := by
  have := bounds_i64 h
  omega

theorem Bs.alloc {w : World} {ao : Option Addr} {n : Nat} {zs : List Int} (h : Bs w ao n zs) (o : Obj) : Bs (w.alloc o) ao n zs := h.below ((Below.refl _ _).alloc (Nat.le_refl _) o)
/-- Its first m bytes. -/
theorem RowB.bs {w : World} {a : Option Addr} {len cap : Nat} {zs : List Int} (h : RowB w a len cap zs) (m : Nat) (hm : m ≤ len) : Bs w a m (zs.take m) ∧ len ≤ cap ∧ cap ≤ 9223372036854775807 ∧ Bytes (zs.take m) ∧ (a = none → cap = 0) := by
  rcases h with ⟨rfl, rfl, rfl, rfl⟩ | ⟨x, rfl, hl, hc, hz, hcell, hwf⟩
  · obtain rfl : m = 0 := by omega
    exact ⟨⟨rfl, fun i => by simp [g], .inl rfl⟩, by omega, by omega, fun x hx => by simp at hx, fun _ => rfl⟩
  · have hb : Bytes zs := fun n hn => wf_u8 (hwf n hn)
    refine ⟨⟨by simp; omega, (hb.take m).g, ?_⟩, hl, by unfold maxLen at hc; omega, hb.take m, fun e => by simp at e⟩
    by_cases e : m = 0
    · exact .inl e
    · obtain ⟨b, off, spot⟩ := x
      have hc0 := hcell 0 (by omega)
      have hspot : spot = none := by simpa [Addr.add] using World.cell?_spot hc0
      subst hspot
      have hlt : b < w.heap.size := by
        have := World.block_lt_of_cell? w _ hc0
        simpa [Addr.add] using this
      refine .inr ⟨b, off, rfl, hlt, fun i hi => ?_⟩
      simp at hi
      rw [Lz.g_take _ _ _ (by omega)]
      have := hcell i (by omega)
      rw [Addr.add_lit] at this
      exact this


theorem Bytes.nil : Bytes [] := fun x hx => by simp at hx
theorem Bytes.snoc {out : List Int} (h : Bytes out) (i : Nat) : Bytes (out ++ [Lz.g out i]) := h.append (fun x hx => by simp at hx; rw [hx]; exact h.g i)
theorem Bytes.cp (back : Nat) : ∀ (n : Nat) {out : List Int}, Bytes out → Bytes (Lz.cp back n out)
  | 0, out, h => h
  | n + 1, out, h => by unfold Lz.cp; exact Bytes.cp back n (h.snoc _)
theorem Bytes.upF (most : Int) : ∀ (f : Nat) {b out : List Int}, Bytes b → Bytes out → Bytes (Lz.upF most f b out).1
  | 0, b, out, _, h => h
  | f + 1, b, out, hb, h => by
    rw [Lz.upF_succ]
    split
    · exact h
    · split
      · split
        · exact Bytes.nil
        · split
          · exact Bytes.nil
          · exact Bytes.upF most f (hb.drop _) (h.append ((hb.take _).drop _))
      · split
        · exact Bytes.nil
        · split
          · exact Bytes.nil
          · exact Bytes.upF most f (hb.drop _) (Bytes.cp _ _ h)
theorem Bytes.unpack {b : List Int} (h : Bytes b) (most : Int) : Bytes (Lz.unpack b most).1 := by
  unfold Lz.unpack
  split
  · exact Bytes.nil
  · exact Bytes.upF most _ h Bytes.nil

/-- 'append' to a row of bytes of the call's own, of bytes wherever they lie, none too. -/
theorem wpList_append_bs (w : World) {ops : Array Oper} {rest : List Oper} {o : Oper} {a : Act} {Q : Exit → Act → World → Prop} (hgd : o.guard = none) (s x : Operand)
    (ho : o.op = .call { callee := .builtin .append, args := #[s, x], argTypes := #[22, 22] })
    (base : Nat) (vo : Option Addr) (n vc : Nat) (xs : List Int) (hs : a.eval s = .slice vo n vc) (hown : w.ownsRow base 5 1 (.slice vo n vc) n (bv xs))
    (ao : Option Addr) (m c : Nat) (zs : List Int) (hx : a.eval x = .slice ao m c) (hb : Bs w ao m zs) (hnil : ao = none → c = 0)
    (hbd : n + m ≤ 100000000) (hbase : base ≤ w.heap.size)
    (h : ∀ ao' c' w', w'.ownsRow base 5 1 (.slice ao' (n + m) c') (n + m) (bv (xs ++ zs)) → w.grownBy w' (Value.slice vo n vc).ownBlock → wpList Try.prog ops Q rest (a.put o.dst (.slice ao' (n + m) c')) w') :
    wpList Try.prog ops Q (o :: rest) a w := by
  obtain ⟨i0, hi, hz0, hz1, hz2⟩ := info_parts infoByte
  obtain ⟨hz, hby, h0⟩ := hb
  cases ao with
  | none =>
    obtain rfl : c = 0 := hnil rfl
    obtain rfl : m = 0 := by
      rcases h0 with h0 | ⟨b, off, h1, _⟩
      · exact h0
      · simp at h1
    obtain rfl : zs = [] := List.eq_nil_of_length_eq_zero hz
    refine wpList_append_own_none hgd s x _ ho base 5 i0 1 Try.underlying22 hi _ n (bv xs) hs hown hx ?_
    have := h vo vc w (by simpa using hown) (World.grownBy.refl _ _)
    simpa using this
  | some ad =>
    refine wpList_append_own w hgd s x _ ho base 5 i0 (.int .u8 0) 1 1 Try.underlying22 hi hz0 hz1 hz2 rfl (by decide) _ n (bv xs) hs hown ad m c (bv zs) hx (by rw [bv_length]; omega) ?_ (bv_one _) (by unfold maxLen; omega) (by omega) hbase ?_
    · rcases h0 with h0 | ⟨b, off, h1, _, hseg⟩
      · have : zs = [] := List.eq_nil_of_length_eq_zero (by omega)
        subst this
        intro j u hu; simp [bv] at hu
      · obtain rfl := Option.some.inj h1
        have := news_seg hseg m
        rw [List.take_of_length_le (by omega)] at this
        exact this
    · intro v' w' h2 h3 _
      obtain ⟨ao', c', rfl⟩ := owns_shape h2
      exact h ao' c' w' (by rw [bv_append]; exact h2) h3

end Go.Proofs.Ytaobfoenopccjab

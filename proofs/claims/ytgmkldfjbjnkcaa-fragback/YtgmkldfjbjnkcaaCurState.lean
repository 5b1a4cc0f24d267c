/- Readers and writers in memory: a block of two cells, a slice of bytes and the error; frames that name the blocks that may turn. -/
import Derived.Test.YtgmkldfjbjnkcaaBase
namespace Go.Proofs.Ytgmkldfjbjnkcaa
set_option linter.unusedVariables false
open Go.RowKit Go.Maps
open Lz (g)

/-- The block p, of the type t, holds the slice and the error. -/
def Hd (t : TypeId) (w : World) (p : Nat) (ao : Option Addr) (n c : Nat) (e : Int) : Prop := w.heap[p]? = some (.cells #[.slice ao n c, .int .i64 e] t (0, 0))
theorem Hd.lt {t : TypeId} {w : World} {p n c : Nat} {ao : Option Addr} {e : Int} (h : Hd t w p ao n c e) : p < w.heap.size := heap_lt h
theorem Hd.c0 {t : TypeId} {w : World} {p n c : Nat} {ao : Option Addr} {e : Int} (h : Hd t w p ao n c e) : w.cell? ⟨p, 0, none⟩ = some (.slice ao n c) := by
  unfold Hd at h; simp [World.cell?, h]
theorem Hd.c1 {t : TypeId} {w : World} {p n c : Nat} {ao : Option Addr} {e : Int} (h : Hd t w p ao n c e) : w.cell? ⟨p, 1, none⟩ = some (.int .i64 e) := by
  unfold Hd at h; simp [World.cell?, h]
theorem Hd.f {t : TypeId} {w : World} {p n c : Nat} {ao : Option Addr} {e : Int} (h : Hd t w p ao n c e) (i : Nat) : w.frozen? ⟨p, i, none⟩ = false := by
  unfold Hd at h; simp [World.frozen?, h]
theorem heap_setCell_self {w : World} {p i : Nat} {cs : Array Value} {t : TypeId} {fz : Nat × Nat} (h : w.heap[p]? = some (.cells cs t fz)) (v : Value) : (w.setCell ⟨p, i, none⟩ v).heap[p]? = some (.cells (cs.setIfInBounds i v) t fz) := by
  simp [World.setCell, Array.getElem?_modify, h]
theorem Hd.set0 {t : TypeId} {w : World} {p n c : Nat} {ao : Option Addr} {e : Int} (h : Hd t w p ao n c e) (ao' : Option Addr) (n' c' : Nat) : Hd t (w.setCell ⟨p, 0, none⟩ (.slice ao' n' c')) p ao' n' c' e := by
  unfold Hd; rw [heap_setCell_self h]; rfl
theorem Hd.set1 {t : TypeId} {w : World} {p n c : Nat} {ao : Option Addr} {e : Int} (h : Hd t w p ao n c e) (e' : Int) : Hd t (w.setCell ⟨p, 1, none⟩ (.int .i64 e')) p ao n c e' := by
  unfold Hd; rw [heap_setCell_self h]; rfl
/-- All blocks but those that S names are as they were. -/
structure Fr (S : Nat → Prop) (w w' : World) : Prop where
  os : w'.os = w.os
  tape : w'.tape = w.tape
  output : w'.output = w.output
  size : w.heap.size ≤ w'.heap.size
  block : ∀ k, k < w.heap.size → ¬ S k → w'.heap[k]? = w.heap[k]?
theorem Fr.refl (S : Nat → Prop) (w : World) : Fr S w w := ⟨rfl, rfl, rfl, Nat.le_refl _, fun _ _ _ => rfl⟩
theorem Fr.trans {S S' : Nat → Prop} {a b c : World} (h : Fr S a b) (k : Fr S' b c) (hs : ∀ i, i < a.heap.size → S' i → S i) : Fr S a c :=
  ⟨k.os.trans h.os, k.tape.trans h.tape, k.output.trans h.output, Nat.le_trans h.size k.size, fun i hi hn => (k.block i (Nat.lt_of_lt_of_le hi h.size) (fun hx => hn (hs i hi hx))).trans (h.block i hi hn)⟩
theorem Fr.then {S : Nat → Prop} {a b c : World} (h : Fr S a b) (k : Fr S b c) : Fr S a c := h.trans k (fun _ _ h => h)
theorem Fr.mono {S S' : Nat → Prop} {a b : World} (h : Fr S a b) (hs : ∀ i, i < a.heap.size → S i → S' i) : Fr S' a b :=
  ⟨h.os, h.tape, h.output, h.size, fun i hi hn => h.block i hi (fun hx => hn (hs i hi hx))⟩
theorem Fr.set {S : Nat → Prop} {a b : World} (h : Fr S a b) {p : Addr} (v : Value) (hp : p.block < a.heap.size → S p.block) : Fr S a (b.setCell p v) :=
  ⟨h.os, h.tape, h.output, by simpa [World.setCell] using h.size, fun i hi hn => (Below.heap_setCell _ _ _ _ (fun e => by subst e; exact hn (hp hi))).trans (h.block i hi hn)⟩
theorem Fr.alloc {S : Nat → Prop} {a b : World} (h : Fr S a b) (o : Obj) : Fr S a (b.alloc o) :=
  ⟨h.os, h.tape, h.output, Nat.le_trans h.size (by simp), fun i hi hn => (Below.heap_alloc _ _ _ (Nat.lt_of_lt_of_le hi h.size)).trans (h.block i hi hn)⟩
theorem Fr.drew {S : Nat → Prop} {a b : World} (h : Fr S a b) : Fr S a b.drew := ⟨h.os, h.tape, h.output, h.size, h.block⟩
theorem Fr.drewN {S : Nat → Prop} {a b : World} (h : Fr S a b) (n : Nat) : Fr S a (b.drewN n) := ⟨h.os, h.tape, h.output, h.size, h.block⟩
theorem Fr.undrew {S : Nat → Prop} {a b : World} (h : Fr S a.drew b) : Fr S a b := ⟨h.os, h.tape, h.output, h.size, h.block⟩
theorem Fr.of_below {S : Nat → Prop} {a b : World} (h : Below a.heap.size a b) : Fr S a b := ⟨h.os, h.tape, h.output, h.size, fun i hi _ => h.block i hi⟩
theorem Fr.of_grown {S : Nat → Prop} {a b : World} {row : Option Nat} (h : a.grownBy b row) (hr : ∀ k, row = some k → S k) : Fr S a b := ⟨h.os, h.tape, h.output, h.size, fun i hi hn => h.block i hi (fun e => hn (hr i e.symm))⟩
theorem Fr.below {S : Nat → Prop} {a b : World} (h : Fr S a b) (B : Nat) (hB : B ≤ a.heap.size) (hs : ∀ k, S k → B ≤ k) : Below B a b :=
  ⟨h.os, h.tape, h.output, h.size, fun k hk => h.block k (by omega) (fun hx => by have := hs k hx; omega)⟩
theorem Fr.cell {S : Nat → Prop} {a b : World} (h : Fr S a b) {q : Addr} (hq : q.block < a.heap.size) (hn : ¬ S q.block) : b.cell? q = a.cell? q := World.cell?_of_block (w := a) (h.block _ hq hn)
theorem Hd.fr {S : Nat → Prop} {t : TypeId} {w w' : World} {p n c : Nat} {ao : Option Addr} {e : Int} (h : Hd t w p ao n c e) (hf : Fr S w w') (hn : ¬ S p) : Hd t w' p ao n c e := (hf.block p h.lt hn).trans h
theorem Bs.fr {S : Nat → Prop} {w w' : World} {ao : Option Addr} {n : Nat} {zs : List Int} (h : Bs w ao n zs) (hf : Fr S w w') (hn : ∀ a, ao = some a → 0 < n → ¬ S a.block) : Bs w' ao n zs := by
  refine ⟨h.1, h.2.1, ?_⟩
  rcases h.2.2 with h0 | ⟨b, off, h1, h2, h3⟩
  · exact .inl h0
  · by_cases e : n = 0
    · exact .inl e
    · exact .inr ⟨b, off, h1, Nat.lt_of_lt_of_le h2 hf.size, fun i hi => (hf.cell (q := ⟨b, off + i, none⟩) h2 (show ¬ S b from hn ⟨b, off, none⟩ h1 (by omega))).trans (h3 i hi)⟩
/-- Bytes lie in no block of the other kind. -/
theorem Bs.ne {t : TypeId} {w : World} {p n c m : Nat} {ao ao' : Option Addr} {e : Int} {zs : List Int} (h : Bs w ao m zs) (hd : Hd t w p ao' n c e) (hne : t ≠ 5) : ∀ a, ao = some a → 0 < m → a.block ≠ p := by
  intro a ha hm hp
  rcases h.2.2 with h0 | ⟨b, off, h1, h2, h3⟩
  · omega
  · rw [ha] at h1
    obtain rfl := Option.some.inj h1
    have := h3 0 (by rw [h.1]; omega)
    simp only at hp
    subst hp
    unfold Hd at hd
    simp [World.cell?, hd] at this
    rcases off with _ | _ | off <;> simp at this
theorem owns_ne_hd {t : TypeId} {w : World} {p n c m B size : Nat} {ao : Option Addr} {v : Value} {e : Int} {xs : List Value} (h : w.ownsRow B 5 size v m xs) (hd : Hd t w p ao n c e) (hne : t ≠ 5) : v.ownBlock ≠ some p := by
  intro hv
  have := owns_ne h hd (fun cur fz hx => by injection hx with _ h2 _; exact hne h2)
  exact this hv.symm
theorem owns_fr {S : Nat → Prop} {w w' : World} {B e size n : Nat} {v : Value} {xs : List Value} (h : w.ownsRow B e size v n xs) (hf : Fr S w w') (hn : ∀ k, v.ownBlock = some k → ¬ S k) : w'.ownsRow B e size v n xs := by
  refine ⟨h.1, ?_⟩
  rcases h.2 with h0 | ⟨g, cap, cur, rfl, hg, hgg, rest⟩
  · exact .inl h0
  · exact .inr ⟨g, cap, cur, rfl, hg, by rw [hf.block g (heap_lt hgg) (hn g rfl)]; exact hgg, rest⟩
/-- A new block of that kind. -/
theorem Hd.new (t : TypeId) (w : World) (ao : Option Addr) (n c : Nat) (e : Int) : Hd t (w.alloc (.cells #[.slice ao n c, .int .i64 e] t)) w.heap.size ao n c e := heap_alloc_new w _

/-- What is left to be read, or was written, and the error. -/
abbrev St := List Int × Int
/-- A reader: its bytes lie in a block below L; behind an error there are none. -/
def RdP (w : World) (p L : Nat) (s : St) : Prop := ∃ ao n c, Hd 104 w p ao n c s.2 ∧ BsB w L ao n s.1 ∧ n ≤ c ∧ c ≤ 9223372036854775807 ∧ n ≤ 1000000 ∧ (ao = none → c = 0) ∧ L ≤ w.heap.size ∧ (s.2 = 0 ∨ s.1 = [])
/-- The reference's reader: behind an error its bytes are of no account. -/
def RdR (w : World) (p L : Nat) (s : St) : Prop := ∃ ao n c zs, Hd 92 w p ao n c s.2 ∧ BsB w L ao n zs ∧ n ≤ c ∧ c ≤ 9223372036854775807 ∧ n ≤ 1000000 ∧ (ao = none → c = 0) ∧ L ≤ w.heap.size ∧ (s.2 = 0 → zs = s.1) ∧ (s.2 = 0 ∨ s.1 = [])
/-- A writer: its row is its own. -/
def WrP (w : World) (p B : Nat) (v : Value) (s : St) : Prop := ∃ ao n c, v = .slice ao n c ∧ Hd 81 w p ao n c s.2 ∧ w.ownsRow B 5 1 (.slice ao n c) n (bv s.1) ∧ Bytes s.1 ∧ (s.2 = 0 ∨ s.1 = [])
/-- The block p alone. -/
def One (p : Nat) : Nat → Prop := fun k => k = p
/-- The block p and the row v. -/
def Two (p : Nat) (v : Value) : Nat → Prop := fun k => k = p ∨ v.ownBlock = some k
theorem BsB.bs {w : World} {L n : Nat} {ao : Option Addr} {zs : List Int} (h : BsB w L ao n zs) (hL : L ≤ w.heap.size) : Bs w ao n zs := by
  refine ⟨h.1, h.2.1, ?_⟩
  rcases h.2.2 with h0 | ⟨b, off, h1, h2, h3⟩
  · exact .inl h0
  · exact .inr ⟨b, off, h1, by omega, h3⟩
theorem BsB.fr {S : Nat → Prop} {w w' : World} {L n : Nat} {ao : Option Addr} {zs : List Int} (h : BsB w L ao n zs) (hL : L ≤ w.heap.size) (hf : Fr S w w') (hn : ∀ a, ao = some a → a.block < L → 0 < n → ¬ S a.block) : BsB w' L ao n zs := by
  refine ⟨h.1, h.2.1, ?_⟩
  rcases h.2.2 with h0 | ⟨b, off, h1, h2, h3⟩
  · exact .inl h0
  · by_cases e : n = 0
    · exact .inl e
    · exact .inr ⟨b, off, h1, h2, fun i hi => (hf.cell (q := ⟨b, off + i, none⟩) (Nat.lt_of_lt_of_le h2 hL) (show ¬ S b from hn ⟨b, off, none⟩ h1 h2 (by omega))).trans (h3 i hi)⟩
/-- Another block of that kind has turned. -/
theorem BsB.one {t : TypeId} {w w' : World} {q L n n' c' : Nat} {ao ao' : Option Addr} {zs : List Int} {e : Int} (h : BsB w L ao n zs) (hL : L ≤ w.heap.size) (hf : Fr (One q) w w') (hq : Hd t w q ao' n' c' e) (ht : t ≠ 5) : BsB w' L ao n zs :=
  h.fr hL hf fun a ha _ hn => (h.bs hL).ne hq ht a ha hn
theorem RdP.one {t : TypeId} {w w' : World} {p q L n' c' : Nat} {ao' : Option Addr} {e : Int} {s : St} (h : RdP w p L s) (hf : Fr (One q) w w') (hq : Hd t w q ao' n' c' e) (ht : t ≠ 5) (hne : p ≠ q) : RdP w' p L s := by
  obtain ⟨ao, n, c, h1, h2, h3, h4, h5, h6, h7, h8⟩ := h
  exact ⟨ao, n, c, h1.fr hf hne, h2.one h7 hf hq ht, h3, h4, h5, h6, Nat.le_trans h7 hf.size, h8⟩
theorem RdR.one {t : TypeId} {w w' : World} {p q L n' c' : Nat} {ao' : Option Addr} {e : Int} {s : St} (h : RdR w p L s) (hf : Fr (One q) w w') (hq : Hd t w q ao' n' c' e) (ht : t ≠ 5) (hne : p ≠ q) : RdR w' p L s := by
  obtain ⟨ao, n, c, zs, h1, h2, h3, h4, h5, h6, h7, h8⟩ := h
  exact ⟨ao, n, c, zs, h1.fr hf hne, h2.one h7 hf hq ht, h3, h4, h5, h6, Nat.le_trans h7 hf.size, h8⟩
/-- Blocks from L on have turned, its own not. -/
theorem RdP.above {S : Nat → Prop} {w w' : World} {p L : Nat} {s : St} (h : RdP w p L s) (hf : Fr S w w') (hS : ∀ k, S k → L ≤ k) (hp : ¬ S p) : RdP w' p L s := by
  obtain ⟨ao, n, c, h1, h2, h3, h4, h5, h6, h7, h8⟩ := h
  exact ⟨ao, n, c, h1.fr hf hp, h2.fr h7 hf (fun a _ hl _ hx => by have := hS _ hx; omega), h3, h4, h5, h6, Nat.le_trans h7 hf.size, h8⟩
theorem RdP.below {w w' : World} {p L : Nat} {s : St} (h : RdP w p L s) (hb : Below w.heap.size w w') : RdP w' p L s := by
  refine h.above (S := fun k => w.heap.size ≤ k) ⟨hb.os, hb.tape, hb.output, hb.size, fun k hk _ => hb.block k hk⟩ (fun k hk => ?_) ?_
  · obtain ⟨_, _, _, _, _, _, _, _, _, h7, _⟩ := h; omega
  · obtain ⟨_, _, _, h1, _⟩ := h; have := h1.lt; omega
theorem RdP.lt {w : World} {p L : Nat} {s : St} (h : RdP w p L s) : p < w.heap.size := by obtain ⟨_, _, _, h1, _⟩ := h; exact h1.lt
theorem RdR.lt {w : World} {p L : Nat} {s : St} (h : RdR w p L s) : p < w.heap.size := by obtain ⟨_, _, _, _, h1, _⟩ := h; exact h1.lt

/-- Where a row lies that has grown or gone: where it lay, or in a block that is new. -/
def Lie (w : World) (v v' : Value) : Prop := ∀ k, v'.ownBlock = some k → v.ownBlock = some k ∨ w.heap.size ≤ k
theorem Lie.refl (w : World) (v : Value) : Lie w v v := fun k h => .inl h
theorem Lie.trans {w w1 : World} {v v1 v2 : Value} (h : Lie w v v1) (hs : w.heap.size ≤ w1.heap.size) (h2 : Lie w1 v1 v2) : Lie w v v2 := fun k hk => by
  rcases h2 k hk with h3 | h3
  · exact h k h3
  · exact .inr (by omega)
/-- 'append' to a row of bytes of the call's own, of bytes wherever they lie; and where the new row lies. -/
theorem wpList_append_at (w : World) {ops : Array Oper} {rest : List Oper} {o : Oper} {a : Act} {Q : Exit → Act → World → Prop} (hgd : o.guard = none) (s x : Operand)
    (ho : o.op = .call { callee := .builtin .append, args := #[s, x], argTypes := #[30, 30] })
    (base : Nat) (vo : Option Addr) (n vc : Nat) (xs : List Int) (hs : a.eval s = .slice vo n vc) (hown : w.ownsRow base 5 1 (.slice vo n vc) n (bv xs))
    (ao : Option Addr) (m c : Nat) (zs : List Int) (hx : a.eval x = .slice ao m c) (hb : Bs w ao m zs) (hnil : ao = none → c = 0)
    (hbd : n + m ≤ 100000000) (hbase : base ≤ w.heap.size)
    (h : ∀ ao' c' w', w'.ownsRow base 5 1 (.slice ao' (n + m) c') (n + m) (bv (xs ++ zs)) → w.grownBy w' (Value.slice vo n vc).ownBlock → Lie w (.slice vo n vc) (.slice ao' (n + m) c') → wpList Try.prog ops Q rest (a.put o.dst (.slice ao' (n + m) c')) w') :
    wpList Try.prog ops Q (o :: rest) a w := by
  obtain ⟨i0, hi, hz0, hz1, hz2⟩ := info_parts infoByte
  obtain ⟨hz, hby, h0⟩ := hb
  cases ao with
  | none =>
    obtain rfl : c = 0 := hnil rfl
    obtain rfl : m = 0 := by
      rcases h0 with h0 | ⟨b, off, h1, _⟩
      · exact h0
      · simp at h1
    obtain rfl : zs = [] := List.eq_nil_of_length_eq_zero hz
    refine wpList_append_own_none hgd s x _ ho base 5 i0 1 Try.underlying30 hi _ n (bv xs) hs hown hx ?_
    have := h vo vc w (by simpa using hown) (World.grownBy.refl _ _) (fun k hk => .inl hk)
    simpa using this
  | some ad =>
    refine wpList_append_own_at w hgd s x _ ho base 5 i0 (.int .u8 0) 1 1 Try.underlying30 hi hz0 hz1 hz2 rfl (by decide) _ n (bv xs) hs hown ad m c (bv zs) hx (by rw [bv_length]; omega) ?_ (bv_one _) (by unfold maxLen; omega) (by omega) hbase ?_
    · rcases h0 with h0 | ⟨b, off, h1, _, hseg⟩
      · have : zs = [] := List.eq_nil_of_length_eq_zero (by omega)
        subst this
        intro j u hu; simp [bv] at hu
      · obtain rfl := Option.some.inj h1
        have := news_seg hseg m
        rw [List.take_of_length_le (by omega)] at this
        exact this
    · intro v' w' h2 h3 _ h5
      obtain ⟨ao', c', rfl⟩ := owns_shape h2
      refine h ao' c' w' (by rw [bv_append]; exact h2) h3 (fun k hk => ?_)
      rcases h5 with h5 | h5
      · rw [h5] at hk; exact .inl hk
      · rw [h5] at hk; exact .inr (by cases hk; omega)

namespace Cur
/-- A number of bytes, the lowest first. -/
def le : List Int → Int
  | [] => 0
  | x :: xs => x + 256 * le xs
def fl (c : Int) (s : St) : St := if s.2 = 0 then ([], c) else s
def ps (n : Nat) (s : St) : St := if s.1.length < n then fl 2 s else (s.1.drop n, s.2)
def pa (n : Nat) (s : St) : List Int := if s.1.length < n then [] else s.1.take n
def numS (n : Int) (s : St) : St := if 1 ≤ n ∧ n ≤ 4 then ps n.toNat s else fl 1 s
def numA (n : Int) (s : St) : Int := if 1 ≤ n ∧ n ≤ 4 then le (pa n.toNat s) else 0
def bytS (n : Int) (s : St) : St := if n < 0 then fl 1 s else ps n.toNat s
def bytA (n : Int) (s : St) : List Int := if n < 0 then [] else pa n.toNat s
def txtS (s : St) : St := ps (numA 1 s).toNat (numS 1 s)
def txtA (s : St) : List Int := pa (numA 1 s).toNat (numS 1 s)
def endS (s : St) : St := if 0 < s.1.length then fl 2 s else s
/-- A number's bytes. -/
def by' : Nat → Int → List Int
  | 0, _ => []
  | n + 1, x => x % 256 :: by' n (x / 256)
def wByt (b : List Int) (s : St) : St := if s.2 = 0 then (s.1 ++ b, 0) else s
def wNum (x n : Int) (s : St) : St := if 1 ≤ n ∧ n ≤ 4 ∧ 0 ≤ x ∧ x < 256 ^ n.toNat then wByt (by' n.toNat x) s else fl 1 s
def wTxt (b : List Int) (s : St) : St := if 255 < b.length then fl 3 s else wByt b (wNum b.length 1 s)
/-- A string's bytes. -/
def sb (s : ByteArray) : List Int := s.data.toList.map (fun b => (b.toNat : Int))
end Cur
end Go.Proofs.Ytgmkldfjbjnkcaa

import Derived.Test.YtflohhefbbidcaaLTrePath
import Derived.Test.YtflohhefbbidcaaLJTreRefCheck
set_option linter.unusedVariables false
namespace Go.Proofs.Ytflohhefbbidcaa
open Go.RowKit Go.Maps
open Nam Tre
namespace Tre
end Tre
end Go.Proofs.Ytflohhefbbidcaa
namespace Go.Proofs.Ytflohhefbbidcaa
open Go.RowKit Go.Maps
open Nam Tre
namespace Tre
def IsCanon (l r : List Nod) : Prop := ∃ s, s.Perm l ∧ s.Pairwise (fun p q => ltn q p = false) ∧ r = numb s
theorem xs1_vals : ∀ (a : List UInt8) (xs : List (ByteArray × List Int)), xs1 a xs = true → ∀ y ∈ xs, y.2.length ≤ 200
 | _, [], _, y, hy => by simp at hy
 | a, x :: r, h, y, hy => by
  simp only [xs1, Bool.and_eq_true, decide_eq_true_eq] at h
  rcases List.mem_cons.1 hy with rfl | hy
  ·exact h.1.2
  ·exact xs1_vals _ r h.2 y hy
theorem may_lean {n : Nod} (h : may n = true) : n.data.length ≤ 4096 ∧ n.xs.length ≤ 8 ∧ ∀ y ∈ n.xs, y.2.length ≤ 200 := by
 simp only [may, Bool.and_eq_true] at h
 obtain ⟨⟨⟨h1, _⟩, h3⟩, _⟩ := h
 simp only [xsOk, Bool.and_eq_true, decide_eq_true_eq] at h3
 refine ⟨?_, h3.1, xs1_vals _ _ h3.2⟩
 unfold kdOk at h1
 split at h1
 ·simp only [Bool.and_eq_true, decide_eq_true_eq] at h1; omega
 ·split at h1
  ·simp only [Bool.and_eq_true, decide_eq_true_eq] at h1; omega
  ·split at h1
   ·simp only [Bool.and_eq_true, decide_eq_true_eq] at h1; omega
   ·cases h1
end Tre
theorem lean_of {w : World} {v : Nv} {x : Nod} (hr : Rep w v x) (hm : may x = true) (hs : x.names.length ≤ 16) : Lean1 v x := by
 obtain ⟨h1, h2, h3⟩ := may_lean hm
 exact ⟨by rw [← hr.names.1]; omega, by rw [← hr.data.1]; omega, by rw [← hr.xs.1]; omega, fun y hy => Nat.le_trans (h3 y hy) (by omega)⟩
end Go.Proofs.Ytflohhefbbidcaa
namespace Go.Proofs.Ytflohhefbbidcaa
open Go.RowKit Go.Maps
open Nam Tre
namespace Tre
theorem names_inj : ∀ {l : List Nod}, (l.map Nod.names).Nodup → ∀ a ∈ l, ∀ b ∈ l, a.names = b.names → a = b
 | [], _, a, ha, _, _, _ => by simp at ha
 | n :: r, h, a, ha, b, hb, e => by
  rw [List.map_cons, List.nodup_cons] at h
  rcases List.mem_cons.1 ha with h1 | h1 <;> rcases List.mem_cons.1 hb with h2 | h2
  ·rw [h1, h2]
  ·exact absurd (List.mem_map.2 ⟨b, h2, by rw [← e, h1]⟩) h.1
  ·exact absurd (List.mem_map.2 ⟨a, h1, by rw [e, h2]⟩) h.1
  ·exact names_inj h.2 a h1 b h2 e
theorem order_one {l s t : List Nod} (hd : (l.map Nod.names).Nodup) (h1 : s.Perm l) (h2 : t.Perm l) (o1 : s.Pairwise (fun p q => ltn q p = false)) (o2 : t.Pairwise (fun p q => ltn q p = false)) : s = t := by
 refine List.Perm.eq_of_pairwise ?_ o1 o2 (h1.trans h2.symm)
 intro a b ha hb hab hba
 refine names_inj hd a (h1.mem_iff.1 ha) b (h2.mem_iff.1 hb) ?_
 by_cases e : a.names = b.names
 ·exact e
 ·rcases less_total (nm a.names) (nm b.names) (fun q => e (nm_inj q)) with q | q
  ·have : ltn a b = true := q
   rw [this] at hba; cases hba
  ·have : ltn b a = true := q
   rw [this] at hab; cases hab
theorem canon_one {l r t : List Nod} (hd : (l.map Nod.names).Nodup) (h1 : IsCanon l r) (h2 : IsCanon l t) : r = t := by
 obtain ⟨s, p1, o1, rfl⟩ := h1
 obtain ⟨u, p2, o2, rfl⟩ := h2
 rw [order_one hd p1 p2 o1 o2]
end Tre
end Go.Proofs.Ytflohhefbbidcaa
namespace Go.Proofs.Ytflohhefbbidcaa
open Go.RowKit Go.Maps
open Nam Tre
namespace Tre
theorem isDir_mem {l : List Nod} {m : List ByteArray} (h : isDir l m = true) : ∃ n ∈ l, n.names = m ∧ n.kind = 1 := by
 unfold isDir at h
 cases hf : l.find? (fun n => decide (n.names = m)) with
 | none => rw [hf] at h; cases h
 | some n =>
  rw [hf] at h
  exact ⟨n, List.mem_of_find?_eq_some hf, by simpa using List.find?_some hf, by simpa using h⟩
theorem less_drop {m : List ByteArray} (h : m ≠ []) : less (nm m.dropLast) (nm m) = true := by
 have e : m = m.dropLast ++ [m.getLast h] := (List.dropLast_concat_getLast h).symm
 conv => lhs; arg 2; rw [e]
 rw [nm_append]
 exact less_append _ _ _
end Tre
end Go.Proofs.Ytflohhefbbidcaa
namespace Go.Proofs.Ytflohhefbbidcaa
open Go.RowKit Go.Maps
open Nam Tre
namespace Tre
def ri (f : Int → Int) (n : Nod) : Nod := { n with ino := f n.ino }
def InjOn (f : Int → Int) (l : List Nod) : Prop := ∀ a ∈ l, ∀ b ∈ l, f a.ino = f b.ino → a.ino = b.ino
theorem nst_alike {ks js : List Lit} (hk : ∀ k ∈ ks, WideAt.IsKeyLit k) (hj : ∀ k ∈ js, WideAt.IsKeyLit k) (hl : ks.length = js.length) (he : ∀ a b (ha : a < ks.length) (hb : b < ks.length), ks[a] = ks[b] ↔ js[a]'(by omega) = js[b]'(by omega)) :
  ∀ i, i ≤ ks.length → (nst ks i).1 = (nst js i).1 ∧ ∀ a, a < i → nno ks a = nno js a
 | 0, _ => ⟨rfl, fun a h => by omega⟩
 | i + 1, h => by
  obtain ⟨h1, h2⟩ := nst_alike hk hj hl he i (by omega)
  have hi : i < ks.length := by omega
  have hi' : i < js.length := by omega
  have hm : ks[i] ∈ ks.take i ↔ js[i] ∈ js.take i := by
   rw [List.mem_take_iff_getElem, List.mem_take_iff_getElem]
   constructor
   ·rintro ⟨a, ha, e⟩; exact ⟨a, by omega, (he a i (by omega) hi).1 e⟩
   ·rintro ⟨a, ha, e⟩; exact ⟨a, by omega, (he a i (by omega) hi).2 e⟩
  by_cases q : ks[i] ∈ ks.take i
  ·have q' := hm.1 q
   refine ⟨by rw [nst_same hk hi q, nst_same hj hi' q']; exact h1, fun a ha => ?_⟩
   by_cases e : a < i
   ·exact h2 a e
   ·obtain rfl : a = i := by omega
    obtain ⟨b, hb, eb⟩ := List.mem_take_iff_getElem.1 q
    have hba : b < a := by omega
    rw [nno_old hk hi hba eb, nno_old hj hi' hba ((he b a (by omega) hi).1 eb)]
    exact h2 b hba
  ·have q' : js[i] ∉ js.take i := fun z => q (hm.2 z)
   obtain ⟨a1, a2⟩ := nno_new hk hi q
   obtain ⟨b1, b2⟩ := nno_new hj hi' q'
   refine ⟨by rw [a2, b2, h1], fun a ha => ?_⟩
   by_cases e : a < i
   ·exact h2 a e
   ·obtain rfl : a = i := by omega
    rw [a1, b1, h1]
theorem ikeys_get (l : List Nod) (i : Nat) (h : i < l.length) : (ikeys l)[i]'(by rw [ikeys_length]; exact h) = .int .i64 l[i].ino := by simp [ikeys]
theorem numb_ri {f : Int → Int} {l : List Nod} (hf : InjOn f l) : numb (l.map (ri f)) = numb l := by
 have hlen : (ikeys l).length = (ikeys (l.map (ri f))).length := by rw [ikeys_length, ikeys_length, List.length_map]
 have key := (nst_alike (ikeys_lit l) (ikeys_lit (l.map (ri f))) hlen (fun a b ha hb => by
  rw [ikeys_length] at ha hb
  rw [ikeys_get l a ha, ikeys_get l b hb, ikeys_get (l.map (ri f)) a (by simpa using ha), ikeys_get (l.map (ri f)) b (by simpa using hb)]
  simp only [List.getElem_map, ri, Lit.int.injEq, true_and]
  exact ⟨fun e => by rw [e], fun e => hf _ (List.getElem_mem ha) _ (List.getElem_mem hb) e⟩) _ (Nat.le_refl _)).2
 apply List.ext_getElem
 ·rw [numb_length, numb_length, List.length_map]
 ·intro i h1 h2
  rw [numb_length] at h2
  rw [numb_get _ _ (by simpa using h2), numb_get _ _ h2, ← key i (by rw [ikeys_length]; exact h2)]
  simp [ri]
theorem canon_ri {f : Int → Int} {l r : List Nod} (hf : InjOn f l) (h : IsCanon l r) : IsCanon (l.map (ri f)) r := by
 obtain ⟨s, hp, ho, rfl⟩ := h
 refine ⟨s.map (ri f), hp.map _, by rw [List.pairwise_map]; exact ho, ?_⟩
 exact (numb_ri (fun a ha b hb e => hf a (hp.mem_iff.1 ha) b (hp.mem_iff.1 hb) e)).symm
end Tre
end Go.Proofs.Ytflohhefbbidcaa
namespace Go.Proofs.Ytflohhefbbidcaa
open Nam Tre
namespace Mrg
def fnd (t : List Nod) (m : List ByteArray) : Option Nod := t.find? (fun n => decide (n.names = m))
theorem fnd_some {t : List Nod} {m : List ByteArray} {n : Nod} (h : fnd t m = some n) : n ∈ t ∧ n.names = m := ⟨List.mem_of_find?_eq_some h, by simpa using List.find?_some h⟩
theorem fnd_none {t : List Nod} {m : List ByteArray} : fnd t m = none ↔ ∀ n ∈ t, n.names ≠ m := by
 unfold fnd; rw [List.find?_eq_none]; simp
theorem fnd_mem {t : List Nod} (hd : (t.map Nod.names).Nodup) {n : Nod} (hn : n ∈ t) : fnd t n.names = some n := by
 cases h : fnd t n.names with
 | none => exact absurd rfl (fnd_none.1 h n hn)
 | some p =>
  obtain ⟨h1, h2⟩ := fnd_some h
  rw [names_inj hd p h1 n hn h2]
def stop (n : Nod) : Bool := decide (n.kind ≠ 1) || n.opq
def blk (t : List Nod) (m : List ByteArray) : Bool := (List.range m.length).any (fun k => ((fnd t (m.take k)).map stop).getD false)
theorem blk_false {t : List Nod} {m : List ByteArray} : blk t m = false ↔ ∀ k, k < m.length → ∀ n, fnd t (m.take k) = some n → n.kind = 1 ∧ n.opq = false := by
 unfold blk
 rw [List.any_eq_false]
 constructor
 ·intro h k hk n hn
  have := h k (List.mem_range.2 hk)
  rw [hn] at this
  simp [stop] at this
  exact this
 ·intro h k hk
  cases hf : fnd t (m.take k) with
  | none => simp
  | some n =>
   obtain ⟨h1, h2⟩ := h k (List.mem_range.1 hk) n hf
   simp [stop, h1, h2]
def mrs : List (List Nod) → List (Nat × Nod)
 | [] => []
 | t :: L => (t.filter (fun n => decide (n.kind ≠ 4))).map (fun n => (0, n)) ++ ((mrs L).filter (fun p => (fnd t p.2.names).isNone && !blk t p.2.names)).map (fun p => (p.1 + 1, p.2))
theorem mem_cons {t : List Nod} {L : List (List Nod)} {p : Nat × Nod} : p ∈ mrs (t :: L) ↔ (p.1 = 0 ∧ p.2 ∈ t ∧ p.2.kind ≠ 4) ∨ ∃ q ∈ mrs L, fnd t q.2.names = none ∧ blk t q.2.names = false ∧ p = (q.1 + 1, q.2) := by
 rw [mrs, List.mem_append, List.mem_map, List.mem_map]
 constructor
 ·rintro (⟨n, h1, rfl⟩ | ⟨q, h1, rfl⟩)
  ·obtain ⟨h2, h3⟩ := List.mem_filter.1 h1
   exact .inl ⟨rfl, h2, by simpa using h3⟩
  ·obtain ⟨h2, h3⟩ := List.mem_filter.1 h1
   simp only [Bool.and_eq_true, Bool.not_eq_true', Option.isNone_iff_eq_none] at h3
   exact .inr ⟨q, h2, h3.1, h3.2, rfl⟩
 ·rintro (⟨h1, h2, h3⟩ | ⟨q, h1, h2, h3, rfl⟩)
  ·exact .inl ⟨p.2, List.mem_filter.2 ⟨h2, by simpa using h3⟩, by rw [← h1]⟩
  ·exact .inr ⟨q, List.mem_filter.2 ⟨h1, by simp [h2, h3]⟩, rfl⟩
theorem mem_iff : ∀ {L : List (List Nod)} {p : Nat × Nod}, p ∈ mrs L ↔ (∃ t, L[p.1]? = some t ∧ p.2 ∈ t) ∧ p.2.kind ≠ 4 ∧ ∀ j t, j < p.1 → L[j]? = some t → fnd t p.2.names = none ∧ blk t p.2.names = false
 | [], p => by simp [mrs]
 | t :: L, p => by
  rw [mem_cons]
  constructor
  ·rintro (⟨h1, h2, h3⟩ | ⟨q, h1, h2, h3, rfl⟩)
   ·rw [h1]
    exact ⟨⟨t, rfl, h2⟩, h3, fun j _ h => absurd h (Nat.not_lt_zero j)⟩
   ·obtain ⟨⟨u, e1, e2⟩, e3, e4⟩ := mem_iff.1 h1
    refine ⟨⟨u, by simpa using e1, e2⟩, e3, fun j v hj hv => ?_⟩
    cases j with
    | zero => simp at hv; subst hv; exact ⟨h2, h3⟩
    | succ j => exact e4 j v (Nat.lt_of_succ_lt_succ hj) (by simpa using hv)
  ·rintro ⟨⟨u, e1, e2⟩, e3, e4⟩
   obtain ⟨i, n⟩ := p
   cases i with
   | zero => simp at e1; subst e1; exact .inl ⟨rfl, e2, e3⟩
   | succ i =>
    have h0 := e4 0 t (Nat.succ_pos i) rfl
    exact .inr ⟨(i, n), mem_iff.2 ⟨⟨u, by simpa using e1, e2⟩, e3, fun j v hj hv => e4 (j + 1) v (Nat.succ_lt_succ hj) (by simpa using hv)⟩, h0.1, h0.2, rfl⟩
theorem nodup : ∀ {L : List (List Nod)}, (∀ t ∈ L, (t.map Nod.names).Nodup) → ((mrs L).map (fun p => p.2.names)).Nodup
 | [], _ => List.nodup_nil
 | t :: L, h => by
  have ih := nodup (L := L) (fun u hu => h u (List.mem_cons_of_mem _ hu))
  unfold mrs
  rw [List.map_append, List.map_map, List.map_map, List.nodup_append]
  refine ⟨?_, ?_, ?_⟩
  ·exact ((List.filter_sublist (l := t) (p := fun n => decide (n.kind ≠ 4))).map Nod.names).nodup (h t List.mem_cons_self)
  ·exact ((List.filter_sublist (l := mrs L)).map (fun p => p.2.names)).nodup ih
  ·intro a ha b hb e
   obtain ⟨n, hn, rfl⟩ := List.mem_map.1 ha
   obtain ⟨q, hq, rfl⟩ := List.mem_map.1 hb
   have h2 := (List.mem_filter.1 hq).2
   simp only [Bool.and_eq_true, Option.isNone_iff_eq_none] at h2
   exact fnd_none.1 h2.1 n (List.mem_filter.1 hn).1 e
def cl (f : Nat → Int → Int) (p : Nat × Nod) : Nod := { p.2 with opq := false, ino := f p.1 p.2.ino }
def Inj2 (f : Nat → Int → Int) (S : List (Nat × Nod)) : Prop := ∀ p ∈ S, ∀ q ∈ S, f p.1 p.2.ino = f q.1 q.2.ino ↔ (p.1 = q.1 ∧ p.2.ino = q.2.ino)
def IsMerge (L : List (List Nod)) (r : List Nod) : Prop := ∃ f, Inj2 f (mrs L) ∧ IsCanon ((mrs L).map (cl f)) r
theorem canon_pat {α : Type} {S : List α} {a b : α → Nod} (h1 : ∀ x ∈ S, ∀ z, { a x with ino := z } = { b x with ino := z }) (h2 : ∀ x ∈ S, ∀ y ∈ S, (a x).ino = (a y).ino ↔ (b x).ino = (b y).ino) (hd : ((S.map b).map Nod.names).Nodup)
  {r r' : List Nod} (c1 : IsCanon (S.map a) r) (c2 : IsCanon (S.map b) r') : r = r' := by
 let h : Int → Int := fun z => ((S.find? (fun x => decide ((a x).ino = z))).map (fun x => (b x).ino)).getD 0
 have hh : ∀ x ∈ S, h (a x).ino = (b x).ino := fun x hx => by
  show ((S.find? (fun y => decide ((a y).ino = (a x).ino))).map (fun y => (b y).ino)).getD 0 = _
  cases hf : S.find? (fun y => decide ((a y).ino = (a x).ino)) with
  | none =>
   have := List.find?_eq_none.1 hf x hx
   simp at this
  | some y =>
   have e1 : (a y).ino = (a x).ino := by simpa using List.find?_some hf
   exact (h2 y (List.mem_of_find?_eq_some hf) x hx).1 e1
 have inj : InjOn h (S.map a) := by
  intro n hn m hm e
  obtain ⟨x, hx, rfl⟩ := List.mem_map.1 hn
  obtain ⟨y, hy, rfl⟩ := List.mem_map.1 hm
  rw [hh x hx, hh y hy] at e
  exact (h2 x hx y hy).2 e
 have e : (S.map a).map (ri h) = S.map b := by
  rw [List.map_map]
  apply List.map_congr_left
  intro x hx
  show ({ a x with ino := h (a x).ino } : Nod) = b x
  rw [hh x hx, h1 x hx]
 have c3 := canon_ri inj c1
 rw [e] at c3
 exact canon_one hd c3 c2
theorem names_cl (f : Nat → Int → Int) (S : List (Nat × Nod)) : (S.map (cl f)).map Nod.names = S.map (fun p => p.2.names) := by rw [List.map_map]; rfl
theorem merge_one {L : List (List Nod)} (h : ∀ t ∈ L, (t.map Nod.names).Nodup) {r r' : List Nod} (m1 : IsMerge L r) (m2 : IsMerge L r') : r = r' := by
 obtain ⟨f, i1, c1⟩ := m1
 obtain ⟨g, i2, c2⟩ := m2
 refine canon_pat (a := cl f) (b := cl g) (fun x _ z => rfl) (fun x hx y hy => ?_) (by rw [names_cl]; exact nodup h) c1 c2
 exact (i1 x hx y hy).trans (i2 x hx y hy).symm
end Mrg
end Go.Proofs.Ytflohhefbbidcaa
namespace Go.Proofs.Ytflohhefbbidcaa
open Nam Tre
namespace Mrg
structure Br (l : List Nod) : Prop where
 len : l.length ≤ 1024
 wrong : ∀ n ∈ l, fv n.names = 0
 deep : ∀ n ∈ l, deep n = false
 nodup : (l.map Nod.names).Nodup
 root : ∃ n ∈ l, n.names = [] ∧ n.kind = 1
 dirs : ∀ n ∈ l, n.names ≠ [] → ∃ p ∈ l, p.names = n.names.dropLast ∧ p.kind = 1
 may : ∀ n ∈ l, mayB n = true
 one : l.Pairwise oneB
theorem br_of {l : List Nod} (h : checkB l = 0) : Br l := by
 unfold checkB at h
 split at h
 ·cases h
 rename_i h1
 split at h
 ·rename_i q; exact absurd h q
 rename_i h2
 split at h
 ·cases h
 rename_i h3
 split at h
 ·cases h
 rename_i h4
 split at h
 ·cases h
 rename_i h5
 split at h
 ·cases h
 rename_i h6
 split at h
 ·cases h
 rename_i h7
 split at h
 ·cases h
 rename_i h8
 have h4' := Decidable.not_not.1 h4
 have h8' : l.Pairwise oneB := Classical.byContradiction h8
 refine ⟨by omega, wrong_zero l (Decidable.not_not.1 h2), fun n hn => ?_, h4', isDir_mem (by simpa using h5), fun n hn hne => ?_, List.all_eq_true.1 (by simpa using h7), h8'⟩
 ·cases hq : Tre.deep n with
  | false => rfl
  | true => exact absurd (List.any_eq_true.2 ⟨n, hn, hq⟩) h3
 ·have hd := List.all_eq_true.1 (by simpa using h6) n hn
  unfold inDir at hd
  rw [decide_eq_false (by intro q; exact hne (List.eq_nil_of_length_eq_zero q)), Bool.false_or] at hd
  exact isDir_mem hd
theorem Br.fnd_up {l : List Nod} (h : Br l) {m : List ByteArray} {n : Nod} (hn : fnd l m = some n) (hm : m ≠ []) : ∃ p, fnd l m.dropLast = some p ∧ p.kind = 1 := by
 obtain ⟨h1, h2⟩ := fnd_some hn
 obtain ⟨p, p1, p2, p3⟩ := h.dirs n h1 (by rw [h2]; exact hm)
 have := fnd_mem h.nodup p1
 rw [p2, h2] at this
 exact ⟨p, this, p3⟩
end Mrg
end Go.Proofs.Ytflohhefbbidcaa
namespace Go.Proofs.Ytflohhefbbidcaa
open Nam Tre
namespace Mrg
def ly (L : List (List Nod)) (i : Nat) : List Nod := L.getD i []
theorem ly_lt {L : List (List Nod)} {i : Nat} (h : i < L.length) : L[i]? = some (ly L i) := by simp [ly, h]
theorem ly_mem {L : List (List Nod)} {i : Nat} (h : i < L.length) : ly L i ∈ L := List.mem_of_getElem? (ly_lt h)
def gos (L : List (List Nod)) (m : List ByteArray) : List Nat → List Nat → List Nat
 | out, [] => out
 | out, i :: r =>
  match fnd (ly L i) m with
  | none => gos L m out r
  | some n =>
   if n.kind = 4 then out
   else if n.kind ≠ 1 then (if out = [] then [i] else out)
   else if n.opq = true then out ++ [i]
   else gos L m (out ++ [i]) r
theorem gos_none {L : List (List Nod)} {m : List ByteArray} {out r : List Nat} {i : Nat} (h : fnd (ly L i) m = none) : gos L m out (i :: r) = gos L m out r := by rw [gos, h]
theorem gos_white {L : List (List Nod)} {m : List ByteArray} {out r : List Nat} {i : Nat} {n : Nod} (h : fnd (ly L i) m = some n) (k : n.kind = 4) : gos L m out (i :: r) = out := by
 rw [gos, h]; simp only; rw [if_pos k]
theorem gos_file {L : List (List Nod)} {m : List ByteArray} {out r : List Nat} {i : Nat} {n : Nod} (h : fnd (ly L i) m = some n) (k : n.kind ≠ 4) (k1 : n.kind ≠ 1) : gos L m out (i :: r) = if out = [] then [i] else out := by
 rw [gos, h]; simp only; rw [if_neg k, if_pos k1]
theorem gos_opq {L : List (List Nod)} {m : List ByteArray} {out r : List Nat} {i : Nat} {n : Nod} (h : fnd (ly L i) m = some n) (k : n.kind = 1) (o : n.opq = true) : gos L m out (i :: r) = out ++ [i] := by
 rw [gos, h]; simp only; rw [if_neg (by rw [k]; decide), if_neg (by rw [k]; simp), if_pos o]
theorem gos_dir {L : List (List Nod)} {m : List ByteArray} {out r : List Nat} {i : Nat} {n : Nod} (h : fnd (ly L i) m = some n) (k : n.kind = 1) (o : n.opq = false) : gos L m out (i :: r) = gos L m (out ++ [i]) r := by
 rw [gos, h]; simp only; rw [if_neg (by rw [k]; decide), if_neg (by rw [k]; simp), if_neg (by rw [o]; simp)]
def thru (o : Option Nod) : Prop := ∀ n, o = some n → n.kind = 1 ∧ n.opq = false
theorem thru_none : thru none := fun n h => by cases h
theorem mem_gos {L : List (List Nod)} {m : List ByteArray} {x : Nat} : ∀ (r out : List Nat), x ∈ gos L m out r ↔ x ∈ out ∨ ∃ pre post, r = pre ++ x :: post ∧ (∀ y ∈ pre, thru (fnd (ly L y) m)) ∧ ∃ n, fnd (ly L x) m = some n ∧ n.kind ≠ 4 ∧ (n.kind = 1 ∨ (out = [] ∧ ∀ y ∈ pre, fnd (ly L y) m = none))
 | [], out => by
  simp only [gos]
  constructor
  ·exact .inl
  ·rintro (h | ⟨pre, post, h, _⟩)
   ·exact h
   ·simp at h
 | i :: r, out => by
  have split : ∀ {P : List Nat → Prop}, (∃ pre post, i :: r = pre ++ x :: post ∧ P pre) ↔ (x = i ∧ P []) ∨ ∃ pre post, r = pre ++ x :: post ∧ P (i :: pre) := fun {P} => by
   constructor
   ·rintro ⟨pre, post, e, h⟩
    cases pre with
    | nil => simp at e; exact .inl ⟨e.1.symm, h⟩
    | cons a pre => simp at e; obtain ⟨rfl, e⟩ := e; exact .inr ⟨pre, post, e, h⟩
   ·rintro (⟨rfl, h⟩ | ⟨pre, post, e, h⟩)
    ·exact ⟨[], r, rfl, h⟩
    ·exact ⟨i :: pre, post, by rw [e]; rfl, h⟩
  rw [split]
  cases hf : fnd (ly L i) m with
  | none =>
   rw [gos_none hf, mem_gos r out]
   constructor
   ·rintro (h | ⟨pre, post, e, h1, n, h2, h3, h4⟩)
    ·exact .inl h
    ·refine .inr (.inr ⟨pre, post, e, ?_, n, h2, h3, ?_⟩)
     ·intro y hy
      rcases List.mem_cons.1 hy with rfl | hy
      ·rw [hf]; exact thru_none
      ·exact h1 y hy
     ·rcases h4 with h4 | ⟨h4, h5⟩
      ·exact .inl h4
      ·refine .inr ⟨h4, fun y hy => ?_⟩
       rcases List.mem_cons.1 hy with rfl | hy
       ·exact hf
       ·exact h5 y hy
   ·rintro (h | ⟨rfl, _, n, h2, _⟩ | ⟨pre, post, e, h1, n, h2, h3, h4⟩)
    ·exact .inl h
    ·rw [hf] at h2; cases h2
    ·refine .inr ⟨pre, post, e, fun y hy => h1 y (List.mem_cons_of_mem _ hy), n, h2, h3, ?_⟩
     rcases h4 with h4 | ⟨h4, h5⟩
     ·exact .inl h4
     ·exact .inr ⟨h4, fun y hy => h5 y (List.mem_cons_of_mem _ hy)⟩
  | some z =>
   have nothru : z.kind ≠ 1 ∨ z.opq = true → ∀ pre : List Nat, ¬ ∀ y ∈ i :: pre, thru (fnd (ly L y) m) := fun hz pre h => by
    have := h i List.mem_cons_self z hf
    rcases hz with q | q
    ·exact q this.1
    ·rw [q] at this; cases this.2
   by_cases k4 : z.kind = 4
   ·rw [gos_white hf k4]
    constructor
    ·exact .inl
    ·rintro (h | ⟨rfl, _, n, h2, h3, _⟩ | ⟨pre, post, e, h1, _⟩)
     ·exact h
     ·rw [hf] at h2; rw [← Option.some.inj h2] at h3; exact absurd k4 h3
     ·exact absurd h1 (nothru (.inl (by rw [k4]; decide)) pre)
   by_cases k1 : z.kind = 1
   ·cases o : z.opq with
    | true =>
     rw [gos_opq hf k1 o, List.mem_append, List.mem_singleton]
     constructor
     ·rintro (h | rfl)
      ·exact .inl h
      ·exact .inr (.inl ⟨rfl, fun y hy => by simp at hy, z, hf, k4, .inl k1⟩)
     ·rintro (h | ⟨rfl, _⟩ | ⟨pre, post, e, h1, _⟩)
      ·exact .inl h
      ·exact .inr rfl
      ·exact absurd h1 (nothru (.inr o) pre)
    | false =>
     rw [gos_dir hf k1 o, mem_gos r (out ++ [i]), List.mem_append, List.mem_singleton]
     constructor
     ·rintro ((h | rfl) | ⟨pre, post, e, h1, n, h2, h3, h4⟩)
      ·exact .inl h
      ·exact .inr (.inl ⟨rfl, fun y hy => by simp at hy, z, hf, k4, .inl k1⟩)
      ·refine .inr (.inr ⟨pre, post, e, ?_, n, h2, h3, ?_⟩)
       ·intro y hy
        rcases List.mem_cons.1 hy with rfl | hy
        ·intro n hn; rw [hf] at hn; rw [← Option.some.inj hn]; exact ⟨k1, o⟩
        ·exact h1 y hy
       ·rcases h4 with h4 | ⟨h4, _⟩
        ·exact .inl h4
        ·simp at h4
     ·rintro (h | ⟨rfl, _⟩ | ⟨pre, post, e, h1, n, h2, h3, h4⟩)
      ·exact .inl (.inl h)
      ·exact .inl (.inr rfl)
      ·refine .inr ⟨pre, post, e, fun y hy => h1 y (List.mem_cons_of_mem _ hy), n, h2, h3, ?_⟩
       rcases h4 with h4 | ⟨_, h5⟩
       ·exact .inl h4
       ·have := h5 i List.mem_cons_self
        rw [hf] at this; cases this
   ·rw [gos_file hf k4 k1]
    constructor
    ·intro h
     by_cases e : out = []
     ·rw [if_pos e, List.mem_singleton] at h
      exact .inr (.inl ⟨h, fun y hy => by simp at hy, z, by rw [h]; exact hf, k4, .inr ⟨e, fun y hy => by simp at hy⟩⟩)
     ·rw [if_neg e] at h; exact .inl h
    ·rintro (h | ⟨rfl, _, n, h2, h3, h4⟩ | ⟨pre, post, e, h1, _⟩)
     ·rw [if_neg (by intro e; rw [e] at h; simp at h)]; exact h
     ·rw [hf] at h2
      rw [← Option.some.inj h2] at h4
      rcases h4 with h4 | ⟨h4, _⟩
      ·exact absurd h4 k1
      ·rw [if_pos h4]; simp
     ·exact absurd h1 (nothru (.inl k1) pre)
theorem gos_sub {L : List (List Nod)} {m : List ByteArray} : ∀ (r out : List Nat), (gos L m out r).Sublist (out ++ r)
 | [], out => by simp [gos]
 | i :: r, out => by
  cases hf : fnd (ly L i) m with
  | none => rw [gos_none hf]; exact (gos_sub r out).trans (List.Sublist.append_left (List.sublist_cons_self _ _) _)
  | some z =>
   by_cases k4 : z.kind = 4
   ·rw [gos_white hf k4]; exact List.sublist_append_left _ _
   by_cases k1 : z.kind = 1
   ·have hh : out ++ i :: r = out ++ [i] ++ r := by simp
    cases o : z.opq with
    | true => rw [gos_opq hf k1 o, hh]; exact List.sublist_append_left _ _
    | false => rw [gos_dir hf k1 o, hh]; exact gos_sub r (out ++ [i])
   ·rw [gos_file hf k4 k1]
    by_cases e : out = []
    ·rw [if_pos e, e]; simp
    ·rw [if_neg e]; exact List.sublist_append_left _ _
def srcK (L : List (List Nod)) (m : List ByteArray) : Nat → List Nat
 | 0 => gos L [] [] (List.range L.length)
 | k + 1 =>
  match srcK L m k with
  | [] => []
  | i :: r => if ((fnd (ly L i) (m.take k)).map Nod.kind) = some 1 then gos L (m.take (k + 1)) [] (i :: r) else []
def srcs (L : List (List Nod)) (m : List ByteArray) : List Nat := srcK L m m.length
theorem srcK_nil {L : List (List Nod)} {m : List ByteArray} {k : Nat} (h : srcK L m k = []) : srcK L m (k + 1) = [] := by rw [srcK, h]
theorem srcK_cons {L : List (List Nod)} {m : List ByteArray} {k i : Nat} {r : List Nat} (h : srcK L m k = i :: r) : srcK L m (k + 1) = if ((fnd (ly L i) (m.take k)).map Nod.kind) = some 1 then gos L (m.take (k + 1)) [] (i :: r) else [] := by rw [srcK, h]
theorem rises_pre {r pre post : List Nat} {x : Nat} (h : r.Pairwise (· < ·)) (e : r = pre ++ x :: post) : ∀ y, y ∈ pre ↔ y ∈ r ∧ y < x := fun y => by
 rw [e] at h
 obtain ⟨h1, h2, h3⟩ := List.pairwise_append.1 h
 rw [e]
 constructor
 ·intro hy; exact ⟨List.mem_append.2 (.inl hy), h3 y hy x List.mem_cons_self⟩
 ·rintro ⟨hy, hl⟩
  rcases List.mem_append.1 hy with hy | hy
  ·exact hy
  ·rcases List.mem_cons.1 hy with rfl | hy
   ·exact absurd hl (Nat.lt_irrefl _)
   ·have := (List.pairwise_cons.1 h2).1 y hy; omega
theorem mem_split {r : List Nat} {x : Nat} (h : x ∈ r) : ∃ pre post, r = pre ++ x :: post := List.append_of_mem h
theorem srcK_rises {L : List (List Nod)} {m : List ByteArray} : ∀ k, (srcK L m k).Pairwise (· < ·)
 | 0 => (List.pairwise_lt_range).sublist (by rw [srcK]; simpa using gos_sub (L := L) (m := []) (List.range L.length) [])
 | k + 1 => by
  have ih := srcK_rises (L := L) (m := m) k
  cases e : srcK L m k with
  | nil => rw [srcK_nil e]; exact List.Pairwise.nil
  | cons i r =>
   rw [e] at ih
   rw [srcK_cons e]
   split
   ·exact ih.sublist (by simpa using gos_sub (L := L) (m := m.take (k + 1)) (i :: r) [])
   ·exact List.Pairwise.nil
theorem mem_srcK {L : List (List Nod)} (hB : ∀ t ∈ L, Br t) {m : List ByteArray} : ∀ k, k ≤ m.length → ∀ x, x ∈ srcK L m k ↔ x < L.length ∧ ∃ n, fnd (ly L x) (m.take k) = some n ∧ n.kind ≠ 4 ∧ (∀ j, j < x → ∀ c, c ≤ k → thru (fnd (ly L j) (m.take c))) ∧ (n.kind = 1 ∨ ∀ j, j < x → fnd (ly L j) (m.take k) = none)
 | 0, _, x => by
  unfold srcK
  rw [mem_gos]
  have hr : (List.range L.length).Pairwise (· < ·) := List.pairwise_lt_range
  simp only [List.not_mem_nil, false_or, true_and, List.take_zero]
  constructor
  ·rintro ⟨pre, post, e, h1, n, h2, h3, h4⟩
   have hx : x ∈ List.range L.length := by rw [e]; simp
   have hx' := List.mem_range.1 hx
   have mem : ∀ j, j < x → j ∈ pre := fun j hj => (rises_pre hr e j).2 ⟨List.mem_range.2 (by omega), hj⟩
   refine ⟨hx', n, h2, h3, fun j hj c hc => ?_, ?_⟩
   ·obtain rfl : c = 0 := by omega
    rw [List.take_zero]; exact h1 j (mem j hj)
   ·rcases h4 with h4 | h4
    ·exact .inl h4
    ·exact .inr fun j hj => h4 j (mem j hj)
  ·rintro ⟨hx, n, h2, h3, h1, h4⟩
   obtain ⟨pre, post, e⟩ := mem_split (List.mem_range.2 hx)
   have mem : ∀ j, j ∈ pre → j < x := fun j hj => ((rises_pre hr e j).1 hj).2
   refine ⟨pre, post, e, fun y hy => by have := h1 y (mem y hy) 0 (Nat.le_refl _); rwa [List.take_zero] at this, n, h2, h3, ?_⟩
   rcases h4 with h4 | h4
   ·exact .inl h4
   ·exact .inr fun y hy => h4 y (mem y hy)
 | k + 1, hk, x => by
  have ih := mem_srcK hB (m := m) k (by omega)
  have hr := srcK_rises (L := L) (m := m) k
  have up : (m.take (k + 1)).dropLast = m.take k := by
   rw [List.dropLast_eq_take, List.take_take, List.length_take]
   congr 1; omega
  have ne : m.take (k + 1) ≠ [] := by
   intro e
   have := congrArg List.length e
   rw [List.length_take, List.length_nil] at this
   omega
  have dir : ∀ j, j < L.length → ∀ n, fnd (ly L j) (m.take (k + 1)) = some n → ∃ p, fnd (ly L j) (m.take k) = some p ∧ p.kind = 1 := fun j hj n hn => by
   obtain ⟨p, p1, p2⟩ := (hB _ (ly_mem hj)).fnd_up hn ne
   rw [up] at p1
   exact ⟨p, p1, p2⟩
  have core : (x ∈ srcK L m k ∧ (∀ y, y ∈ srcK L m k → y < x → thru (fnd (ly L y) (m.take (k + 1)))) ∧ ∃ n, fnd (ly L x) (m.take (k + 1)) = some n ∧ n.kind ≠ 4 ∧ (n.kind = 1 ∨ ∀ y, y ∈ srcK L m k → y < x → fnd (ly L y) (m.take (k + 1)) = none)) ↔
    x < L.length ∧ ∃ n, fnd (ly L x) (m.take (k + 1)) = some n ∧ n.kind ≠ 4 ∧ (∀ j, j < x → ∀ c, c ≤ k + 1 → thru (fnd (ly L j) (m.take c))) ∧ (n.kind = 1 ∨ ∀ j, j < x → fnd (ly L j) (m.take (k + 1)) = none) := by
   constructor
   ·rintro ⟨hx, h1, n, h2, h3, h4⟩
    obtain ⟨hl, p, p1, p2, p3, p4⟩ := (ih x).1 hx
    have all : ∀ j, j < x → ∀ z, fnd (ly L j) (m.take (k + 1)) = some z → j ∈ srcK L m k := fun j hj z hz => by
     obtain ⟨q, q1, q2⟩ := dir j (by omega) z hz
     exact (ih j).2 ⟨by omega, q, q1, by rw [q2]; decide, fun i hi c hc => p3 i (by omega) c hc, .inl q2⟩
    refine ⟨hl, n, h2, h3, fun j hj c hc => ?_, ?_⟩
    ·by_cases e : c = k + 1
     ·rw [e]
      intro z hz
      exact h1 j (all j hj z hz) hj z hz
     ·exact p3 j hj c (by omega)
    ·rcases h4 with h4 | h4
     ·exact .inl h4
     ·refine .inr fun j hj => ?_
      cases hf : fnd (ly L j) (m.take (k + 1)) with
      | none => rfl
      | some z => rw [h4 j (all j hj z hf) hj] at hf; cases hf
   ·rintro ⟨hl, n, h2, h3, h1, h4⟩
    obtain ⟨p, p1, p2⟩ := dir x hl n h2
    refine ⟨(ih x).2 ⟨hl, p, p1, by rw [p2]; decide, fun j hj c hc => h1 j hj c (by omega), .inl p2⟩, fun y hy hyx => h1 y hyx (k + 1) (Nat.le_refl _), n, h2, h3, ?_⟩
    rcases h4 with h4 | h4
    ·exact .inl h4
    ·exact .inr fun y hy hyx => h4 y hyx
  rw [← core]
  cases e : srcK L m k with
  | nil =>
   rw [srcK_nil e]
   simp only [List.not_mem_nil, false_and]
  | cons i r =>
   have hi : i ∈ srcK L m k := by rw [e]; simp
   have least : ∀ y, y ∈ i :: r → i ≤ y := fun y hy => by
    rw [e] at hr
    rcases List.mem_cons.1 hy with rfl | hy
    ·exact Nat.le_refl _
    ·exact Nat.le_of_lt ((List.pairwise_cons.1 hr).1 y hy)
   rw [srcK_cons e]
   by_cases hd : ((fnd (ly L i) (m.take k)).map Nod.kind) = some 1
   ·rw [if_pos hd, mem_gos]
    rw [e] at hr
    simp only [List.not_mem_nil, false_or, true_and]
    constructor
    ·rintro ⟨pre, post, e2, h1, n, h2, h3, h4⟩
     have pm := rises_pre hr e2
     refine ⟨by rw [e2]; simp, fun y hy hyx => h1 y ((pm y).2 ⟨hy, hyx⟩), n, h2, h3, ?_⟩
     rcases h4 with h4 | h4
     ·exact .inl h4
     ·exact .inr fun y hy hyx => h4 y ((pm y).2 ⟨hy, hyx⟩)
    ·rintro ⟨hx, h1, n, h2, h3, h4⟩
     obtain ⟨pre, post, e2⟩ := mem_split hx
     have pm := rises_pre hr e2
     refine ⟨pre, post, e2, fun y hy => h1 y ((pm y).1 hy).1 ((pm y).1 hy).2, n, h2, h3, ?_⟩
     rcases h4 with h4 | h4
     ·exact .inl h4
     ·exact .inr fun y hy => h4 y ((pm y).1 hy).1 ((pm y).1 hy).2
   ·rw [if_neg hd]
    constructor
    ·intro h; simp at h
    ·rintro ⟨hx, h1, n, h2, h3, h4⟩
     exfalso
     obtain ⟨il, p, p1, p2, p3, p4⟩ := (ih i).1 hi
     have hp : p.kind ≠ 1 := fun q => hd (by rw [p1]; simp [q])
     rw [← e] at hx
     obtain ⟨xl, q, q1, q2, q3, q4⟩ := (ih x).1 hx
     rcases Nat.lt_or_ge i x with hlt | hge
     ·exact hp (q3 i hlt k (Nat.le_refl _) p p1).1
     ·have : x = i := Nat.le_antisymm hge (least x (by rw [← e]; exact hx))
      subst this
      obtain ⟨z, z1, z2⟩ := dir x xl n h2
      rw [p1] at z1
      exact hp (by rw [Option.some.inj z1]; exact z2)
theorem top_iff {L : List (List Nod)} (hB : ∀ t ∈ L, Br t) {m : List ByteArray} {i : Nat} : (srcs L m).head? = some i ↔ ∃ n, (i, n) ∈ mrs L ∧ n.names = m := by
 have ms := mem_srcK hB (m := m) m.length (Nat.le_refl _)
 rw [List.take_length] at ms
 have hr := srcK_rises (L := L) (m := m) m.length
 constructor
 ·intro h
  have hi : i ∈ srcs L m := List.mem_of_head? h
  have least : ∀ y, y ∈ srcs L m → i ≤ y := by
   unfold srcs at h ⊢
   cases e : srcK L m m.length with
   | nil => rw [e] at h; cases h
   | cons a r =>
    rw [e] at h hr
    have : a = i := by simpa using h
    subst this
    intro y hy
    rcases List.mem_cons.1 hy with rfl | hy
    ·exact Nat.le_refl _
    ·exact Nat.le_of_lt ((List.pairwise_cons.1 hr).1 y hy)
  obtain ⟨hl, n, h1, h2, h3, h4⟩ := (ms i).1 hi
  obtain ⟨f1, f2⟩ := fnd_some h1
  refine ⟨n, mem_iff.2 ⟨⟨_, ly_lt hl, f1⟩, h2, fun j t hj ht => ?_⟩, f2⟩
  have hjl : j < L.length := by omega
  rw [ly_lt hjl] at ht
  have := Option.some.inj ht
  subst this
  show fnd (ly L j) n.names = none ∧ blk (ly L j) n.names = false
  rw [f2]
  refine ⟨?_, blk_false.2 fun c hc z hz => h3 j hj c (Nat.le_of_lt hc) z hz⟩
  cases hf : fnd (ly L j) m with
  | none => rfl
  | some z =>
   have hz := h3 j hj m.length (Nat.le_refl _) z (by rw [List.take_length]; exact hf)
   have := least j ((ms j).2 ⟨hjl, z, hf, by rw [hz.1]; decide, fun i' hi' c hc => h3 i' (by omega) c hc, .inl hz.1⟩)
   omega
 ·rintro ⟨n, hn, rfl⟩
  obtain ⟨⟨t, e1, e2⟩, e3, e4⟩ := mem_iff.1 hn
  have hl : i < L.length := by
   rcases Nat.lt_or_ge i L.length with q | q
   ·exact q
   ·rw [List.getElem?_eq_none q] at e1; cases e1
  have ht : t = ly L i := by rw [ly_lt hl] at e1; exact (Option.some.inj e1).symm
  rw [ht] at e2
  have hf := fnd_mem (hB _ (ly_mem hl)).nodup e2
  have no : ∀ j, j < i → fnd (ly L j) n.names = none ∧ blk (ly L j) n.names = false := fun j hj => e4 j _ hj (ly_lt (by omega))
  have hi : i ∈ srcs L n.names := (ms i).2 ⟨hl, n, hf, e3, fun j hj c hc z hz => by
   by_cases e : c = n.names.length
   ·rw [e, List.take_length, (no j hj).1] at hz; cases hz
   ·exact blk_false.1 (no j hj).2 c (by omega) z hz, .inr fun j hj => (no j hj).1⟩
  unfold srcs at hi ⊢
  cases e : srcK L n.names n.names.length with
  | nil => rw [e] at hi; simp at hi
  | cons a r =>
   rw [e] at hi hr
   rcases List.mem_cons.1 hi with rfl | hi
   ·rfl
   ·exfalso
    have ha := (List.pairwise_cons.1 hr).1 i hi
    obtain ⟨_, z, z1, _⟩ := (ms a).1 (by rw [e]; simp)
    rw [(no a ha).1] at z1; cases z1
end Mrg
end Go.Proofs.Ytflohhefbbidcaa
namespace Go.Proofs.Ytflohhefbbidcaa
open Go.RowKit Go.Maps
open Nam Tre Mrg Brn
theorem bs_zero (w : World) (ao : Option Addr) : Bs w ao 0 [] := ⟨rfl, fun i => by simp [Lz.g], .inl rfl⟩
theorem nbox {W : World} {b : Nat} {v : Nv} {t : TypeId} (h : W.heap[b]? = some (.cells v.cells t (0, 0))) : W.cell? ⟨b, 0, none⟩ = some (.slice v.na v.nn v.nc) ∧ W.cell? ⟨b, 1, none⟩ = some (.int .i64 v.ino) ∧ W.cell? ⟨b, 2, none⟩ = some (.int .i64 v.kind) ∧ W.cell? ⟨b, 3, none⟩ = some (.int .i64 v.mode) ∧ W.cell? ⟨b, 4, none⟩ = some (.int .i64 v.uid) ∧ W.cell? ⟨b, 5, none⟩ = some (.int .i64 v.gid) ∧ W.cell? ⟨b, 6, none⟩ = some (.slice v.da v.dn v.dc) ∧ W.cell? ⟨b, 7, none⟩ = some (.string v.tg) ∧ W.cell? ⟨b, 8, none⟩ = some (.slice v.xa v.xn v.xc) ∧ W.cell? ⟨b, 9, none⟩ = some (.bool v.op) ∧ (∀ j, W.frozen? ⟨b, j, none⟩ = false) := by
 simp [World.cell?, World.frozen?, h, Nv.cells]
theorem results_box {fn : Func} {p : Tmp} {ty : TypeId} (h : fn.results = #[.cell p ty]) (tmps : Array Value) (w : World) (g : Nat) (cs : Array Value)
  (hp : tmps.getD p undef = .pointer (some ⟨g, 0, none⟩)) (hr : (loadVar ty ⟨g, 0, none⟩).run Try.prog w = .ok (.agg cs) w) :
  (results fn tmps).run Try.prog w = .ok (.agg cs) w := by
 have hp' : tmps[p]?.getD undef = .pointer (some ⟨g, 0, none⟩) := by simpa using hp
 simp [results, h, hp', asAddr, hr]
theorem infoNod : (Try.prog.info? 44).map (fun i => i.size) = some 10 := by kernel_rfl
theorem load_nod {w : World} {b : Nat} {t : TypeId} {cs : Array Value} {fr : Nat × Nat} (h : w.heap[b]? = some (.cells cs t fr)) (hs : cs.size = 10) : (loadVar 44 ⟨b, 0, none⟩).run Try.prog w = .ok (.agg cs) w :=
 run_loadVar_row w b t 44 cs fr _ h Try.underlying44 rfl (by rw [hs]; exact infoNod)
end Go.Proofs.Ytflohhefbbidcaa
namespace Go.Proofs.Ytflohhefbbidcaa
open Nam Tre
namespace Mrg
abbrev Pl := Nat × Nat
def nat' (L : List (List Nod)) (p : Pl) : Nod := (ly L p.1).getD p.2 nod0
def PlOk (L : List (List Nod)) (p : Pl) : Prop := p.1 < L.length ∧ p.2 < (ly L p.1).length
theorem nat_get {L : List (List Nod)} {p : Pl} (h : PlOk L p) : nat' L p = (ly L p.1)[p.2]'h.2 := by
 unfold nat'; rw [List.getD_eq_getElem?_getD, List.getElem?_eq_getElem h.2]; rfl
theorem nat_mem {L : List (List Nod)} {p : Pl} (h : PlOk L p) : nat' L p ∈ ly L p.1 := by
 rw [nat_get h]; exact List.getElem_mem h.2
theorem nat_of {L : List (List Nod)} {i : Nat} (hi : i < L.length) {n : Nod} (h : n ∈ ly L i) : ∃ k, PlOk L (i, k) ∧ nat' L (i, k) = n := by
 obtain ⟨k, hk, e⟩ := List.getElem_of_mem h
 exact ⟨k, ⟨hi, hk⟩, by rw [nat_get ⟨hi, hk⟩]; exact e⟩
def cutN (L : List (List Nod)) : List Pl → Bool → Nat
 | [], _ => 0
 | p :: r, b => if (nat' L p).kind = 1 ∧ (nat' L p).opq = false then cutN L r false + 1 else if (nat' L p).kind = 1 ∨ (b = true ∧ (nat' L p).kind ≠ 4) then 1 else 0
theorem cutN_le {L : List (List Nod)} : ∀ (r : List Pl) (b : Bool), cutN L r b ≤ r.length
 | [], _ => Nat.le_refl _
 | p :: r, b => by
  have := cutN_le (L := L) r false
  rw [cutN, List.length_cons]
  split
  ·omega
  ·split <;> omega
def mad (L : List (List Nod)) (r : List Pl) : List Pl := r.take (cutN L r true)
theorem gos_cut {L : List (List Nod)} {m : List ByteArray} : ∀ (r : List Pl) (out : List Nat), (∀ p ∈ r, fnd (ly L p.1) m = some (nat' L p)) → gos L m out (r.map (·.1)) = out ++ (r.take (cutN L r (decide (out = [])))).map (·.1)
 | [], out, _ => by simp [gos]
 | p :: r, out, h => by
  have hp := h p (by simp)
  have ih := fun out => gos_cut (L := L) (m := m) r out (fun q hq => h q (by simp [hq]))
  rw [List.map_cons]
  by_cases k : (nat' L p).kind = 1
  ·by_cases o : (nat' L p).opq = false
   ·rw [gos_dir hp k o, ih]
    have e : decide (out ++ [p.1] = []) = false := by simp
    rw [e, cutN, if_pos ⟨k, o⟩, List.take_succ_cons]; simp
   ·rw [gos_opq hp k (by simpa using o), cutN, if_neg (fun q => o q.2), if_pos (.inl k)]; simp
  ·by_cases w : (nat' L p).kind = 4
   ·rw [gos_white hp w, cutN, if_neg (fun q => k q.1), if_neg (by rintro (q | q); exact k q; exact q.2 w)]; simp
   ·rw [gos_file hp w k, cutN]
    by_cases e : out = []
    ·rw [if_pos e, if_neg (fun q => k q.1), if_pos (.inr ⟨by simp [e], w⟩)]; simp [e]
    ·rw [if_neg e, if_neg (fun q => k q.1), if_neg (by rintro (q | q); exact k q; exact e (by simpa using q.1))]; simp
theorem gos_skip {L : List (List Nod)} {m : List ByteArray} : ∀ (r out : List Nat), gos L m out r = gos L m out (r.filter (fun i => (fnd (ly L i) m).isSome))
 | [], out => rfl
 | i :: r, out => by
  cases h : fnd (ly L i) m with
  | none => rw [gos_none h, List.filter_cons_of_neg (by simp [h]), gos_skip r out]
  | some n =>
   rw [List.filter_cons_of_pos (by simp [h])]
   by_cases k : n.kind = 4
   ·rw [gos_white h k, gos_white h k]
   ·by_cases k1 : n.kind = 1
    ·by_cases o : n.opq = true
     ·rw [gos_opq h k1 o, gos_opq h k1 o]
     ·rw [gos_dir h k1 (by simpa using o), gos_dir h k1 (by simpa using o)]
      exact gos_skip r _
    ·rw [gos_file h k k1, gos_file h k k1]
structure IsRow (L : List (List Nod)) (m : List ByteArray) (r : List Pl) : Prop where
 mem : ∀ p, p ∈ r ↔ PlOk L p ∧ (nat' L p).names = m
 rise : r.Pairwise (fun p q => p.1 < q.1)
section
variable {L : List (List Nod)} {m : List ByteArray} {r : List Pl}
theorem IsRow.fnd (hd : ∀ t ∈ L, (t.map Nod.names).Nodup) (h : IsRow L m r) {p : Pl} (hp : p ∈ r) : fnd (ly L p.1) m = some (nat' L p) := by
 obtain ⟨h1, h2⟩ := (h.mem p).1 hp
 rw [← h2]
 exact fnd_mem (hd _ (ly_mem h1.1)) (nat_mem h1)
theorem IsRow.has (h : IsRow L m r) {i : Nat} (hi : i < L.length) : (Mrg.fnd (ly L i) m).isSome = true ↔ i ∈ r.map (·.1) := by
 rw [List.mem_map]
 constructor
 ·intro hs
  obtain ⟨n, hn⟩ := Option.isSome_iff_exists.1 hs
  obtain ⟨h1, h2⟩ := fnd_some hn
  obtain ⟨k, k1, k2⟩ := nat_of hi h1
  exact ⟨(i, k), (h.mem _).2 ⟨k1, by rw [k2]; exact h2⟩, rfl⟩
 ·rintro ⟨p, hp, rfl⟩
  obtain ⟨h1, h2⟩ := (h.mem p).1 hp
  cases e : Mrg.fnd (ly L p.1) m with
  | none => exact absurd h2 (fnd_none.1 e _ (nat_mem h1))
  | some _ => rfl
theorem rise_one : ∀ (l k : List Nat), l.Pairwise (· < ·) → k.Pairwise (· < ·) → (∀ x, x ∈ l ↔ x ∈ k) → l = k
 | [], [], _, _, _ => rfl
 | [], y :: k, _, _, h => by have := (h y).2 (by simp); simp at this
 | x :: l, [], _, _, h => by have := (h x).1 (by simp); simp at this
 | x :: l, y :: k, h1, h2, h => by
  rw [List.pairwise_cons] at h1 h2
  have e : x = y := by
   rcases List.mem_cons.1 ((h x).1 (by simp)) with e | e
   ·exact e
   ·rcases List.mem_cons.1 ((h y).2 (by simp)) with f | f
    ·exact f.symm
    ·have a1 := h1.1 y f
     have a2 := h2.1 x e
     omega
  subst e
  congr 1
  refine rise_one l k h1.2 h2.2 fun z => ⟨fun hz => ?_, fun hz => ?_⟩
  ·rcases List.mem_cons.1 ((h z).1 (by simp [hz])) with e | e
   ·rw [e] at hz; exact absurd (h1.1 x hz) (Nat.lt_irrefl _)
   ·exact e
  ·rcases List.mem_cons.1 ((h z).2 (by simp [hz])) with e | e
   ·rw [e] at hz; exact absurd (h2.1 x hz) (Nat.lt_irrefl _)
   ·exact e
def ofL (r : List Pl) (ds : List Nat) : List Pl := r.filter (fun p => decide (p.1 ∈ ds))
theorem IsRow.kept (h : IsRow L m r) {ds : List Nat} (hr : ds.Pairwise (· < ·)) (hl : ∀ i ∈ ds, i < L.length) : (ofL r ds).map (·.1) = ds.filter (fun i => (Mrg.fnd (ly L i) m).isSome) := by
 refine rise_one _ _ ?_ (hr.filter _) fun x => ?_
 ·rw [List.pairwise_map]; exact h.rise.filter _
 ·rw [List.mem_filter, List.mem_map]
  constructor
  ·rintro ⟨p, hp, rfl⟩
   obtain ⟨h1, h2⟩ := List.mem_filter.1 hp
   have h3 : p.1 ∈ ds := by simpa using h2
   exact ⟨h3, (h.has (hl _ h3)).2 (List.mem_map_of_mem h1)⟩
  ·rintro ⟨h1, h2⟩
   obtain ⟨p, hp, rfl⟩ := List.mem_map.1 ((h.has (hl _ h1)).1 h2)
   exact ⟨p, List.mem_filter.2 ⟨hp, by simpa using h1⟩, rfl⟩
theorem mad_gos (hd : ∀ t ∈ L, (t.map Nod.names).Nodup) (h : IsRow L m r) {ds : List Nat} (hr : ds.Pairwise (· < ·)) (hl : ∀ i ∈ ds, i < L.length) : (mad L (ofL r ds)).map (·.1) = gos L m [] ds := by
 rw [gos_skip, ← h.kept hr hl, gos_cut (ofL r ds) [] (fun p hp => h.fnd hd (List.mem_filter.1 hp).1)]
 rfl
theorem mad_all (hd : ∀ t ∈ L, (t.map Nod.names).Nodup) (h : IsRow L m r) : (mad L r).map (·.1) = gos L m [] (List.range L.length) := by
 have e : ofL r (List.range L.length) = r := by
  unfold ofL
  rw [List.filter_eq_self]
  intro p hp
  simpa using ((h.mem p).1 hp).1.1
 rw [← mad_gos hd h List.pairwise_lt_range (fun i hi => List.mem_range.1 hi), e]
end
theorem srcK_take {L : List (List Nod)} {m : List ByteArray} (j : Nat) : ∀ k, k ≤ j → srcK L (m.take j) k = srcK L m k
 | 0, _ => rfl
 | k + 1, h => by
  have ih := srcK_take (L := L) (m := m) j k (by omega)
  cases e : srcK L m k with
  | nil => rw [srcK_nil e, srcK_nil (ih.trans e)]
  | cons i r => rw [srcK_cons e, srcK_cons (ih.trans e), List.take_take, List.take_take, Nat.min_eq_left (by omega), Nat.min_eq_left h]
def dirOf (L : List (List Nod)) (m : List ByteArray) : List Nat := if (srcs L m).head?.bind (fun i => (fnd (ly L i) m).map Nod.kind) = some 1 then srcs L m else []
theorem srcs_root (L : List (List Nod)) : srcs L [] = gos L [] [] (List.range L.length) := rfl
theorem srcs_step {L : List (List Nod)} {m : List ByteArray} (hm : m ≠ []) : srcs L m = gos L m [] (dirOf L m.dropLast) := by
 have hl : 0 < m.length := List.length_pos_iff.2 hm
 have e1 : srcs L m.dropLast = srcK L m (m.length - 1) := by
  unfold srcs
  rw [List.length_dropLast, List.dropLast_eq_take, srcK_take _ _ (Nat.le_refl _)]
 have e2 : m.take (m.length - 1) = m.dropLast := (List.dropLast_eq_take).symm
 have e3 : srcs L m = srcK L m (m.length - 1 + 1) := by unfold srcs; congr 1; omega
 unfold dirOf
 rw [e1, e3]
 cases e : srcK L m (m.length - 1) with
 | nil => rw [srcK_nil e]; simp [gos]
 | cons i r =>
  rw [srcK_cons e, e2, show m.length - 1 + 1 = m.length by omega, List.take_length]
  by_cases c : (i :: r).head?.bind (fun i => (fnd (ly L i) m.dropLast).map Nod.kind) = some 1
  ·rw [if_pos c, if_pos (show Option.map Nod.kind (fnd (ly L i) m.dropLast) = some 1 from c)]
  ·rw [if_neg c, if_neg (show ¬ Option.map Nod.kind (fnd (ly L i) m.dropLast) = some 1 from c)]; rfl
theorem srcs_rise (L : List (List Nod)) (m : List ByteArray) : (srcs L m).Pairwise (· < ·) := srcK_rises _
theorem dirOf_rise (L : List (List Nod)) (m : List ByteArray) : (dirOf L m).Pairwise (· < ·) := by
 unfold dirOf
 split
 ·exact srcs_rise L m
 ·exact List.Pairwise.nil
theorem srcs_lt {L : List (List Nod)} (hB : ∀ t ∈ L, Br t) {m : List ByteArray} : ∀ i ∈ srcs L m, i < L.length := fun i hi => ((mem_srcK hB m.length (Nat.le_refl _) i).1 hi).1
theorem dirOf_lt {L : List (List Nod)} (hB : ∀ t ∈ L, Br t) {m : List ByteArray} : ∀ i ∈ dirOf L m, i < L.length := fun i hi => by
 unfold dirOf at hi
 split at hi
 ·exact srcs_lt hB i hi
 ·simp at hi
def ofs (L : List (List Nod)) (m : List ByteArray) (r : List Pl) : List Pl := if m = [] then mad L r else mad L (ofL r (dirOf L m.dropLast))
theorem ofs_srcs {L : List (List Nod)} (hB : ∀ t ∈ L, Br t) {m : List ByteArray} {r : List Pl} (h : IsRow L m r) : (ofs L m r).map (·.1) = srcs L m := by
 have hd : ∀ t ∈ L, (t.map Nod.names).Nodup := fun t ht => (hB t ht).nodup
 unfold ofs
 split
 ·rename_i e
  subst e
  rw [mad_all hd h, srcs_root]
 ·rename_i e
  rw [mad_gos hd h (dirOf_rise L _) (dirOf_lt hB), ← srcs_step e]
theorem ofs_sub {L : List (List Nod)} {m : List ByteArray} {r : List Pl} : ∀ p ∈ ofs L m r, p ∈ r := fun p hp => by
 unfold ofs at hp
 split at hp
 ·exact List.mem_of_mem_take hp
 ·exact (List.mem_filter.1 (List.mem_of_mem_take hp)).1
def isD (L : List (List Nod)) (q : List Pl) : Bool := (q.head?.map (fun p => decide ((nat' L p).kind = 1))).getD false
theorem ofs_dir {L : List (List Nod)} (hB : ∀ t ∈ L, Br t) {m : List ByteArray} {r : List Pl} (h : IsRow L m r) : dirOf L m = if isD L (ofs L m r) = true then (ofs L m r).map (·.1) else [] := by
 have hd : ∀ t ∈ L, (t.map Nod.names).Nodup := fun t ht => (hB t ht).nodup
 unfold dirOf
 rw [← ofs_srcs hB h]
 cases e : ofs L m r with
 | nil => simp [isD]
 | cons p q =>
  have hf := h.fnd hd (ofs_sub p (by rw [e]; simp))
  simp only [List.map_cons, List.head?_cons, Option.bind_some, hf, Option.map_some, isD, Option.getD_some]
  by_cases k : (nat' L p).kind = 1
  ·simp [k]
  ·simp [k]
def toldOf (L : List (List Nod)) (m : List ByteArray) (r : List Pl) : Option (Nat × Nod) := (ofs L m r).head?.map (fun p => (p.1, nat' L p))
theorem told_iff {L : List (List Nod)} (hB : ∀ t ∈ L, Br t) {m : List ByteArray} {r : List Pl} (h : IsRow L m r) (x : Nat × Nod) : toldOf L m r = some x ↔ x ∈ mrs L ∧ x.2.names = m := by
 have hd : ∀ t ∈ L, (t.map Nod.names).Nodup := fun t ht => (hB t ht).nodup
 have ht := top_iff hB (m := m) (i := x.1)
 rw [← ofs_srcs hB h] at ht
 unfold toldOf
 constructor
 ·intro e
  cases e1 : ofs L m r with
  | nil => rw [e1] at e; cases e
  | cons p q =>
   rw [e1] at e ht
   have e2 : (p.1, nat' L p) = x := by simpa using e
   obtain ⟨h1, h2⟩ := (h.mem p).1 (ofs_sub p (by rw [e1]; simp))
   obtain ⟨n, n1, n2⟩ := ht.1 (by rw [← e2]; rfl)
   have hx : x.1 = p.1 := by rw [← e2]
   have hn : nat' L p = n := by
    obtain ⟨⟨t, t1, t2⟩, _⟩ := mem_iff.1 n1
    rw [hx, ly_lt h1.1] at t1
    have := Option.some.inj t1
    subst this
    exact names_inj (hd _ (ly_mem h1.1)) _ (nat_mem h1) n t2 (h2.trans n2.symm)
   have : (x.1, n) = x := by rw [hx, ← hn]; exact e2
   rw [this] at n1
   exact ⟨n1, by rw [← e2]; exact h2⟩
 ·rintro ⟨h1, h2⟩
  have hh := ht.2 ⟨x.2, h1, h2⟩
  cases e1 : ofs L m r with
  | nil => rw [e1] at hh; cases hh
  | cons p q =>
   rw [e1] at hh
   have hp : p.1 = x.1 := by simpa using hh
   obtain ⟨o1, o2⟩ := (h.mem p).1 (ofs_sub p (by rw [e1]; simp))
   obtain ⟨⟨t, t1, t2⟩, _⟩ := mem_iff.1 h1
   rw [← hp, ly_lt o1.1] at t1
   have := Option.some.inj t1
   subst this
   have e : nat' L p = x.2 := names_inj (hd _ (ly_mem o1.1)) _ (nat_mem o1) _ t2 (o2.trans h2.symm)
   show some (p.1, nat' L p) = some x
   rw [e, hp]
end Mrg
end Go.Proofs.Ytflohhefbbidcaa
namespace Go.Proofs.Ytflohhefbbidcaa
open Go.RowKit Go.Maps
open Nam Tre Mrg Brn
theorem rep_clear {w : World} {v : Nv} {n : Nod} (h : Rep w v n) : Rep w { v with op := false } { n with opq := false } := { h with op := rfl }
set_option maxRecDepth 100000 in
set_option maxHeartbeats 1000000 in
theorem refMay18_any (v : Nv) (n : Nod) (w : World) (h : Rep w v n) :
  Calls Try.prog 40 #[.agg v.cells] w fun e w' => e = .returned (.bool (mayB n)) ∧ Below w.heap.size w w' := by
 have HB := hide (fun cs => below_one w (.cells cs 44))
 by_cases h4 : v.kind = 4
 ·have hk : (v.kind == 4) = true := by simpa using h4
  obtain ⟨b1, g1⟩ : ∃ q, decide (v.mode = 0 ∧ v.uid = 0 ∧ v.gid = 0) = q := ⟨_, rfl⟩
  obtain ⟨b2, g2⟩ : ∃ q, ((v.dn : Int) == 0) = q := ⟨_, rfl⟩
  obtain ⟨b3, g3⟩ : ∃ q, (v.tg.toList == []) = q := ⟨_, rfl⟩
  obtain ⟨b4, g4⟩ : ∃ q, ((v.xn : Int) == 0) = q := ⟨_, rfl⟩
  obtain ⟨b5, g5⟩ : ∃ q, v.op = q := ⟨_, rfl⟩
  have HE : Hid (mayB n = (b1 && b2 && b3 && b4 && !b5)) := by
   show _ = _
   unfold mayB
   rw [if_pos (h.kind.trans h4), Bool.eq_iff_iff, decide_eq_true_eq, ← g1, ← g2, ← g3, ← g4, ← g5, h.mode, h.uid, h.gid, h.tg, h.op, h.data.1, h.xs.1]
   simp only [Bool.and_eq_true, decide_eq_true_eq, beq_iff_eq, Bool.not_eq_true', and_assoc]
   constructor
   ·rintro ⟨q1, q2, q3, q4, q5, q6, q7⟩
    exact ⟨q1, q2, q3, by omega, q5, by omega, q7⟩
   ·rintro ⟨q1, q2, q3, q4, q5, q6, q7⟩
    exact ⟨q1, q2, q3, by omega, q5, by omega, q7⟩
  have hA : ∀ W : World, (binOp .eql 40 (.agg #[.int .i64 v.mode, .int .i64 v.uid, .int .i64 v.gid]) (.agg #[.int .i64 0, .int .i64 0, .int .i64 0])).run Try.prog W = .ok (.bool b1) W := fun W => by rw [attrEq, g1]
  have x1 := h.xc
  have x2 := h.xcm
  have x3 := h.dc
  have x4 := h.dcm
  clear h h4 g1
  unfold Nv.cells at *
  go_enter Try.func40, Try.ntmps40
  cases b1
  ·go_wp2
   go_ret
   exact ⟨ret_bool (by rw [HE.out]; rfl), HB.out _⟩
  cases b2
  ·go_wp2
   go_ret
   exact ⟨ret_bool (by rw [HE.out]; rfl), HB.out _⟩
  cases b3
  ·go_wp2
   go_ret
   exact ⟨ret_bool (by rw [HE.out]; rfl), HB.out _⟩
  cases b4
  ·go_wp2
   go_ret
   exact ⟨ret_bool (by rw [HE.out]; rfl), HB.out _⟩
  cases b5
  all_goals
   go_wp2
   go_ret
   exact ⟨ret_bool (by rw [HE.out]; rfl), HB.out _⟩
 ·have hk : (v.kind == 4) = false := by simpa using h4
  have HX : Hid (∀ W, Below (w.alloc (.cells v.cells 44)).heap.size (w.alloc (.cells v.cells 44)) W → W.cell? ⟨w.heap.size, 0, none⟩ = some (.slice v.na v.nn v.nc)) := fun W hb => (nbox ((hb.block _ (by simp)).trans (heap_new rfl))).1
  by_cases h1 : v.kind = 1
  ·have hk1 : (v.kind == 1) = true := by simpa using h1
   have HB1 := hide (HB.out { v with op := false }.cells)
   have HM := hide (refMay_any { v with op := false } { n with opq := false } _ (rep_clear (h.below HB1.out)))
   have HE : Hid (mayB n = may { n with opq := false }) := by
    show _ = _
    unfold mayB
    rw [if_neg (by rw [h.kind]; exact h4), if_pos (h.kind.trans h1)]
   clear h h4 h1 HX
   simp only [Nv.cells] at HM
   unfold Nv.cells at *
   go_enter Try.func40, Try.ntmps40
   go_wp2_with (go_at_call 57; refine HM.out.mono ?_; rintro e w2 ⟨rfl, hb2⟩; have E2 : Hid (Below w.heap.size w w2) := HB1.out.trans (hb2.mono HB1.out.size); clear hb2)
   go_ret
   exact ⟨ret_bool HE.out.symm, E2.out⟩
  ·have hk1 : (v.kind == 1) = false := by simpa using h1
   have HB1 := hide (HB.out v.cells)
   have HM := hide (refMay_any v n _ (h.below HB1.out))
   have HE : Hid (mayB n = may n) := by
    show _ = _
    unfold mayB
    rw [if_neg (by rw [h.kind]; exact h4), if_neg (by rw [h.kind]; exact h1)]
   clear h h4 h1 HX
   simp only [Nv.cells] at HM
   unfold Nv.cells at *
   go_enter Try.func40, Try.ntmps40
   go_wp2_with (go_at_call 57; refine HM.out.mono ?_; rintro e w2 ⟨rfl, hb2⟩; have E2 : Hid (Below w.heap.size w w2) := (HB1.out).trans (hb2.mono HB1.out.size); clear hb2)
   go_ret
   exact ⟨ret_bool HE.out.symm, E2.out⟩
end Go.Proofs.Ytflohhefbbidcaa
namespace Go.Proofs.Ytflohhefbbidcaa
open Go.RowKit Go.Maps
open Nam Tre Mrg Brn
namespace Brn
theorem checkB_plc (l : List Nod) : checkB l = if plc l ≠ 0 then plc l else if l.all mayB = false then 7 else if ¬ l.Pairwise oneB then 8 else 0 := by
 by_cases h1 : 1024 < l.length
 ·rw [checkB, if_pos h1, plc, if_pos h1]; rfl
 ·by_cases h2 : wrong l = 0
  ·cases h3 : l.any deep with
   | true => simp [checkB, plc, nam, h1, h2, h3]
   | false =>
    by_cases h4 : (l.map Nod.names).Nodup
    ·have hn : nam l = 0 := by simp [nam, h2, h3, h4]
     cases h5 : isDir l [] with
     | false => simp [checkB, plc, hn, h1, h2, h3, h4, h5]
     | true =>
      cases h6 : l.all (inDir l) with
      | false =>
       have hp : plc l = 5 := by rw [plc, if_neg h1, if_neg (by rw [hn]; simp), if_neg (by rw [h5]; simp), if_pos h6]
       rw [hp, checkB, if_neg h1, if_neg (by rw [h2]; simp), if_neg (by rw [h3]; simp), if_neg (by simpa using h4), if_neg (by rw [h5]; simp), if_pos h6]; rfl
      | true =>
       have hp : plc l = 0 := by rw [plc, if_neg h1, if_neg (by rw [hn]; simp), if_neg (by rw [h5]; simp), if_neg (by rw [h6]; simp)]
       rw [hp, if_neg (by simp), checkB, if_neg h1, if_neg (by rw [h2]; simp), if_neg (by rw [h3]; simp), if_neg (by simpa using h4), if_neg (by rw [h5]; simp), if_neg (by rw [h6]; simp)]
    ·have hn : nam l = 6 := by simp [nam, h2, h3, h4]
     simp [checkB, plc, hn, h1, h2, h3, h4]
  ·have hn : nam l = wrong l := by simp [nam, h2]
   simp [checkB, plc, hn, h1, h2]
theorem pairB_snoc (l : List Nod) (n : Nod) : (l ++ [n]).Pairwise oneB ↔ l.Pairwise oneB ∧ ∀ m ∈ l, oneB m n := by
 rw [List.pairwise_append]
 constructor
 ·rintro ⟨h1, _, h3⟩; exact ⟨h1, fun m hm => h3 m hm n (by simp)⟩
 ·rintro ⟨h1, h2⟩; exact ⟨h1, by simp, fun a ha b hb => by rw [List.mem_singleton] at hb; subst hb; exact h2 a ha⟩
theorem pairB_not {l r : List Nod} {n m : Nod} (hm : m ∈ l) (e : m.ino = n.ino) (hk : n.kind = 1 ∨ n.kind = 4 ∨ alike m n = false) : ¬ (l ++ n :: r).Pairwise oneB := by
 intro h
 rw [List.pairwise_append] at h
 have := h.2.2 m hm n (by simp) e
 rcases hk with hk | hk | hk
 ·exact this.1.1 hk
 ·exact this.1.2 hk
 ·rw [hk] at this; exact absurd this.2 (by simp)
end Brn
set_option maxRecDepth 100000 in
set_option maxHeartbeats 1000000 in
theorem refCheck18_any (a : Option Addr) (n c : Nat) (L : List (Nv × Nod)) (w : World) (hl : Ns w a n L) (hc : n ≤ c) (hcm : c ≤ 9223372036854775807) (h20 : ∀ p ∈ L, p.2.names.length ≤ 1000000) :
  Calls Try.prog 19 #[.slice a n c] w fun e w' => e = .returned (.int .i64 (checkB (nds L))) ∧ Below w.heap.size w w' := by
 have HL := hide hl
 have HLN := hide hl.1
 have HPl := hide (Placed_any a n c L w hl hc hcm h20)
 have HCK := hide (checkB_plc (nds L))
 obtain ⟨z, hz⟩ : ∃ z, plc (nds L) = z := ⟨_, rfl⟩
 rw [hz] at HPl HCK
 clear hl h20 hz
 by_cases hz0 : z = 0
 ·have hz1 : (z != 0) = false := by simp [hz0]
  have HP : Hid (checkB (nds L) = if (nds L).all mayB = false then 7 else if ¬ (nds L).Pairwise oneB then 8 else 0) := by
   show _ = _
   rw [HCK.out, if_neg (by simpa using hz0)]
  clear hz0
  go_enter Try.func19, Try.ntmps19
  go_wp2_with (go_at_call 39; refine HPl.out.mono ?_; rintro e w1 ⟨rfl, q1, rfl⟩)
  go_loopw [4, 5] (fun r _ wr => ∃ i : Nat, r = .int .i64 i ∧ i ≤ n ∧ Below w.heap.size w wr ∧ (nds L).all mayB = ((nds L).drop i).all mayB) (fun r _ _ => n - (intOf r).toNat)
  case atStart => exact ⟨0, rfl, Nat.zero_le _, drewN_below _ _, rfl⟩
  case round =>
   obtain ⟨i, rfl, hi0, hbel, hinv⟩ := hrel
   have HI := hide hinv
   have HB := hide hbel
   by_cases hi : i < n
   ·have hd : decide ((i : Int) < n) = true := by simpa using hi
    obtain ⟨ba, oa, rfl, hba, hca⟩ := (HL.out.below hbel).at (by omega)
    obtain ⟨c0, c1, c2, c3, c4, c5, c6, c7, c8, c9⟩ := hca i hi
    have HE := hide (nds_drop L i (by rw [HLN.out]; exact hi))
    have hi' : (i : Int) < n := by omega
    have HC := hide (refMay18_any (gl L i).1 (gl L i).2 wr ((HL.out.below hbel).rep i hi))
    obtain ⟨z2, hz2⟩ : ∃ z, mayB (gl L i).2 = z := ⟨_, rfl⟩
    have HZ2 := hide hz2
    rw [hz2] at HC
    clear hca hinv hbel hz2
    cases z2 with
    | false =>
     have HQ : Hid (checkB (nds L) = 7) := by
      show _ = _
      rw [HP.out, HI.out, HE.out, List.all_cons, HZ2.out]; rfl
     go_wp2_with (go_at_call 40; refine HC.out.mono ?_; rintro e w2 ⟨rfl, hb2⟩)
     go_ret
     exact ⟨ret_int HQ.out.symm, HB.out.trans (hb2.mono HB.out.size)⟩
    | true =>
     have HQ : Hid ((nds L).all mayB = ((nds L).drop (i + 1)).all mayB) := by
      show _ = _
      rw [HI.out, HE.out, List.all_cons, HZ2.out]; rfl
     go_wp2_with (go_at_call 40; refine HC.out.mono ?_; rintro e w2 ⟨rfl, hb2⟩)
     exact ⟨⟨i + 1, by go_num, by omega, HB.out.trans (hb2.mono HB.out.size), HQ.out⟩, by simp [intOf]; omega⟩
   ·have hd : decide ((i : Int) < n) = false := by simpa using hi
    have HM : Hid (checkB (nds L) = if ¬ (nds L).Pairwise oneB then 8 else 0) := by
     show _ = _
     rw [HP.out, HI.out, List.drop_eq_nil_of_le (by rw [nds_length, HLN.out]; omega)]; rfl
    clear hinv hbel
    go_wp2
    go_loopw [6, 7] (fun r _ wr => ∃ i : Nat, r = .int .i64 i ∧ i ≤ n ∧ Below w.heap.size w wr ∧ ((nds L).take i).Pairwise oneB) (fun r _ _ => n - (intOf r).toNat)
    case atStart => exact ⟨0, rfl, Nat.zero_le _, HB.out, by simp⟩
    case round =>
     obtain ⟨i, rfl, hi0, hbel, hinv⟩ := hrel
     have HI := hide hinv
     have HB := hide hbel
     by_cases hi : i < n
     ·have hd : decide ((i : Int) < n) = true := by simpa using hi
      have HNT := hide (nds_take L i (by rw [HLN.out]; exact hi))
      have HDG := hide (drop_get L i (by rw [HLN.out]; exact hi))
      have hi' : (i : Int) < n := by omega
      clear hinv hbel
      go_wp2
      go_loopw [7] (fun r ws => ∃ k : Nat, r = .int .i64 k ∧ k ≤ i ∧ Below w.heap.size w ws ∧ ∀ t, t < k → oneB (gl L t).2 (gl L i).2) (fun r _ => i - (intOf r).toNat)
      case atStart => exact ⟨0, rfl, Nat.zero_le _, HB.out, fun t ht => by omega⟩
      case round =>
       obtain ⟨k, rfl, hk0, hbel2, hinv2⟩ := hrel
       have HI2 := hide hinv2
       have HB2 := hide hbel2
       by_cases hk : k < i
       ·have hd2 : decide ((k : Int) < i) = true := by simpa using hk
        obtain ⟨ba, oa, rfl, hba, hca⟩ := (HL.out.below hbel2).at (by omega)
        obtain ⟨c0, c1, c2, c3, c4, c5, c6, c7, c8, c9⟩ := hca i hi
        obtain ⟨d0, d1, d2, d3, d4, d5, d6, d7, d8, d9⟩ := hca k (by omega)
        have hri := (HL.out.below hbel2).rep i hi
        have hrk := (HL.out.below hbel2).rep k (by omega)
        have hk' : (k : Int) < n := by omega
        have HMK := hide (mem_take L i k (by rw [HLN.out]; omega) hk)
        have HRI := hide hri
        have HRK := hide hrk
        by_cases hino : (gl L i).1.ino = (gl L k).1.ino
        ·have g1 : ((gl L i).1.ino == (gl L k).1.ino) = true := by simpa using hino
         have HIN : Hid ((gl L k).2.ino = (gl L i).2.ino) := by show _ = _; rw [hri.ino, hrk.ino, hino]
         by_cases hkd : (gl L i).1.kind = 1
         ·have g2 : ((gl L i).1.kind == 1) = true := by simpa using hkd
          have HQ : Hid (checkB (nds L) = 8) := by
           show _ = _
           rw [HM.out, if_pos]
           rw [HDG.out]
           exact pairB_not HMK.out HIN.out (.inl (hri.kind.trans hkd))
          clear hca hri hrk hino hkd hinv2 hbel2 HPl
          go_wp2
          go_quiet (fail)
          go_wp2
          go_ret
          exact ⟨ret_int HQ.out.symm, HB2.out.trans (drewN_below _ _)⟩
         ·by_cases hk4 : (gl L i).1.kind = 4
          ·have g2 : ((gl L i).1.kind == 1) = false := by simpa using hkd
           have g3 : ((gl L i).1.kind == 4) = true := by simpa using hk4
           have HQ : Hid (checkB (nds L) = 8) := by
            show _ = _
            rw [HM.out, if_pos]
            rw [HDG.out]
            exact pairB_not HMK.out HIN.out (.inr (.inl (hri.kind.trans hk4)))
           clear hca hri hrk hino hkd hk4 hinv2 hbel2 HPl
           go_wp2
           go_quiet (fail)
           go_wp2
           go_ret
           exact ⟨ret_int HQ.out.symm, HB2.out.trans (drewN_below _ _)⟩
          have g2 : ((gl L i).1.kind == 1) = false := by simpa using hkd
          have g3 : ((gl L i).1.kind == 4) = false := by simpa using hk4
          have HKD : Hid ((gl L i).2.kind ≠ 1 ∧ (gl L i).2.kind ≠ 4) := by show _ ∧ _; rw [hri.kind]; exact ⟨hkd, hk4⟩
          obtain ⟨z3, hz3⟩ : ∃ z, alike (gl L i).2 (gl L k).2 = z := ⟨_, rfl⟩
          have HZ3 : Hid (alike (gl L k).2 (gl L i).2 = z3) := by show _ = _; rw [alike_comm]; exact hz3
          have HK2 : Hid (Calls Try.prog 32 #[.agg (gl L i).1.cells, .agg (gl L k).1.cells] wr.drew fun e w' => e = .returned (.bool z3) ∧ Below wr.heap.size wr w') := by
           have := refAlike_any (gl L i).1 (gl L k).1 (gl L i).2 (gl L k).2 wr.drew (hri.below (drewN_below wr 1)) (hrk.below (drewN_below wr 1))
           rw [hz3] at this
           exact this.mono fun e w' ⟨he, hb⟩ => ⟨he, ⟨hb.os, hb.tape, hb.output, hb.size, hb.block⟩⟩
          simp only [Nv.cells] at HK2
          have HNI := hide (hca i hi)
          have HNK := hide (hca k (by omega))
          have HS := hide (two_nods (hca i hi) (hca k (by omega)))
          clear hca hri hrk hino hkd hk4 hinv2 hbel2 hz3 HPl
          go_wp2
          clear c0 c1 c2 c3 c4 c5 c6 c7 c8 c9 d0 d1 d2 d3 d4 d5 d6 d7 d8 d9
          go_region_held3 (fun wX => wX.cell? ⟨ba, oa + i * 10, none⟩ = some (.slice (gl L i).1.na (gl L i).1.nn (gl L i).1.nc) ∧ wX.cell? ⟨ba, oa + i * 10 + 1, none⟩ = some (.int .i64 (gl L i).1.ino) ∧ wX.cell? ⟨ba, oa + i * 10 + 2, none⟩ = some (.int .i64 (gl L i).1.kind) ∧ wX.cell? ⟨ba, oa + i * 10 + 3, none⟩ = some (.int .i64 (gl L i).1.mode) ∧ wX.cell? ⟨ba, oa + i * 10 + 4, none⟩ = some (.int .i64 (gl L i).1.uid) ∧ wX.cell? ⟨ba, oa + i * 10 + 5, none⟩ = some (.int .i64 (gl L i).1.gid) ∧ wX.cell? ⟨ba, oa + i * 10 + 6, none⟩ = some (.slice (gl L i).1.da (gl L i).1.dn (gl L i).1.dc) ∧ wX.cell? ⟨ba, oa + i * 10 + 7, none⟩ = some (.string (gl L i).1.tg) ∧ wX.cell? ⟨ba, oa + i * 10 + 8, none⟩ = some (.slice (gl L i).1.xa (gl L i).1.xn (gl L i).1.xc) ∧ wX.cell? ⟨ba, oa + i * 10 + 9, none⟩ = some (.bool (gl L i).1.op) ∧ wX.cell? ⟨ba, oa + k * 10, none⟩ = some (.slice (gl L k).1.na (gl L k).1.nn (gl L k).1.nc) ∧ wX.cell? ⟨ba, oa + k * 10 + 1, none⟩ = some (.int .i64 (gl L k).1.ino) ∧ wX.cell? ⟨ba, oa + k * 10 + 2, none⟩ = some (.int .i64 (gl L k).1.kind) ∧ wX.cell? ⟨ba, oa + k * 10 + 3, none⟩ = some (.int .i64 (gl L k).1.mode) ∧ wX.cell? ⟨ba, oa + k * 10 + 4, none⟩ = some (.int .i64 (gl L k).1.uid) ∧ wX.cell? ⟨ba, oa + k * 10 + 5, none⟩ = some (.int .i64 (gl L k).1.gid) ∧ wX.cell? ⟨ba, oa + k * 10 + 6, none⟩ = some (.slice (gl L k).1.da (gl L k).1.dn (gl L k).1.dc) ∧ wX.cell? ⟨ba, oa + k * 10 + 7, none⟩ = some (.string (gl L k).1.tg) ∧ wX.cell? ⟨ba, oa + k * 10 + 8, none⟩ = some (.slice (gl L k).1.xa (gl L k).1.xn (gl L k).1.xc) ∧ wX.cell? ⟨ba, oa + k * 10 + 9, none⟩ = some (.bool (gl L k).1.op)) (first | exact HS5.out | exact HS.out)
           ((first
            | (go_at_call 32; refine HK2.out.mono ?_; rintro r w5 ⟨rfl, hb5⟩; have HB5 := hide hb5; have HS5 := hide (two_nods (HNI.out.below hb5 hba) (HNK.out.below hb5 hba)); clear hb5)))
          all_goals (
           have e5 := hide (HB2.out.trans (HB5.out.mono HB2.out.size))
           clear HK2
           cases z3 with
           | false =>
            have HQ : Hid (checkB (nds L) = 8) := by
             show _ = _
             rw [HM.out, if_pos]
             rw [HDG.out]
             exact pairB_not HMK.out HIN.out (.inr (.inr HZ3.out))
            go_wp2
            go_ret
            exact ⟨ret_int HQ.out.symm, e5.out⟩
           | true =>
            go_wp2
            refine ⟨⟨k + 1, by go_num, by omega, e5.out, fun t ht => ?_⟩, by simp [intOf]; omega⟩
            by_cases e : t = k
            ·subst e; exact fun _ => ⟨HKD.out, HZ3.out⟩
            ·exact HI2.out t (by omega))
        ·have g1 : ((gl L i).1.ino == (gl L k).1.ino) = false := by simpa using hino
         have HIN : Hid (¬ (gl L k).2.ino = (gl L i).2.ino) := by show ¬ _; rw [hri.ino, hrk.ino]; exact fun e => hino e.symm
         clear hca hri hrk hino hinv2 hbel2 HPl
         go_wp2
         go_quiet (fail)
         go_wp2
         refine ⟨⟨k + 1, by go_num, by omega, HB2.out.trans (drewN_below _ _), fun t ht => ?_⟩, by simp [intOf]; omega⟩
         by_cases e : t = k
         ·subst e; exact fun h => absurd h HIN.out
         ·exact HI2.out t (by omega)
       ·have hd2 : decide ((k : Int) < i) = false := by simpa using hk
        have HQ : Hid (((nds L).take (i + 1)).Pairwise oneB) := by
         show List.Pairwise _ _
         rw [HNT.out, pairB_snoc]
         refine ⟨HI.out, fun m hm => ?_⟩
         rw [List.mem_take_iff_getElem] at hm
         obtain ⟨t, ht, rfl⟩ := hm
         have e : (nds L)[t] = (gl L t).2 := by rw [gl_lt L t (by rw [nds_length] at ht; omega)]; simp [nds]
         rw [e]
         exact HI2.out t (by omega)
        clear hinv2 hbel2
        go_wp2
        exact ⟨⟨i + 1, by go_num, by omega, HB2.out, HQ.out⟩, by simp [intOf]; omega⟩
     ·have hd : decide ((i : Int) < n) = false := by simpa using hi
      have HQ : Hid (checkB (nds L) = 0) := by
       show _ = _
       rw [List.take_of_length_le (by rw [nds_length, HLN.out]; omega)] at hinv
       rw [HM.out, if_neg (by simpa using hinv)]
      clear hinv hbel
      go_wp2
      go_ret
      exact ⟨ret_int HQ.out.symm, HB.out⟩
 ·have hz1 : (z != 0) = true := by simpa using hz0
  have HQ : Hid (checkB (nds L) = z) := by show _ = _; rw [HCK.out, if_pos hz0]
  clear hz0
  go_enter Try.func19, Try.ntmps19
  go_wp2_with (go_at_call 39; refine HPl.out.mono ?_; rintro e w1 ⟨rfl, q1, rfl⟩)
  go_ret
  exact ⟨ret_int HQ.out.symm, drewN_below _ _⟩
end Go.Proofs.Ytflohhefbbidcaa
namespace Go.Proofs.Ytflohhefbbidcaa
open Go.RowKit Go.Maps
open Nam Tre
end Go.Proofs.Ytflohhefbbidcaa

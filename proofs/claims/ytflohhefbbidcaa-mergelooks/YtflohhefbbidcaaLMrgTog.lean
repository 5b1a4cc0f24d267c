import Derived.Test.YtflohhefbbidcaaLJTreCheck
import Derived.Test.YtflohhefbbidcaaLJMrgStab4
set_option linter.unusedVariables false
namespace Go.Proofs.Ytflohhefbbidcaa
open Nam Tre Stb Plc
namespace Mrg
def kcN (f : Nat → List ByteArray) (x y : Nat) : Int := cmp (nm (f x)) (nm (f y))
def ltN (f : Nat → List ByteArray) (x y : Nat) : Prop := less (nm (f x)) (nm (f y)) = true ∨ (f x = f y ∧ x < y)
theorem kcN_neg (f : Nat → List ByteArray) (x y : Nat) : kcN f x y < 0 ↔ less (nm (f x)) (nm (f y)) = true := by
 have := cmp_less (nm (f x)) (nm (f y))
 unfold kcN
 rw [← this]; simp
theorem cmp_self : ∀ a : List (List UInt8), cmp a a = 0
 | [] => rfl
 | a :: r => by rw [cmp, if_pos ((cmp1_zero a a).2 rfl)]; exact cmp_self r
theorem cmp_zero : ∀ a b : List (List UInt8), cmp a b = 0 → a = b
 | [], [], _ => rfl
 | [], _ :: _, h => by simp [cmp] at h
 | _ :: _, [], h => by simp [cmp] at h
 | a :: x, b :: y, h => by
  rw [cmp] at h
  split at h
  ·rename_i e
   rw [(cmp1_zero a b).1 e, cmp_zero x y h]
  ·rename_i e; exact absurd h e
theorem kcN_zero (f : Nat → List ByteArray) (x y : Nat) : kcN f x y = 0 ↔ f x = f y := by
 constructor
 ·intro h; exact nm_inj (cmp_zero _ _ h)
 ·intro h; unfold kcN; rw [h]; exact cmp_self _
theorem ltN_odr (f : Nat → List ByteArray) : POdr (kcN f) (ltN f) where
 neg x y h k := .inl ((kcN_neg f x y).1 k)
 pos x y h k := by
  by_cases e : f y = f x
  ·exact .inr ⟨e, h⟩
  ·rcases less_total (nm (f y)) (nm (f x)) (fun q => e (nm_inj q)) with q | q
   ·exact .inl q
   ·exact absurd ((kcN_neg f x y).2 q) k
 tr x y z h k := by
  rcases h with h | ⟨h1, h2⟩
  ·rcases k with k | ⟨k1, k2⟩
   ·exact .inl (less_trans _ _ _ h k)
   ·exact .inl (by rw [← k1]; exact h)
  ·rcases k with k | ⟨k1, k2⟩
   ·exact .inl (by rw [h1]; exact k)
   ·exact .inr ⟨h1.trans k1, by omega⟩
theorem ltN_not (f : Nat → List ByteArray) {x y : Nat} (h : ltN f x y) : less (nm (f y)) (nm (f x)) = false := by
 rcases h with h | ⟨h, _⟩
 ·exact less_asymm _ _ h
 ·rw [h]; exact less_irrefl _
structure Cuts (f : Nat → List ByteArray) (D : Nat → Nat) (n : Nat) (V : List (Nat × Nat)) (fr i : Nat) : Prop where
 le : fr ≤ i
 le2 : i ≤ n
 one : ∀ v ∈ V, v.1 < v.2 ∧ v.2 ≤ fr ∧ (∀ k, v.1 ≤ k → k < v.2 → f (D k) = f (D v.1)) ∧ (v.2 < n → f (D (v.2 - 1)) ≠ f (D v.2))
 all : ∀ k, k < fr → ∃ v ∈ V, v.1 ≤ k ∧ k < v.2
 ord : V.Pairwise (fun u v => u.2 ≤ v.1)
 cur : ∀ k, fr ≤ k → k ≤ i → k < n → f (D k) = f (D fr)
 fin : i = n → fr = n
theorem cuts_zero (f : Nat → List ByteArray) (D : Nat → Nat) (n : Nat) : Cuts f D n [] 0 0 :=
 ⟨Nat.le_refl _, Nat.zero_le _, fun v hv => by simp at hv, fun k hk => by omega, List.Pairwise.nil, fun k _ h _ => by rw [show k = 0 by omega], fun h => h⟩
theorem Cuts.more {f : Nat → List ByteArray} {D : Nat → Nat} {n : Nat} {V : List (Nat × Nat)} {fr i : Nat} (h : Cuts f D n V fr i) (h1 : i + 1 < n) (h2 : f (D i) = f (D (i + 1))) : Cuts f D n V fr (i + 1) :=
 ⟨by have := h.le; omega, by omega, h.one, h.all, h.ord, fun k k1 k2 k3 => by
  by_cases e : k = i + 1
  ·rw [e, ← h2]; exact h.cur i h.le (Nat.le_refl _) (by omega)
  ·exact h.cur k k1 (by omega) k3, fun e => by omega⟩
theorem Cuts.cut {f : Nat → List ByteArray} {D : Nat → Nat} {n : Nat} {V : List (Nat × Nat)} {fr i : Nat} (h : Cuts f D n V fr i) (h1 : i < n) (h2 : i + 1 < n → f (D i) ≠ f (D (i + 1))) : Cuts f D n (V ++ [(fr, i + 1)]) (i + 1) (i + 1) := by
 have hle := h.le
 refine ⟨Nat.le_refl _, by omega, fun v hv => ?_, fun k hk => ?_, ?_, fun k k1 k2 _ => by rw [show k = i + 1 by omega], fun e => e⟩
 ·rcases List.mem_append.1 hv with hv | hv
  ·obtain ⟨q1, q2, q3, q4⟩ := h.one v hv
   exact ⟨q1, by omega, q3, q4⟩
  ·rw [List.mem_singleton.1 hv]
   exact ⟨by omega, Nat.le_refl _, fun k k1 k2 => h.cur k k1 (by omega) (by omega), fun q => by simpa using h2 q⟩
 ·by_cases c : k < fr
  ·obtain ⟨v, v1, v2⟩ := h.all k c
   exact ⟨v, List.mem_append_left _ v1, v2⟩
  ·exact ⟨(fr, i + 1), by simp, by simp only; omega, hk⟩
 ·rw [List.pairwise_append]
  refine ⟨h.ord, List.pairwise_singleton _ _, fun u hu v hv => ?_⟩
  rw [List.mem_singleton.1 hv]
  exact (h.one u hu).2.1
def rowOf (D : Nat → Nat) (v : Nat × Nat) : List Pl := (List.range (v.2 - v.1)).map (fun k => (pa (D (v.1 + k)), pb (D (v.1 + k))))
theorem rowOf_length (D : Nat → Nat) (v : Nat × Nat) : (rowOf D v).length = v.2 - v.1 := by simp [rowOf]
theorem rowOf_get (D : Nat → Nat) (v : Nat × Nat) (k : Nat) (h : k < v.2 - v.1) : (rowOf D v)[k]'(by rw [rowOf_length]; exact h) = (pa (D (v.1 + k)), pb (D (v.1 + k))) := by simp [rowOf]
theorem mem_rowOf {D : Nat → Nat} {v : Nat × Nat} {p : Pl} : p ∈ rowOf D v ↔ ∃ k, v.1 ≤ k ∧ k < v.2 ∧ p = (pa (D k), pb (D k)) := by
 unfold rowOf
 rw [List.mem_map]
 constructor
 ·rintro ⟨k, hk, rfl⟩
  have := List.mem_range.1 hk
  exact ⟨v.1 + k, by omega, by omega, rfl⟩
 ·rintro ⟨k, k1, k2, rfl⟩
  exact ⟨k - v.1, List.mem_range.2 (by omega), by rw [show v.1 + (k - v.1) = k by omega]⟩
structure Tog (L : List (List Nod)) (RR : List (List Pl)) : Prop where
 one : ∀ r ∈ RR, ∃ p t, r = p :: t ∧ IsRow L (nat' L p).names r
 ord : RR.Pairwise (fun r s => ∀ p ∈ r, ∀ q ∈ s, less (nm (nat' L p).names) (nm (nat' L q).names) = true)
 all : ∀ p, PlOk L p → ∃ r ∈ RR, p ∈ r
def nmc (L : List (List Nod)) (c : Nat) : List ByteArray := (nat' L (pa c, pb c)).names
theorem code_one {x y : Nat} (h1 : pa x = pa y) (h2 : pb x = pb y) : x = y := by rw [← cd_pab x, ← cd_pab y, h1, h2]
theorem pa_mono {x y : Nat} (h : x < y) : pa x ≤ pa y := by unfold pa; omega
theorem tog_of {L : List (List Nod)} (hd : ∀ t ∈ L, (t.map Nod.names).Nodup) {C0 D : Nat → Nat} {n : Nat} (hC : ∀ x, In C0 0 n x ↔ PlOk L (pa x, pb x)) (hpb : ∀ p, PlOk L p → p.2 < 65536) (hs : Stb.St (ltN (nmc L)) C0 D 0 n) {V : List (Nat × Nat)} (h : Cuts (nmc L) D n V n n) : Tog L (V.map (rowOf D)) := by
 have ok : ∀ k, k < n → PlOk L (pa (D k), pb (D k)) := fun k hk => (hC _).1 ((hs.inn _).1 ⟨k, Nat.zero_le _, hk, rfl⟩)
 have lt : ∀ i j, i < j → j < n → ltN (nmc L) (D i) (D j) := fun i j h1 h2 => hs.srd i j (Nat.zero_le _) h1 h2
 have rises : ∀ v ∈ V, ∀ i j, v.1 ≤ i → i < v.2 → v.2 ≤ j → j < n → less (nm (nmc L (D i))) (nm (nmc L (D j))) = true := by
  intro v hv i j h1 h2 h3 h4
  obtain ⟨q1, q2, q3, q4⟩ := h.one v hv
  rcases lt i j (by omega) h4 with q | ⟨q, _⟩
  ·exact q
  ·exfalso
   have e1 : nmc L (D i) = nmc L (D (v.2 - 1)) := by rw [q3 i h1 h2, q3 (v.2 - 1) (by omega) (by omega)]
   have ne := q4 (by omega)
   rcases lt (v.2 - 1) v.2 (by omega) (by omega) with z | ⟨z, _⟩
   ·have z2 : less (nm (nmc L (D j))) (nm (nmc L (D v.2))) = true := by rw [← q, e1]; exact z
    by_cases c : j = v.2
    ·rw [c, less_irrefl] at z2; cases z2
    ·rw [ltN_not _ (lt v.2 j (by omega) h4)] at z2; cases z2
   ·exact ne z
 refine ⟨fun r hr => ?_, ?_, fun p hp => ?_⟩
 ·obtain ⟨v, hv, rfl⟩ := List.mem_map.1 hr
  obtain ⟨q1, q2, q3, q4⟩ := h.one v hv
  have e0 : rowOf D v = (pa (D v.1), pb (D v.1)) :: (rowOf D v).tail := by
   have hl : 0 < (rowOf D v).length := by rw [rowOf_length]; omega
   cases e : rowOf D v with
   | nil => rw [e] at hl; simp at hl
   | cons a t =>
    have := rowOf_get D v 0 (by omega)
    simp only [e, List.getElem_cons_zero, Nat.add_zero] at this
    rw [this]; rfl
  refine ⟨_, _, e0, ⟨fun p => ?_, ?_⟩⟩
  ·rw [mem_rowOf]
   constructor
   ·rintro ⟨k, k1, k2, rfl⟩
    exact ⟨ok k (by omega), q3 k k1 k2⟩
   ·rintro ⟨p1, p2⟩
    obtain ⟨l, c⟩ := p
    have hx := hpb _ p1
    obtain ⟨k, _, k2, k3⟩ := (hs.inn (cd l c)).2 ((hC _).2 (by rw [pa_cd hx, pb_cd hx]; exact p1))
    have e1 : pa (D k) = l := by rw [k3, pa_cd hx]
    have e2 : pb (D k) = c := by rw [k3, pb_cd hx]
    have e3 : nmc L (D k) = nmc L (D v.1) := by
     unfold nmc; rw [e1, e2]; exact p2
    refine ⟨k, ?_, ?_, by rw [e1, e2]⟩
    ·by_cases c : v.1 ≤ k
     ·exact c
     ·exfalso
      obtain ⟨u, u1, u2, u3⟩ := h.all k k2
      have hu : u.2 ≤ v.1 := by
       obtain ⟨w1, w2, _, _⟩ := h.one u u1
       by_cases e : u.2 ≤ v.1
       ·exact e
       ·exfalso
        have key : ∀ (W : List (Nat × Nat)), W.Pairwise (fun a b => a.2 ≤ b.1) → ∀ a ∈ W, ∀ b ∈ W, a = b ∨ a.2 ≤ b.1 ∨ b.2 ≤ a.1 := by
         intro W
         induction W with
         | nil => intro _ a ha; simp at ha
         | cons x W ih =>
          intro hp a ha b hb
          rw [List.pairwise_cons] at hp
          rcases List.mem_cons.1 ha with ha' | ha' <;> rcases List.mem_cons.1 hb with hb' | hb'
          ·exact .inl (ha'.trans hb'.symm)
          ·rw [ha']; exact .inr (.inl (hp.1 b hb'))
          ·rw [hb']; exact .inr (.inr (hp.1 a ha'))
          ·exact ih hp.2 a ha' b hb'
        rcases key V h.ord u u1 v hv with q | q | q
        ·rw [q] at u2; omega
        ·omega
        ·omega
      have := rises u u1 k v.1 u2 u3 hu (by omega)
      rw [e3, less_irrefl] at this; cases this
    ·by_cases c : k < v.2
     ·exact c
     ·exfalso
      have := rises v hv v.1 k (Nat.le_refl _) q1 (by omega) k2
      rw [e3, less_irrefl] at this; cases this
  ·rw [List.pairwise_iff_getElem]
   intro i j hi hj hij
   rw [rowOf_length] at hi hj
   rw [rowOf_get D v i hi, rowOf_get D v j hj]
   show pa (D (v.1 + i)) < pa (D (v.1 + j))
   have n1 := q3 (v.1 + i) (by omega) (by omega)
   have n2 := q3 (v.1 + j) (by omega) (by omega)
   rcases lt (v.1 + i) (v.1 + j) (by omega) (by omega) with z | ⟨_, z⟩
   ·rw [n1, n2, less_irrefl] at z; cases z
   ·rcases Nat.lt_or_ge (pa (D (v.1 + i))) (pa (D (v.1 + j))) with c | c
    ·exact c
    ·exfalso
     have e : pa (D (v.1 + i)) = pa (D (v.1 + j)) := Nat.le_antisymm (pa_mono z) c
     have o1 := ok (v.1 + i) (by omega)
     have o2 := ok (v.1 + j) (by omega)
     have m1 := nat_get o1
     have m2 := nat_get o2
     have hn := hd _ (ly_mem o1.1)
     have en : (nat' L (pa (D (v.1 + i)), pb (D (v.1 + i)))).names = (nat' L (pa (D (v.1 + j)), pb (D (v.1 + j)))).names := n1.trans n2.symm
     rw [← e] at o2 en
     have e2 : pb (D (v.1 + i)) = pb (D (v.1 + j)) := by
      rw [nat_get o1, nat_get o2] at en
      have h1 := o1.2
      have h2 := o2.2
      rcases Nat.lt_trichotomy (pb (D (v.1 + i))) (pb (D (v.1 + j))) with q | q | q
      ·have := List.pairwise_iff_getElem.1 hn _ _ (by simpa using h1) (by simpa using h2) q
       exact absurd (by simpa using en) this
      ·exact q
      ·have := List.pairwise_iff_getElem.1 hn _ _ (by simpa using h2) (by simpa using h1) q
       exact absurd (by simpa using en.symm) this
     have := code_one e e2
     omega
 ·rw [List.pairwise_map]
  have hm : V.Pairwise (fun u v => u ∈ V ∧ v ∈ V ∧ u.2 ≤ v.1) := by
   have := h.ord.imp_of_mem (S := fun u v => u ∈ V ∧ v ∈ V ∧ u.2 ≤ v.1) (fun {a b} ha hb q => ⟨ha, hb, q⟩)
   exact this
  refine hm.imp fun {u v} ⟨hu, hv, q⟩ p hp s hs' => ?_
  obtain ⟨i, i1, i2, rfl⟩ := mem_rowOf.1 hp
  obtain ⟨j, j1, j2, rfl⟩ := mem_rowOf.1 hs'
  exact rises u hu i j i1 i2 (by omega) (by have := (h.one v hv).2.1; omega)
 ·obtain ⟨l, c⟩ := p
  have hx := hpb _ hp
  obtain ⟨k, _, k2, k3⟩ := (hs.inn (cd l c)).2 ((hC _).2 (by rw [pa_cd hx, pb_cd hx]; exact hp))
  obtain ⟨v, v1, v2, v3⟩ := h.all k k2
  exact ⟨_, List.mem_map_of_mem v1, mem_rowOf.2 ⟨k, v2, v3, by rw [k3, pa_cd hx, pb_cd hx]⟩⟩
end Mrg
end Go.Proofs.Ytflohhefbbidcaa

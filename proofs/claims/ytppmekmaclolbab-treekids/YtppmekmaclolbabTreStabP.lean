/- Layer 7: a row of numbers, put in order as slices.SortStableFunc does it: the pure part (a row as a function of its place). -/
import Derived.Test.YtppmekmaclolbabBase
namespace Go.Proofs.Ytppmekmaclolbab
set_option linter.unusedVariables false

namespace Stb
def swp (C : Nat → Nat) (i j : Nat) : Nat → Nat := fun k => if k = i then C j else if k = j then C i else C k
/-- Two stretches of n exchanged. -/
def swr (C : Nat → Nat) (a b n : Nat) : Nat → Nat := fun k => if a ≤ k ∧ k < a + n then C (k + (b - a)) else if b ≤ k ∧ k < b + n then C (k - (b - a)) else C k
/-- What lies from lo to m, and what lies from m to hi, exchanged. -/
def rot (C : Nat → Nat) (lo m hi : Nat) : Nat → Nat := fun k => if lo ≤ k ∧ k < lo + (hi - m) then C (k + (m - lo)) else if lo + (hi - m) ≤ k ∧ k < hi then C (k - (hi - m)) else C k
theorem swr_zero (C : Nat → Nat) (a b : Nat) : swr C a b 0 = C := by
  funext k
  unfold swr
  rw [if_neg (by omega), if_neg (by omega)]
theorem swr_succ (C : Nat → Nat) (a b n : Nat) (h : a + n < b) : swp (swr C a b n) (a + n) (b + n) = swr C a b (n + 1) := by
  funext k
  simp only [swp, swr]
  repeat' split
  all_goals first | rfl | (exfalso; omega) | (congr 1; omega)
theorem rot_gt (C : Nat → Nat) (i j m : Nat) (hi : i ≤ m) (h : j < i) : rot (swr C (m - i) m j) (m - (i - j)) m (m + j) = rot C (m - i) m (m + j) := by
  funext k
  simp only [rot, swr]
  repeat' split
  all_goals first | rfl | (exfalso; omega) | (congr 1; omega)
theorem rot_lt (C : Nat → Nat) (i j m : Nat) (hi : i ≤ m) (h : i < j) : rot (swr C (m - i) (m + j - i) i) (m - i) m (m + (j - i)) = rot C (m - i) m (m + j) := by
  funext k
  simp only [rot, swr]
  repeat' split
  all_goals first | rfl | (exfalso; omega) | (congr 1; omega)
theorem rot_eq (C : Nat → Nat) (i m : Nat) (hi : i ≤ m) : swr C (m - i) m i = rot C (m - i) m (m + i) := by
  funext k
  simp only [rot, swr]
  repeat' split
  all_goals first | rfl | (exfalso; omega) | (congr 1; omega)
theorem rot_none (C : Nat → Nat) (s m e : Nat) (h1 : s ≤ m) (h2 : m ≤ e) (h : s = m ∨ e = m) : rot C s m e = C := by
  funext k
  unfold rot
  repeat' split
  all_goals first | rfl | (exfalso; omega) | (congr 1; omega)
theorem rot_up (C : Nat → Nat) (a k : Nat) (h : a ≤ k) : swp (rot C a (a + 1) (k + 1)) k (k + 1) = rot C a (a + 1) (k + 2) := by
  funext x
  simp only [rot, swp]
  repeat' split
  all_goals first | rfl | (exfalso; omega) | (congr 1; omega)
theorem rot_down (C : Nat → Nat) (k m : Nat) (h : k < m) : swp (rot C (k + 1) m (m + 1)) (k + 1) k = rot C k m (m + 1) := by
  funext x
  simp only [rot, swp]
  repeat' split
  all_goals first | rfl | (exfalso; omega) | (congr 1; omega)
theorem rot_out (C : Nat → Nat) {s m e k : Nat} (h1 : s ≤ m) (h2 : m ≤ e) (h : k < s ∨ e ≤ k) : rot C s m e k = C k := by
  unfold rot
  rw [if_neg (by omega), if_neg (by omega)]
theorem rot_one (C : Nat → Nat) {s m e k : Nat} (h1 : s ≤ k) (h : k < s + (e - m)) : rot C s m e k = C (k + (m - s)) := by
  unfold rot
  rw [if_pos ⟨h1, h⟩]
theorem rot_two (C : Nat → Nat) {s m e k : Nat} (h1 : s + (e - m) ≤ k) (h : k < e) : rot C s m e k = C (k - (e - m)) := by
  unfold rot
  rw [if_neg (by omega), if_pos ⟨h1, h⟩]

def In (C : Nat → Nat) (a b x : Nat) : Prop := ∃ k, a ≤ k ∧ k < b ∧ C k = x
def Srd (lt : Nat → Nat → Prop) (C : Nat → Nat) (a b : Nat) : Prop := ∀ i j, a ≤ i → i < j → j < b → lt (C i) (C j)
def Idx (C : Nat → Nat) (a m b : Nat) : Prop := ∀ i j, a ≤ i → i < m → m ≤ j → j < b → C i < C j
structure Mg (lt : Nat → Nat → Prop) (C D : Nat → Nat) (a b : Nat) : Prop where
  out : ∀ k, k < a ∨ b ≤ k → D k = C k
  inn : ∀ x, In D a b x ↔ In C a b x
  srd : Srd lt D a b
theorem In.rot {C : Nat → Nat} {a s m e b x : Nat} (h1 : a ≤ s) (h2 : s ≤ m) (h3 : m ≤ e) (h4 : e ≤ b) : In (rot C s m e) a b x ↔ In C a b x := by
  constructor
  · rintro ⟨k, k1, k2, rfl⟩
    by_cases c1 : k < s ∨ e ≤ k
    · exact ⟨k, k1, k2, (rot_out C h2 h3 c1).symm⟩
    · by_cases c2 : k < s + (e - m)
      · exact ⟨k + (m - s), by omega, by omega, (rot_one C (by omega) c2).symm⟩
      · exact ⟨k - (e - m), by omega, by omega, (rot_two C (by omega) (by omega)).symm⟩
  · rintro ⟨k, k1, k2, rfl⟩
    by_cases c1 : k < s ∨ e ≤ k
    · exact ⟨k, k1, k2, rot_out C h2 h3 c1⟩
    · by_cases c2 : k < m
      · exact ⟨k + (e - m), by omega, by omega, by rw [rot_two C (by omega) (by omega)]; congr 1; omega⟩
      · exact ⟨k - (m - s), by omega, by omega, by rw [rot_one C (by omega) (by omega)]; congr 1; omega⟩
theorem Srd.mono {lt : Nat → Nat → Prop} {C : Nat → Nat} {a b c d : Nat} (h : Srd lt C a b) (h1 : a ≤ c) (h2 : d ≤ b) : Srd lt C c d := fun i j e1 e2 e3 => h i j (by omega) e2 (by omega)
theorem Srd.le {lt : Nat → Nat → Prop} {C : Nat → Nat} {a b i j k : Nat} (tr : ∀ x y z, lt x y → lt y z → lt x z) (h : Srd lt C a b) (h1 : a ≤ i) (h2 : i ≤ j) (h3 : j < b) {z : Nat} (hz : lt (C j) z) : lt (C i) z := by
  rcases Nat.lt_or_ge i j with c | c
  · exact tr _ _ _ (h i j h1 c h3) hz
  · obtain rfl : i = j := by omega
    exact hz
theorem Srd.ge {lt : Nat → Nat → Prop} {C : Nat → Nat} {a b i j : Nat} (tr : ∀ x y z, lt x y → lt y z → lt x z) (h : Srd lt C a b) (h1 : a ≤ i) (h2 : i ≤ j) (h3 : j < b) {z : Nat} (hz : lt z (C i)) : lt z (C j) := by
  rcases Nat.lt_or_ge i j with c | c
  · exact tr _ _ _ hz (h i j h1 c h3)
  · obtain rfl : i = j := by omega
    exact hz
theorem mg_down {lt : Nat → Nat → Prop} (tr : ∀ x y z, lt x y → lt y z → lt x z) {C : Nat → Nat} {a s m : Nat} (hs : Srd lt C a m) (h1 : a ≤ s) (h2 : s ≤ m) (h3 : s = a ∨ lt (C (s - 1)) (C m)) (h4 : s = m ∨ lt (C m) (C s)) :
    Mg lt C (rot C s m (m + 1)) a (m + 1) := by
  refine ⟨fun k hk => rot_out C h2 (by omega) (by omega), fun x => In.rot h1 h2 (by omega) (Nat.le_refl _), fun i j e1 e2 e3 => ?_⟩
  have f1 : ∀ k, k < s → rot C s m (m + 1) k = C k := fun k hk => rot_out C h2 (by omega) (.inl hk)
  have f2 : rot C s m (m + 1) s = C m := by rw [rot_one C (Nat.le_refl _) (by omega)]; congr 1; omega
  have f3 : ∀ k, s < k → k < m + 1 → rot C s m (m + 1) k = C (k - 1) := fun k hk hm => by rw [rot_two C (by omega) hm]; congr 1; omega
  have low : ∀ i, a ≤ i → i < s → lt (C i) (C m) := fun i q1 q2 => by
    rcases h3 with h3 | h3
    · omega
    · exact hs.le (k := 0) tr q1 (by omega) (by omega) h3
  have high : ∀ j, s ≤ j → j < m → lt (C m) (C j) := fun j q1 q2 => by
    rcases h4 with h4 | h4
    · omega
    · exact hs.ge tr h1 q1 q2 h4
  rcases Nat.lt_trichotomy j s with c | c | c
  · rw [f1 i (by omega), f1 j c]; exact hs i j e1 e2 (by omega)
  · subst c; rw [f1 i e2, f2]; exact low i e1 e2
  · rw [f3 j c e3]
    rcases Nat.lt_trichotomy i s with d | d | d
    · rw [f1 i d]; exact hs i (j - 1) e1 (by omega) (by omega)
    · subst d; rw [f2]; exact high _ (by omega) (by omega)
    · rw [f3 i d (by omega)]; exact hs (i - 1) (j - 1) (by omega) (by omega) (by omega)
theorem mg_up {lt : Nat → Nat → Prop} (tr : ∀ x y z, lt x y → lt y z → lt x z) {C : Nat → Nat} {a s b : Nat} (hs : Srd lt C (a + 1) b) (h1 : a + 1 ≤ s) (h2 : s ≤ b) (h3 : s = a + 1 ∨ lt (C (s - 1)) (C a)) (h4 : s = b ∨ lt (C a) (C s)) :
    Mg lt C (rot C a (a + 1) s) a b := by
  refine ⟨fun k hk => rot_out C (by omega) (by omega) (by omega), fun x => In.rot (Nat.le_refl _) (by omega) h1 h2, fun i j e1 e2 e3 => ?_⟩
  have f1 : ∀ k, s ≤ k → rot C a (a + 1) s k = C k := fun k hk => rot_out C (by omega) (by omega) (.inr hk)
  have f2 : rot C a (a + 1) s (s - 1) = C a := by rw [rot_two C (by omega) (by omega)]; congr 1; omega
  have f3 : ∀ k, a ≤ k → k < s - 1 → rot C a (a + 1) s k = C (k + 1) := fun k hk hm => by rw [rot_one C hk (by omega)]; congr 1; omega
  have low : ∀ i, a + 1 ≤ i → i < s → lt (C i) (C a) := fun i q1 q2 => by
    rcases h3 with h3 | h3
    · omega
    · exact hs.le (k := 0) tr q1 (by omega) (by omega) h3
  have high : ∀ j, s ≤ j → j < b → lt (C a) (C j) := fun j q1 q2 => by
    rcases h4 with h4 | h4
    · omega
    · exact hs.ge tr h1 q1 q2 h4
  by_cases c : s ≤ i
  · rw [f1 i c, f1 j (by omega)]; exact hs i j (by omega) e2 e3
  · by_cases d : i = s - 1
    · rw [d, f2, f1 j (by omega)]; exact high j (by omega) e3
    · rw [f3 i e1 (by omega)]
      by_cases e : s ≤ j
      · rw [f1 j e]; exact hs (i + 1) j (by omega) (by omega) e3
      · by_cases f : j = s - 1
        · rw [f, f2]; exact low _ (by omega) (by omega)
        · rw [f3 j (by omega) (by omega)]; exact hs (i + 1) (j + 1) (by omega) (by omega) (by omega)
/-- What is in a stretch is in its two parts. -/
theorem In.parts {C : Nat → Nat} {a m b x : Nat} (h1 : a ≤ m) (h2 : m ≤ b) : In C a b x ↔ In C a m x ∨ In C m b x := by
  constructor
  · rintro ⟨k, k1, k2, rfl⟩
    rcases Nat.lt_or_ge k m with c | c
    · exact .inl ⟨k, k1, c, rfl⟩
    · exact .inr ⟨k, c, k2, rfl⟩
  · rintro (⟨k, k1, k2, rfl⟩ | ⟨k, k1, k2, rfl⟩)
    · exact ⟨k, k1, by omega, rfl⟩
    · exact ⟨k, by omega, k2, rfl⟩
theorem In.same {C D : Nat → Nat} {a b x : Nat} (h : ∀ k, a ≤ k → k < b → D k = C k) : In D a b x ↔ In C a b x :=
  ⟨fun ⟨k, k1, k2, e⟩ => ⟨k, k1, k2, (h k k1 k2).symm.trans e⟩, fun ⟨k, k1, k2, e⟩ => ⟨k, k1, k2, (h k k1 k2).trans e⟩⟩
theorem Srd.same {lt : Nat → Nat → Prop} {C D : Nat → Nat} {a b : Nat} (h : Srd lt C a b) (e : ∀ k, a ≤ k → k < b → D k = C k) : Srd lt D a b := fun i j h1 h2 h3 => by
  rw [e i h1 (by omega), e j (by omega) h3]; exact h i j h1 h2 h3
theorem Idx.same {C D : Nat → Nat} {a m b : Nat} (h : Idx C a m b) (e : ∀ k, a ≤ k → k < b → D k = C k) : Idx D a m b := fun i j h1 h2 h3 h4 => by
  rw [e i h1 (by omega), e j (by omega) h4]; exact h i j h1 h2 h3 h4
/-- Where the place s was found: the two halves. -/
structure Half (lt : Nat → Nat → Prop) (C D : Nat → Nat) (a s mid e b : Nat) : Prop where
  s1 : Srd lt D a s
  s2 : Srd lt D s mid
  s3 : Srd lt D mid e
  s4 : Srd lt D e b
  i1 : Idx D a s mid
  i2 : Idx D mid e b
  inn : ∀ x, In D a b x ↔ In C a b x
  out : ∀ k, k < a ∨ b ≤ k → D k = C k
  cross : ∀ x y, In D a mid x → In D mid b y → lt x y
theorem half {lt : Nat → Nat → Prop} (tr : ∀ x y z, lt x y → lt y z → lt x z) {C : Nat → Nat} {a s m mid e b : Nat} (hl : Srd lt C a m) (hr : Srd lt C m b) (hi : Idx C a m b)
    (h1 : a ≤ s) (h2 : s ≤ m) (h3 : m ≤ e) (h4 : e ≤ b) (he : s + e = mid + m)
    (c1 : s = a ∨ e = b ∨ lt (C (s - 1)) (C e)) (c2 : s = m ∨ e = m ∨ lt (C (e - 1)) (C s)) : Half lt C (rot C s m e) a s mid e b := by
  have f1 : ∀ k, k < s → rot C s m e k = C k := fun k hk => rot_out C h2 h3 (.inl hk)
  have f2 : ∀ k, s ≤ k → k < mid → rot C s m e k = C (k + (m - s)) := fun k hk hm => rot_one C hk (by omega)
  have f3 : ∀ k, mid ≤ k → k < e → rot C s m e k = C (k - (e - m)) := fun k hk hm => rot_two C (by omega) hm
  have f4 : ∀ k, e ≤ k → rot C s m e k = C k := fun k hk => rot_out C h2 h3 (.inr hk)
  refine ⟨?_, ?_, ?_, ?_, ?_, ?_, fun x => In.rot h1 h2 h3 h4, fun k hk => rot_out C h2 h3 (by omega), ?_⟩
  · intro i j e1 e2 e3; rw [f1 i (by omega), f1 j e3]; exact hl i j e1 e2 (by omega)
  · intro i j e1 e2 e3; rw [f2 i e1 (by omega), f2 j (by omega) e3]; exact hr _ _ (by omega) (by omega) (by omega)
  · intro i j e1 e2 e3; rw [f3 i e1 (by omega), f3 j (by omega) e3]; exact hl _ _ (by omega) (by omega) (by omega)
  · intro i j e1 e2 e3; rw [f4 i e1, f4 j (by omega)]; exact hr _ _ (by omega) (by omega) (by omega)
  · intro i j e1 e2 e3 e4; rw [f1 i e2, f2 j e3 e4]; exact hi _ _ e1 (by omega) (by omega) (by omega)
  · intro i j e1 e2 e3 e4; rw [f3 i e1 e2, f4 j e3]; exact hi _ _ (by omega) (by omega) (by omega) (by omega)
  · rintro x y ⟨i, i1, i2, rfl⟩ ⟨j, j1, j2, rfl⟩
    by_cases ci : i < s
    · rw [f1 i ci]
      by_cases cj : j < e
      · rw [f3 j j1 cj]; exact hl _ _ i1 (by omega) (by omega)
      · rw [f4 j (by omega)]
        rcases c1 with c | c | c
        · omega
        · omega
        · exact hr.ge tr h3 (by omega) j2 (hl.le (k := 0) tr i1 (by omega) (by omega) c)
    · rw [f2 i (by omega) i2]
      by_cases cj : j < e
      · rw [f3 j j1 cj]
        rcases c2 with c | c | c
        · omega
        · omega
        · exact hl.ge tr h1 (by omega) (by omega) (hr.le (k := 0) tr (by omega) (by omega) (by omega) c)
      · rw [f4 j (by omega)]; exact hr _ _ (by omega) (by omega) (by omega)
theorem Mg.none {lt : Nat → Nat → Prop} {C : Nat → Nat} {a m b : Nat} (h1 : Srd lt C a m) (h2 : Srd lt C m b) (h : ¬ (a < m ∧ m < b)) (ha : a ≤ m) (hb : m ≤ b) : Mg lt C C a b := by
  refine ⟨fun _ _ => rfl, fun _ => Iff.rfl, ?_⟩
  by_cases c : a < m
  · obtain rfl : m = b := by omega
    exact h1
  · obtain rfl : a = m := by omega
    exact h2
theorem Half.mg {lt : Nat → Nat → Prop} {C D E G : Nat → Nat} {a s mid e b : Nat} (h : Half lt C D a s mid e b) (ha : a ≤ mid) (hb : mid ≤ b) (m1 : Mg lt D E a mid) (m2 : Mg lt E G mid b) : Mg lt C G a b := by
  have g1 : ∀ k, a ≤ k → k < mid → G k = E k := fun k _ hk => m2.out k (.inl hk)
  have e1 : ∀ k, mid ≤ k → k < b → E k = D k := fun k hk _ => m1.out k (.inr hk)
  refine ⟨fun k hk => ?_, fun x => ?_, fun i j i1 i2 i3 => ?_⟩
  · rw [m2.out k (by omega), m1.out k (by omega)]; exact h.out k hk
  · rw [← h.inn x, In.parts ha hb, In.parts ha hb, In.same g1, m1.inn, m2.inn, In.same e1]
  · rcases Nat.lt_or_ge j mid with c | c
    · exact (m1.srd.same g1) i j i1 i2 c
    · rcases Nat.lt_or_ge i mid with d | d
      · refine h.cross _ _ ((m1.inn _).1 ⟨i, i1, d, (g1 i i1 d).symm⟩) ?_
        exact (In.same e1).1 ((m2.inn _).1 ⟨j, c, i3, rfl⟩)
      · exact m2.srd i j d i2 i3
theorem Half.again1 {lt : Nat → Nat → Prop} {C D : Nat → Nat} {a s mid e b : Nat} (h : Half lt C D a s mid e b) : Srd lt D a s ∧ Srd lt D s mid ∧ Idx D a s mid := ⟨h.s1, h.s2, h.i1⟩
theorem Half.again2 {lt : Nat → Nat → Prop} {C D E : Nat → Nat} {a s mid e b : Nat} (h : Half lt C D a s mid e b) (h3 : mid ≤ e) (h4 : e ≤ b) (m1 : Mg lt D E a mid) : Srd lt E mid e ∧ Srd lt E e b ∧ Idx E mid e b :=
  have e1 : ∀ k, mid ≤ k → k < b → E k = D k := fun k hk _ => m1.out k (.inr hk)
  ⟨h.s3.same fun k a b => e1 k a (by omega), h.s4.same fun k a b => e1 k (by omega) b, h.i2.same e1⟩
/-- A stretch in order that holds what it held at first. -/
structure St (lt : Nat → Nat → Prop) (C0 C : Nat → Nat) (a b : Nat) : Prop where
  srd : Srd lt C a b
  inn : ∀ x, In C a b x ↔ In C0 a b x
theorem St.same {lt : Nat → Nat → Prop} {C0 C D : Nat → Nat} {a b : Nat} (h : St lt C0 C a b) (e : ∀ k, a ≤ k → k < b → D k = C k) : St lt C0 D a b := ⟨h.srd.same e, fun x => (In.same e).trans (h.inn x)⟩
theorem St.idx {lt : Nat → Nat → Prop} {C0 C : Nat → Nat} {a m b n : Nat} (h0 : ∀ i j, i < j → j < n → C0 i < C0 j) (hb : b ≤ n) (h1 : St lt C0 C a m) (h2 : St lt C0 C m b) : Idx C a m b := fun i j e1 e2 e3 e4 => by
  obtain ⟨p, p1, p2, p3⟩ := (h1.inn _).1 ⟨i, e1, e2, rfl⟩
  obtain ⟨q, q1, q2, q3⟩ := (h2.inn _).1 ⟨j, e3, e4, rfl⟩
  rw [← p3, ← q3]
  exact h0 p q (by omega) (by omega)
theorem St.mg {lt : Nat → Nat → Prop} {C0 C D : Nat → Nat} {a m b : Nat} (ha : a ≤ m) (hb : m ≤ b) (h1 : St lt C0 C a m) (h2 : St lt C0 C m b) (h : Mg lt C D a b) : St lt C0 D a b :=
  ⟨h.srd, fun x => by rw [h.inn, In.parts ha hb, In.parts ha hb, h1.inn, h2.inn]⟩
theorem Mg.more {lt : Nat → Nat → Prop} {C D E : Nat → Nat} {a i : Nat} (hi : a ≤ i) (h : Mg lt C D a i) (k : Mg lt D E a (i + 1)) : Mg lt C E a (i + 1) :=
  ⟨fun x hx => (k.out x hx).trans (h.out x (by omega)), fun x => by
    rw [k.inn, In.parts hi (Nat.le_succ i), In.parts hi (Nat.le_succ i), h.inn, In.same (C := C) fun k h1 h2 => h.out k (.inr h1)], k.srd⟩
/-- Two rows in order with the same in them are the same. -/
theorem srd_one {lt : Nat → Nat → Prop} (ir : ∀ x, ¬ lt x x) (tr : ∀ x y z, lt x y → lt y z → lt x z) : ∀ (l k : List Nat), l.Pairwise lt → k.Pairwise lt → (∀ x, x ∈ l ↔ x ∈ k) → l = k
  | [], [], _, _, _ => rfl
  | [], y :: k, _, _, h => by have := (h y).2 (by simp); simp at this
  | x :: l, [], _, _, h => by have := (h x).1 (by simp); simp at this
  | x :: l, y :: k, h1, h2, h => by
    rw [List.pairwise_cons] at h1 h2
    have e : x = y := by
      rcases List.mem_cons.1 ((h x).1 (by simp)) with e | e
      · exact e
      · rcases List.mem_cons.1 ((h y).2 (by simp)) with f | f
        · exact f.symm
        · exact absurd (tr _ _ _ (h1.1 y f) (h2.1 x e)) (ir x)
    subst e
    congr 1
    refine srd_one ir tr l k h1.2 h2.2 fun z => ⟨fun hz => ?_, fun hz => ?_⟩
    · rcases List.mem_cons.1 ((h z).1 (by simp [hz])) with e | e
      · rw [e] at hz; exact absurd (h1.1 x hz) (ir x)
      · exact e
    · rcases List.mem_cons.1 ((h z).2 (by simp [hz])) with e | e
      · rw [e] at hz; exact absurd (h2.1 x hz) (ir x)
      · exact e
end Stb
end Go.Proofs.Ytppmekmaclolbab

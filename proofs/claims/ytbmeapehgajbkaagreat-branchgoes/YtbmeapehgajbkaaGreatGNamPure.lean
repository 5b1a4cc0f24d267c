import Derived.Test.YtbmeapehgajbkaaGreatRows
import Derived.Laws.RangeAny
import Derived.Lib.Strings
set_option linter.unusedVariables false
namespace Go.Proofs.YtbmeapehgajbkaaGreat.Nam
def bad (b : UInt8) : Bool := b == 0 || b == 47
def valid (l : List UInt8) : Int := if 255 < l.length then 23 else if l = [] ∨ l = [46] ∨ l = [46, 46] ∨ l.any bad = true then 22 else 0
theorem valid_long {l : List UInt8} (h : 255 < l.length) : valid l = 23 := by simp [valid, h]
theorem valid_name {l : List UInt8} (h : ¬ 255 < l.length) (k : l = [] ∨ l = [46] ∨ l = [46, 46]) : valid l = 22 := by
 rw [valid, if_neg h, if_pos]
 rcases k with k | k | k
 ·exact .inl k
 ·exact .inr (.inl k)
 ·exact .inr (.inr (.inl k))
theorem valid_bad {l : List UInt8} (h : ¬ 255 < l.length) (k : l.any bad = true) : valid l = 22 := by
 rw [valid, if_neg h, if_pos (.inr (.inr (.inr k)))]
theorem valid_ok {l : List UInt8} (h : ¬ 255 < l.length) (h0 : l ≠ []) (h1 : l ≠ [46]) (h2 : l ≠ [46, 46]) (k : l.any bad = false) : valid l = 0 := by
 rw [valid, if_neg h, if_neg]
 simp [h0, h1, h2, k]
theorem valid_zero {l : List UInt8} (h : valid l = 0) : l.length ≤ 255 ∧ l ≠ [] ∧ l ≠ [46] ∧ l ≠ [46, 46] ∧ (∀ b ∈ l, b ≠ 47) := by
 by_cases h1 : 255 < l.length
 ·rw [valid_long h1] at h; cases h
 ·by_cases h2 : l = [] ∨ l = [46] ∨ l = [46, 46] ∨ l.any bad = true
  ·rw [valid, if_neg h1, if_pos h2] at h; cases h
  ·simp only [not_or] at h2
   obtain ⟨a, b, c, d⟩ := h2
   refine ⟨by omega, a, b, c, fun x hx e => d ?_⟩
   rw [List.any_eq_true]
   exact ⟨x, hx, by rw [e]; rfl⟩
theorem bless_irrefl : ∀ a, Op.bytesLess a a = false
 | [] => by simp [Op.bytesLess]
 | a :: x => by simp [Op.bytesLess, bless_irrefl x, UInt8.lt_irrefl]
theorem bless_trans : ∀ a b c, Op.bytesLess a b = true → Op.bytesLess b c = true → Op.bytesLess a c = true
 | _, [], _, h, _ => by simp [Op.bytesLess] at h
 | _, _ :: _, [], _, h => by simp [Op.bytesLess] at h
 | [], _ :: _, _ :: _, _, _ => by simp [Op.bytesLess]
 | a :: x, b :: y, c :: z, h, k => by
  simp only [Op.bytesLess, Bool.or_eq_true, Bool.and_eq_true, decide_eq_true_eq, beq_iff_eq] at h k ⊢
  rcases h with h | ⟨rfl, h⟩
  ·rcases k with k | ⟨rfl, k⟩
   ·exact .inl (UInt8.lt_trans h k)
   ·exact .inl h
  ·rcases k with k | ⟨rfl, k⟩
   ·exact .inl k
   ·exact .inr ⟨rfl, bless_trans x y z h k⟩
theorem bless_total : ∀ a b, a ≠ b → Op.bytesLess a b = true ∨ Op.bytesLess b a = true
 | [], [], h => absurd rfl h
 | [], _ :: _, _ => .inl (by simp [Op.bytesLess])
 | _ :: _, [], _ => .inr (by simp [Op.bytesLess])
 | a :: x, b :: y, h => by
  simp only [Op.bytesLess, Bool.or_eq_true, Bool.and_eq_true, decide_eq_true_eq, beq_iff_eq]
  by_cases e : a = b
  ·subst e
   rcases bless_total x y (fun e => h (by rw [e])) with k | k
   ·exact .inl (.inr ⟨rfl, k⟩)
   ·exact .inr (.inr ⟨rfl, k⟩)
  ·rcases UInt8.lt_or_lt_of_ne e with k | k
   ·exact .inl (.inl k)
   ·exact .inr (.inl k)
theorem bless_asymm (a b) (h : Op.bytesLess a b = true) : Op.bytesLess b a = false := by
 cases k : Op.bytesLess b a with
 | false => rfl
 | true => have := bless_trans a b a h k; rw [bless_irrefl] at this; cases this
def less : List (List UInt8) → List (List UInt8) → Bool
 | _, [] => false
 | [], _ :: _ => true
 | a :: x, b :: y => if a = b then less x y else Op.bytesLess a b
def cmp1 (a b : List UInt8) : Int := if Op.bytesLess a b = true then -1 else if a = b then 0 else 1
def cmp : List (List UInt8) → List (List UInt8) → Int
 | [], [] => 0
 | [], _ :: _ => -1
 | _ :: _, [] => 1
 | a :: x, b :: y => if cmp1 a b = 0 then cmp x y else cmp1 a b
theorem cmp1_zero (a b) : cmp1 a b = 0 ↔ a = b := by
 unfold cmp1
 constructor
 ·intro h
  split at h
  ·cases h
  ·split at h
   ·assumption
   ·cases h
 ·rintro rfl
  rw [if_neg (by rw [bless_irrefl]; simp), if_pos rfl]
theorem cmp1_neg (a b) : cmp1 a b < 0 ↔ Op.bytesLess a b = true := by
 unfold cmp1
 constructor
 ·intro h
  split at h
  ·assumption
  ·split at h <;> omega
 ·intro h
  rw [if_pos h]; omega
theorem cmp_less : ∀ a b, decide (cmp a b < 0) = less a b
 | [], [] => by simp [cmp, less]
 | [], _ :: _ => by simp [cmp, less]
 | _ :: _, [] => by simp [cmp, less]
 | a :: x, b :: y => by
  unfold cmp less
  by_cases e : a = b
  ·rw [if_pos ((cmp1_zero a b).2 e), if_pos e]; exact cmp_less x y
  ·rw [if_neg (fun h => e ((cmp1_zero a b).1 h)), if_neg e]
   by_cases k : Op.bytesLess a b = true
   ·rw [k, decide_eq_true ((cmp1_neg a b).2 k)]
   ·rw [decide_eq_false (fun h => k ((cmp1_neg a b).1 h))]
    simpa using k
theorem less_irrefl : ∀ a, less a a = false
 | [] => rfl
 | a :: x => by rw [less, if_pos rfl]; exact less_irrefl x
theorem less_trans : ∀ a b c, less a b = true → less b c = true → less a c = true
 | _, [], _, h, _ => by simp [less] at h
 | _, _ :: _, [], _, h => by simp [less] at h
 | [], _ :: _, _ :: _, _, _ => rfl
 | a :: x, b :: y, c :: z, h, k => by
  unfold less at h k ⊢
  by_cases e1 : a = b
  ·subst e1
   rw [if_pos rfl] at h
   by_cases e2 : a = c
   ·rw [if_pos e2] at k ⊢
    exact less_trans x y z h k
   ·rw [if_neg e2] at k ⊢
    exact k
  ·rw [if_neg e1] at h
   by_cases e2 : b = c
   ·subst e2
    rw [if_neg e1]; exact h
   ·rw [if_neg e2] at k
    have := bless_trans a b c h k
    by_cases e3 : a = c
    ·subst e3; rw [bless_irrefl] at this; cases this
    ·rw [if_neg e3]; exact this
theorem less_total : ∀ a b, a ≠ b → less a b = true ∨ less b a = true
 | [], [], h => absurd rfl h
 | [], _ :: _, _ => .inl rfl
 | _ :: _, [], _ => .inr rfl
 | a :: x, b :: y, h => by
  unfold less
  by_cases e : a = b
  ·subst e
   rw [if_pos rfl, if_pos rfl]
   exact less_total x y (fun e => h (by rw [e]))
  ·rw [if_neg e, if_neg (Ne.symm e)]
   exact bless_total a b e
def below (l r : List (List UInt8)) : Bool := decide (r.length < l.length) && decide (l.take r.length = r)
theorem below_iff (l r) : below l r = true ↔ ∃ x y, l = r ++ x :: y := by
 simp only [below, Bool.and_eq_true, decide_eq_true_eq]
 constructor
 ·rintro ⟨h1, h2⟩
  refine ⟨l[r.length], l.drop (r.length + 1), ?_⟩
  conv => lhs; rw [← List.take_append_drop r.length l, h2, List.drop_eq_getElem_cons h1]
 ·rintro ⟨x, y, rfl⟩
  simp
theorem less_append : ∀ (r : List (List UInt8)) x y, less r (r ++ x :: y) = true
 | [], _, _ => rfl
 | a :: r, x, y => by rw [List.cons_append, less, if_pos rfl]; exact less_append r x y
theorem below_less {a b} (h : below a b = true) : less b a = true ∧ below b a = false := by
 obtain ⟨x, y, rfl⟩ := (below_iff a b).1 h
 refine ⟨less_append _ _ _, ?_⟩
 simp [below]; omega
theorem between : ∀ (b c x y), less b c = true → less c (b ++ x :: y) = true → below c b = true
 | [], [], x, y, h, k => by simp [less] at h
 | [], c :: z, x, y, h, k => by simp [below]
 | b :: r, [], x, y, h, k => by simp [less] at h
 | b :: r, c :: z, x, y, h, k => by
  by_cases e : b = c
  ·subst e
   rw [less, if_pos rfl] at h
   rw [List.cons_append, less, if_pos rfl] at k
   have := between r z x y h k
   obtain ⟨u, v, rfl⟩ := (below_iff z r).1 this
   exact (below_iff _ _).2 ⟨u, v, by simp⟩
  ·rw [less, if_neg e] at h
   rw [List.cons_append, less, if_neg (Ne.symm e)] at k
   rw [bless_asymm _ _ h] at k; cases k
def parts : List UInt8 → List (List UInt8)
 | [] => [[]]
 | b :: r => if b = 47 then [] :: parts r else match parts r with | [] => [[b]] | h :: t => (b :: h) :: t
def pc (pre r : List UInt8) : List (List UInt8) := match parts r with | [] => [pre] | h :: t => (pre ++ h) :: t
theorem parts_ne : ∀ l, parts l ≠ []
 | [] => by simp [parts]
 | b :: r => by unfold parts; split <;> (try split) <;> simp
theorem pc_nil (r) : pc [] r = parts r := by
 unfold pc
 split
 ·rename_i h; exact absurd h (parts_ne r)
 ·rename_i h; rw [h]; rfl
theorem pc_byte (pre b r) (h : b ≠ 47) : pc pre (b :: r) = pc (pre ++ [b]) r := by
 unfold pc
 rw [parts, if_neg h]
 cases hp : parts r with
 | nil => exact absurd hp (parts_ne r)
 | cons x t => simp
theorem pc_chunk : ∀ (c pre r : List UInt8), (∀ b ∈ c, b ≠ 47) → pc pre (c ++ r) = pc (pre ++ c) r
 | [], pre, r, _ => by simp
 | b :: c, pre, r, h => by
  rw [List.cons_append, pc_byte _ _ _ (h b (by simp)), pc_chunk c _ r (fun x hx => h x (by simp [hx]))]
  simp
theorem parts_slash (r) : parts (47 :: r) = [] :: parts r := by simp [parts]
theorem parts_flat : ∀ (l : List (List UInt8)) (t : List UInt8), (∀ n ∈ l, ∀ b ∈ n, b ≠ 47) → l ≠ [] → ∀ ts, parts t = [] :: ts → parts (l.flatMap (fun n => 47 :: n) ++ t) = [] :: (l.dropLast ++ (l.getLast?.getD []) :: ts)
 | [], _, _, h, _, _ => absurd rfl h
 | [n], t, h, _, ts, ht => by
  rw [List.flatMap_cons, List.flatMap_nil, List.append_nil, List.cons_append, parts_slash, ← pc_nil, pc_chunk n [] t (h n (by simp)), List.nil_append, pc, ht]
  simp
 | n :: m :: l, t, h, _, ts, ht => by
  have ih := parts_flat (m :: l) t (fun x hx => h x (by simp [hx])) (by simp) ts ht
  rw [List.flatMap_cons, List.cons_append, List.cons_append, parts_slash, List.append_assoc, ← pc_nil, pc_chunk n [] _ (h n (by simp)), List.nil_append, pc, ih]
  simp
theorem last_join {α : Type} (l : List α) (d : α) (h : l ≠ []) : l.dropLast ++ [l.getLast?.getD d] = l := by
 rw [List.getLast?_eq_some_getLast h, Option.getD_some, List.dropLast_concat_getLast]
def join (l : List (List UInt8)) : List UInt8 := if l = [] then [47] else l.flatMap (fun n => 47 :: n)
theorem parts_join {l : List (List UInt8)} (h : ∀ n ∈ l, valid n = 0) (h0 : l ≠ []) : parts (join l) = [] :: l ∧ parts (join l ++ [47]) = [] :: (l ++ [[]]) := by
 have hb : ∀ n ∈ l, ∀ b ∈ n, b ≠ 47 := fun n hn => (valid_zero (h n hn)).2.2.2.2
 rw [join, if_neg h0]
 constructor
 ·have := parts_flat l [] hb h0 [] rfl
  rw [List.append_nil, last_join l [] h0] at this
  exact this
 ·have := parts_flat l [47] hb h0 [[]] rfl
  rw [show l.dropLast ++ l.getLast?.getD [] :: [[]] = (l.dropLast ++ [l.getLast?.getD []]) ++ [[]] by simp, last_join l [] h0] at this
  exact this
theorem join_inj {l m : List (List UInt8)} (h : ∀ n ∈ l, valid n = 0) (k : ∀ n ∈ m, valid n = 0) (e : join l = join m) : l = m := by
 by_cases h0 : l = []
 ·by_cases k0 : m = []
  ·rw [h0, k0]
  ·exfalso
   have := (parts_join k k0).1
   rw [← e, h0] at this
   have e2 : [([] : List UInt8), []] = [] :: m := by rw [← this]; decide
   injection e2 with _ e3
   exact (valid_zero (k [] (by rw [← e3]; simp))).2.1 rfl
 ·by_cases k0 : m = []
  ·exfalso
   have := (parts_join h h0).1
   rw [e, k0] at this
   have e2 : [([] : List UInt8), []] = [] :: l := by rw [← this]; decide
   injection e2 with _ e3
   exact (valid_zero (h [] (by rw [← e3]; simp))).2.1 rfl
  ·have a := (parts_join h h0).1
   have b := (parts_join k k0).1
   rw [e, b] at a
   injection a with _ a
   exact a.symm
theorem decode_pass (s : ByteArray) (pos : Nat) (h : pos < s.size) :
    pos + (Utf8.decode s pos).2 ≤ s.size ∧ 1 ≤ (Utf8.decode s pos).2 ∧
    (((s[pos]'h).toNat < 128 ∧ (Utf8.decode s pos).1 = (s[pos]'h).toNat ∧ (Utf8.decode s pos).2 = 1) ∨
     (128 ≤ (Utf8.decode s pos).1 ∧ ∀ j, j < (Utf8.decode s pos).2 → ∃ hj : pos + j < s.size, 128 ≤ (s[pos + j]'hj).toNat)) := by
  by_cases ha : (s[pos]'h).toNat < 128
  · rw [decode_ascii s pos h ha]
    exact ⟨by simp only; omega, Nat.le_refl _, .inl ⟨ha, rfl, rfl⟩⟩
  · have hh := decode_high s pos h (by omega)
    have hg : ∀ k, (hk : pos + k < s.size) → s.get! (pos + k) = s[pos + k]'hk := fun k hk => by
      simp [ByteArray.get!, getElem!_pos, hk]
      rfl
    have key : (Utf8.decode s pos).2 = 1 ∨ ((Utf8.decode s pos).2 = 2 ∧ pos + 1 < s.size ∧ (s.get! (pos + 1)).toNat / 64 = 2) ∨
        ((Utf8.decode s pos).2 = 3 ∧ (pos + 1 < s.size ∧ (s.get! (pos + 1)).toNat / 64 = 2) ∧ pos + 2 < s.size ∧ (s.get! (pos + 2)).toNat / 64 = 2) ∨
        ((Utf8.decode s pos).2 = 4 ∧ ((pos + 1 < s.size ∧ (s.get! (pos + 1)).toNat / 64 = 2) ∧ pos + 2 < s.size ∧ (s.get! (pos + 2)).toNat / 64 = 2) ∧ pos + 3 < s.size ∧ (s.get! (pos + 3)).toNat / 64 = 2) := by
      clear hg hh
      simp only [Utf8.decode]
      repeat' split
      all_goals simp_all
    have one : ∀ k, (hk : pos + k < s.size) → (s.get! (pos + k)).toNat / 64 = 2 → 128 ≤ (s[pos + k]'hk).toNat := fun k hk e => by
      rw [hg k hk] at e; omega
    rcases key with k | ⟨k, a, a'⟩ | ⟨k, ⟨a, a'⟩, b, b'⟩ | ⟨k, ⟨⟨a, a'⟩, b, b'⟩, c, c'⟩
    · refine ⟨by omega, hh.2, .inr ⟨hh.1, fun j hj => ?_⟩⟩
      obtain rfl : j = 0 := by omega
      exact ⟨h, by simpa using Nat.le_of_not_lt ha⟩
    · refine ⟨by omega, hh.2, .inr ⟨hh.1, fun j hj => ?_⟩⟩
      match j, (by omega : j < 2) with
      | 0, _ => exact ⟨h, by simpa using Nat.le_of_not_lt ha⟩
      | 1, _ => exact ⟨a, one 1 a a'⟩
    · refine ⟨by omega, hh.2, .inr ⟨hh.1, fun j hj => ?_⟩⟩
      match j, (by omega : j < 3) with
      | 0, _ => exact ⟨h, by simpa using Nat.le_of_not_lt ha⟩
      | 1, _ => exact ⟨a, one 1 a a'⟩
      | 2, _ => exact ⟨b, one 2 b b'⟩
    · refine ⟨by omega, hh.2, .inr ⟨hh.1, fun j hj => ?_⟩⟩
      match j, (by omega : j < 4) with
      | 0, _ => exact ⟨h, by simpa using Nat.le_of_not_lt ha⟩
      | 1, _ => exact ⟨a, one 1 a a'⟩
      | 2, _ => exact ⟨b, one 2 b b'⟩
      | 3, _ => exact ⟨c, one 3 c c'⟩
theorem letter (s : ByteArray) (pos : Nat) (h : pos < s.size) : ∃ c : List UInt8, s.toList.drop pos = c ++ s.toList.drop (pos + (Utf8.decode s pos).2) ∧ c.length = (Utf8.decode s pos).2 ∧ 1 ≤ (Utf8.decode s pos).2 ∧ pos + (Utf8.decode s pos).2 ≤ s.size ∧
  ((∃ b, c = [b] ∧ ((Utf8.decode s pos).1 : Int) = b.toNat) ∨ (128 ≤ (Utf8.decode s pos).1 ∧ ∀ b ∈ c, 128 ≤ b.toNat)) := by
 obtain ⟨h1, h2, h3⟩ := decode_pass s pos h
 have hl : s.toList.length = s.size := by rw [ByteArray.toList_eq]; rfl
 have hge : ∀ k, (hk : k < s.size) → s.toList[k]'(by omega) = s[k]'hk := fun k hk => by
  have e := ByteArray.toList_eq (bs := s)
  simp only [e]; rfl
 generalize hd : Utf8.decode s pos = d at *
 refine ⟨(s.toList.drop pos).take d.2, ?_, by rw [List.length_take, List.length_drop, hl]; omega, h2, h1, ?_⟩
 ·rw [← List.drop_drop, List.take_append_drop]
 ·rcases h3 with ⟨a, b, c⟩ | ⟨a, b⟩
  ·refine .inl ⟨s[pos]'h, ?_, by rw [b]⟩
   rw [c, List.drop_eq_getElem_cons (by omega : pos < s.toList.length)]
   simp [hge pos h]
  ·refine .inr ⟨a, fun x hx => ?_⟩
   obtain ⟨j, hj, rfl⟩ := List.getElem_of_mem hx
   simp only [List.length_take, List.length_drop, hl] at hj
   obtain ⟨hj', hb⟩ := b j (by omega)
   simp only [List.getElem_take, List.getElem_drop]
   rw [hge (pos + j) hj']
   exact hb
end Go.Proofs.YtbmeapehgajbkaaGreat.Nam

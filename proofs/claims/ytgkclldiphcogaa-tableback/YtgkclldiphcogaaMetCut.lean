/- Frames within a part of an image, as pure functions: what stands between two places is read as if it stood alone. -/
import Derived.Test.YtgkclldiphcogaaMetJoin
namespace Go.Proofs.Ytgkclldiphcogaa.Mtr
set_option linter.unusedVariables false
open Lz (g pack unpack up)
open Crc (ent more)
open Cur (le by')
open Frm

theorem cut_length {Im : List Int} {a b : Nat} (h : b ≤ Im.length) : ((Im.take b).drop a).length = b - a := by simp; omega
theorem g_cut {Im : List Int} {a b k : Nat} (hk : a + k < b) : g ((Im.take b).drop a) k = g Im (a + k) := by
  rw [Lz.g_drop, Lz.g_take _ _ _ hk]
theorem body_cut {Im : List Int} {a b k sz : Nat} (h : a + k + 3 + sz ≤ b) : body ((Im.take b).drop a) k sz = body Im (a + k) sz := by
  unfold body
  rw [List.drop_drop, List.drop_take, List.take_take, show a + (k + 3) = a + k + 3 by omega]
  congr 1
  omega
theorem spot_cut {Im : List Int} {a b : Nat} (hb : b ≤ Im.length) (k : Nat) (n : Int) (sz : Nat) : spot ((Im.take b).drop a) k = some (n, sz) ↔ spot Im ((a + k : Nat) : Int) = some (n, sz) ∧ a + k + 3 + sz ≤ b := by
  have hl := cut_length (a := a) hb
  constructor
  · intro h
    obtain ⟨s1, s2, s3, s4, s5⟩ := spot_some h
    rw [Int.toNat_natCast] at s2 s3
    rw [hl] at s2
    refine ⟨?_, by omega⟩
    unfold spot at h ⊢
    rw [hl] at h
    simp only [Int.toNat_natCast] at h ⊢
    rw [if_neg (by omega)] at h ⊢
    have e0 := g_cut (Im := Im) (a := a) (b := b) (k := k) (by omega)
    have e1 := g_cut (Im := Im) (a := a) (b := b) (k := k + 1) (by omega)
    have e2 := g_cut (Im := Im) (a := a) (b := b) (k := k + 2) (by omega)
    rw [← Nat.add_assoc] at e1 e2
    have en : num ((Im.take b).drop a) k = num Im (a + k) := by unfold num; rw [e0, e1]
    rw [en, e0, e1, e2] at h
    by_cases h2 : (bsz (num Im (a + k))).2 = false ∨ g Im (a + k + 2) ≠ 255 - x8 (g Im (a + k)) (g Im (a + k + 1))
    · rw [if_pos h2] at h; simp at h
    · rw [if_neg h2] at h ⊢
      split at h
      · simp at h
      · rename_i h3
        rw [if_neg (by omega)]
        exact h
  · rintro ⟨h, hle⟩
    unfold spot at h ⊢
    rw [hl]
    simp only [Int.toNat_natCast] at h ⊢
    rw [if_neg (by omega)] at h ⊢
    have e0 := g_cut (Im := Im) (a := a) (b := b) (k := k) (by omega)
    have e1 := g_cut (Im := Im) (a := a) (b := b) (k := k + 1) (by omega)
    have e2 := g_cut (Im := Im) (a := a) (b := b) (k := k + 2) (by omega)
    rw [← Nat.add_assoc] at e1 e2
    have en : num ((Im.take b).drop a) k = num Im (a + k) := by unfold num; rw [e0, e1]
    rw [en, e0, e1, e2]
    by_cases h2 : (bsz (num Im (a + k))).2 = false ∨ g Im (a + k + 2) ≠ 255 - x8 (g Im (a + k)) (g Im (a + k + 1))
    · rw [if_pos h2] at h; simp at h
    · rw [if_neg h2] at h ⊢
      split at h
      · simp at h
      · rename_i h3
        have hsz : (bsz (num Im (a + k))).1.toNat = sz := by simp at h; exact h.2
        have hbd := (bsz_bd (num Im (a + k))).1
        rw [if_neg (by omega)]
        exact h
/-- What a frame within the part is. -/
theorem take_cut {Im : List Int} {a b : Nat} (hb : b ≤ Im.length) (k : Nat) :
    ((take ent ((Im.take b).drop a) k).2.2 = 0 → (take ent Im ((a + k : Nat) : Int)).2.2 = 0 ∧ (take ent Im ((a + k : Nat) : Int)).2.1 ≤ b ∧ (take ent Im ((a + k : Nat) : Int)).1 = (take ent ((Im.take b).drop a) k).1 ∧ (take ent Im ((a + k : Nat) : Int)).2.1 = a + (take ent ((Im.take b).drop a) k).2.1) ∧
    ((take ent Im ((a + k : Nat) : Int)).2.2 = 0 → (take ent Im ((a + k : Nat) : Int)).2.1 ≤ b → (take ent ((Im.take b).drop a) k).2.2 = 0) := by
  have key : ∀ n sz, spot ((Im.take b).drop a) k = some (n, sz) → spot Im ((a + k : Nat) : Int) = some (n, sz) → a + k + 3 + sz ≤ b →
      (take ent ((Im.take b).drop a) k).2.2 = (take ent Im ((a + k : Nat) : Int)).2.2 ∧ ((take ent Im ((a + k : Nat) : Int)).2.2 = 0 → (take ent Im ((a + k : Nat) : Int)).2.1 ≤ b ∧ (take ent Im ((a + k : Nat) : Int)).1 = (take ent ((Im.take b).drop a) k).1 ∧ (take ent Im ((a + k : Nat) : Int)).2.1 = a + (take ent ((Im.take b).drop a) k).2.1) := by
    intro n sz h1 h2 h3
    unfold take
    rw [h1, h2]
    simp only [Int.toNat_natCast, body_cut h3]
    by_cases hz : sz = 0
    · simp only [hz, if_true]
      exact ⟨by trivial, fun _ => ⟨by omega, by trivial, by omega⟩⟩
    · simp only [hz, if_false]
      by_cases hp : plain ent n (body Im (a + k) sz) = []
      · simp only [hp, if_true]
        exact ⟨by trivial, fun h => by simp at h⟩
      · simp only [hp, if_false]
        exact ⟨by trivial, fun _ => ⟨by omega, by trivial, by omega⟩⟩
  constructor
  · intro h
    cases hs : spot ((Im.take b).drop a) k with
    | none => unfold take at h; rw [hs] at h; simp at h
    | some q =>
      obtain ⟨n, sz⟩ := q
      obtain ⟨h2, h3⟩ := (spot_cut hb k n sz).1 hs
      obtain ⟨k1, k2⟩ := key n sz hs h2 h3
      have h0 := k1.symm.trans h
      exact ⟨h0, k2 h0⟩
  · intro h hle
    cases hs : spot Im ((a + k : Nat) : Int) with
    | none => unfold take at h; rw [hs] at h; simp at h
    | some q =>
      obtain ⟨n, sz⟩ := q
      have h3 : a + k + 3 + sz ≤ b := by
        unfold take at h hle
        rw [hs] at h hle
        simp only at h hle
        split at hle
        · rename_i hz
          simp only at hle; omega
        · rename_i hz
          rw [if_neg hz] at h
          split at hle
          · rename_i hp; rw [if_pos hp] at h; simp at h
          · simp only at hle; omega
      have h2 := (spot_cut (a := a) hb k n sz).2 ⟨hs, h3⟩
      exact (key n sz h2 hs h3).1.trans h
theorem skip_cut {Im : List Int} {a b : Nat} (hb : b ≤ Im.length) (k : Nat) :
    ((skip ((Im.take b).drop a) k).2 = 0 → (skip Im ((a + k : Nat) : Int)).2 = 0 ∧ (skip Im ((a + k : Nat) : Int)).1 ≤ b ∧ (skip Im ((a + k : Nat) : Int)).1 = a + (skip ((Im.take b).drop a) k).1) ∧
    ((skip Im ((a + k : Nat) : Int)).2 = 0 → (skip Im ((a + k : Nat) : Int)).1 ≤ b → (skip ((Im.take b).drop a) k).2 = 0) := by
  constructor
  · intro h
    cases hs : spot ((Im.take b).drop a) k with
    | none => unfold skip at h; rw [hs] at h; simp at h
    | some q =>
      obtain ⟨n, sz⟩ := q
      obtain ⟨h2, h3⟩ := (spot_cut hb k n sz).1 hs
      unfold skip; rw [hs, h2]
      exact ⟨rfl, by simp only []; omega, by simp only []; omega⟩
  · intro h hle
    cases hs : spot Im ((a + k : Nat) : Int) with
    | none => unfold skip at h; rw [hs] at h; simp at h
    | some q =>
      obtain ⟨n, sz⟩ := q
      unfold skip at hle
      rw [hs] at hle
      simp only at hle
      have h2 := (spot_cut (a := a) hb k n sz).2 ⟨hs, by omega⟩
      unfold skip; rw [h2]
/-- What a place holds, as the reference tells it. -/
def hold (X : List Int) (k : Int) : List Int × Int × Int := if (take ent X k).2.2 ≠ 0 ∨ (take ent X k).1 = [] then ([], 0, 2) else ((take ent X k).1, (take ent X k).2.1, 0)
theorem hold_far {X : List Int} {k : Int} (h : (X.length : Int) < k) : hold X k = ([], 0, 2) := by
  unfold hold
  have : take ent X k = ([], 0, 2) := by
    unfold take spot
    rw [if_pos (.inr (by omega))]
  rw [this]; simp
theorem hold_cut {Im : List Int} {a b : Nat} (hb : b ≤ Im.length) (k : Nat) :
    hold ((Im.take b).drop a) k = if (take ent Im ((a + k : Nat) : Int)).2.2 ≠ 0 ∨ (b : Int) < (take ent Im ((a + k : Nat) : Int)).2.1 ∨ (take ent Im ((a + k : Nat) : Int)).1 = [] then ([], 0, 2) else ((take ent Im ((a + k : Nat) : Int)).1, (take ent Im ((a + k : Nat) : Int)).2.1 - a, 0) := by
  obtain ⟨h1, h2⟩ := take_cut (a := a) hb k
  unfold hold
  by_cases h : (take ent ((Im.take b).drop a) k).2.2 = 0
  · obtain ⟨e1, e2, e3, e4⟩ := h1 h
    by_cases hn : (take ent ((Im.take b).drop a) k).1 = []
    · rw [if_pos (.inr hn), if_pos (.inr (.inr (by rw [e3]; exact hn)))]
    · rw [if_neg (by simp [h, hn]), if_neg (fun hx => by
        rcases hx with hx | hx | hx
        · exact hx e1
        · omega
        · exact hn (by rw [← e3]; exact hx)), e3, e4]
      congr 2
      omega
  · rw [if_pos (.inl h)]
    by_cases h3 : (take ent Im ((a + k : Nat) : Int)).2.2 = 0
    · have h4 : (b : Int) < (take ent Im ((a + k : Nat) : Int)).2.1 := by
        have := h2 h3
        omega
      rw [if_pos (.inr (.inl h4))]
    · rw [if_pos (.inl h3)]
/-- The part that a frame has, told by what its place holds. -/
theorem pt_hold {X : List Int} {k u n : Nat} (hu : u < 256) (hn : 0 < n) : pt ent X (256 * (k : Int) + u) n = if (hold X k).2.2 ≠ 0 ∨ (hold X k).1.length ≤ u then none
    else some (((hold X k).1.drop u).take n, if u + min n ((hold X k).1.length - u) = 128 then 256 * (hold X k).2.1 else 256 * (k : Int) + ((u + min n ((hold X k).1.length - u) : Nat) : Int)) := by
  have e1 : (256 * (k : Int) + u) / 256 = k := by omega
  have e2 : (256 * (k : Int) + u) % 256 = u := by omega
  unfold pt
  rw [e1, e2, Int.toNat_natCast]
  unfold hold
  by_cases h : (take ent X k).2.2 = 0
  · by_cases hl : (take ent X k).1 = []
    · rw [if_pos (.inr (by rw [hl]; simp)), if_pos (.inl (by rw [if_pos (.inr hl)]; simp))]
    · rw [if_neg (show ¬ ((take ent X k).2.2 ≠ 0 ∨ (take ent X k).1 = []) by simp [h, hl])]
      simp only
      by_cases hk : (take ent X k).1.length ≤ u
      · rw [if_pos (.inr (by omega)), if_pos (.inr hk)]
      · have hA : ¬ ((take ent X k).2.2 ≠ 0 ∨ ((take ent X k).1.length : Int) ≤ (u : Int)) := fun hx => by
          rcases hx with hx | hx
          · exact hx h
          · omega
        have hB : ¬ ((0 : Int) ≠ 0 ∨ (take ent X k).1.length ≤ u) := fun hx => by
          rcases hx with hx | hx
          · exact hx rfl
          · exact hk hx
        rw [if_neg hA, if_neg hB]
        generalize min n ((take ent X k).1.length - u) = mm
        congr 2
        by_cases h8 : u + mm = 128
        · rw [if_pos (show (u : Int) + (mm : Nat) = 128 by omega), if_pos h8]
        · rw [if_neg (show ¬ (u : Int) + (mm : Nat) = 128 by omega), if_neg h8]; omega
  · rw [if_pos (.inl h), if_pos (.inl (by rw [if_pos (.inl h)]; simp))]
theorem hold_len {X : List Int} (h : Bytes X) (k : Int) : (hold X k).1.length ≤ 128 := by
  unfold hold
  split
  · simp
  · exact Mtr.take_len ent h k
theorem hold_bd (X : List Int) (k : Int) : (hold X k).2.2 = 0 → 0 ≤ k ∧ k < (hold X k).2.1 ∧ (hold X k).2.1 ≤ X.length := by
  intro h
  unfold hold at h ⊢
  split
  · rename_i hc; rw [if_pos hc] at h; simp at h
  · rename_i hc
    exact Mtr.take_next (Decidable.not_not.1 (not_or.1 hc).1)
end Go.Proofs.Ytgkclldiphcogaa.Mtr

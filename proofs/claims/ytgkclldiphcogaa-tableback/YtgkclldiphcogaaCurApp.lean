/- Cursors as lists alone: what was written is read as it was; what is read without an error is what stood there. -/
import Derived.Test.YtgkclldiphcogaaCurNew
namespace Go.Proofs.Ytgkclldiphcogaa.Cap
set_option linter.unusedVariables false
open Cur
open Lz (g)

theorem by_le : ∀ (n : Nat) (zs : List Int), Bytes zs → zs.length = n → by' n (le zs) = zs
  | 0, [], _, _ => rfl
  | 0, _ :: _, _, h => by simp at h
  | n + 1, [], _, h => by simp at h
  | n + 1, x :: xs, hb, h => by
    have hx := hb x (by simp)
    have ih := by_le n xs (fun y hy => hb y (List.mem_cons_of_mem _ hy)) (by simpa using h)
    simp only [by', le]
    rw [show (x + 256 * le xs) % 256 = x by omega, show (x + 256 * le xs) / 256 = le xs by omega, ih]
theorem ps_app (n : Nat) (a r : List Int) (h : a.length = n) : ps n (a ++ r, 0) = (r, 0) := by
  unfold ps; rw [if_neg (by simp; omega)]; simp [← h]
theorem pa_app (n : Nat) (a r : List Int) (h : a.length = n) : pa n (a ++ r, 0) = a := by
  unfold pa; rw [if_neg (by simp; omega)]; simp [← h]
theorem num_app (m : Int) (n : Nat) (hm : m = (n : Int)) (x : Int) (r : List Int) (h1 : 1 ≤ n) (h4 : n ≤ 4) (h0 : 0 ≤ x) (h : x < 256 ^ n) : numS m (by' n x ++ r, 0) = (r, 0) ∧ numA m (by' n x ++ r, 0) = x := by
  subst hm
  unfold numS numA
  rw [if_pos (by omega), if_pos (by omega), Int.toNat_natCast, ps_app _ _ _ (by_length n x), pa_app _ _ _ (by_length n x), le_by n x h0 h]
  exact ⟨rfl, rfl⟩
theorem txt_app (b r : List Int) (h : b.length ≤ 255) : txtS ((b.length : Int) :: b ++ r, 0) = (r, 0) ∧ txtA ((b.length : Int) :: b ++ r, 0) = b := by
  have h1 := num_app 1 1 rfl b.length (b ++ r) (by omega) (by omega) (by omega) (by omega)
  have e : by' 1 (b.length : Int) = [(b.length : Int)] := by simp [by']; omega
  rw [e] at h1
  have e2 : ((b.length : Int) :: b ++ r, (0 : Int)) = ([(b.length : Int)] ++ (b ++ r), 0) := rfl
  rw [e2]
  unfold txtS txtA
  rw [h1.1, h1.2, Int.toNat_natCast, ps_app _ _ _ rfl, pa_app _ _ _ rfl]
  exact ⟨rfl, rfl⟩
theorem str_sb (s : ByteArray) : strOfNums (sb s) = s := by
  unfold strOfNums sb
  rw [List.map_map]
  have : ((fun n : Int => UInt8.ofNat n.toNat) ∘ fun b : UInt8 => (b.toNat : Int)) = id := by
    funext b; simp
  rw [this, List.map_id]
theorem sb_str {zs : List Int} (h : Bytes zs) : sb (strOfNums zs) = zs := by
  unfold sb
  rw [strOfNums_data, List.map_map]
  have : ∀ x ∈ zs, ((fun b : UInt8 => (b.toNat : Int)) ∘ fun n : Int => UInt8.ofNat n.toNat) x = x := fun x hx => by
    have := h x hx
    simp only [Function.comp, UInt8.toNat_ofNat']
    omega
  rw [List.map_congr_left this, List.map_id']
theorem num_ok (m : Int) (n : Nat) (hm : m = (n : Int)) {s : St} (h1 : 1 ≤ n) (h4 : n ≤ 4) (h : (numS m s).2 = 0) (hb : Bytes s.1) : s.2 = 0 ∧ s.1 = by' n (numA m s) ++ (numS m s).1 := by
  subst hm
  unfold numS numA at *
  rw [if_pos (by omega)] at h
  rw [if_pos (by omega), if_pos (by omega)]
  rw [Int.toNat_natCast] at *
  unfold ps pa at *
  by_cases hl : s.1.length < n
  · rw [if_pos hl] at h
    unfold fl at h
    split at h
    · simp at h
    · contradiction
  · rw [if_neg hl] at h
    rw [if_neg hl, if_neg hl, by_le n _ (hb.take n) (by simp; omega)]
    exact ⟨h, (List.take_append_drop n s.1).symm⟩
theorem num_bytes {n : Int} {s : St} (hb : Bytes s.1) : Bytes (numS n s).1 := by
  unfold numS ps fl
  repeat' split
  all_goals first | exact Bytes.nil | exact hb | exact hb.drop _
theorem txt_ok {s : St} (h : (txtS s).2 = 0) (hb : Bytes s.1) : s.2 = 0 ∧ s.1 = ((txtA s).length : Int) :: txtA s ++ (txtS s).1 := by
  unfold txtS txtA at *
  have hn : (numS 1 s).2 = 0 := by
    unfold ps at h
    split at h
    · unfold fl at h; split at h; (simp at h); contradiction
    · exact h
  have h1 := num_ok 1 1 rfl (by omega) (by omega) hn hb
  have hq := numA_bound 1 s hb
  refine ⟨h1.1, ?_⟩
  unfold ps pa at *
  by_cases hl : (numS 1 s).1.length < (numA 1 s).toNat
  · rw [if_pos hl] at h
    unfold fl at h
    split at h
    · simp at h
    · contradiction
  · rw [if_neg hl, if_neg hl]
    have e : ((List.take (numA 1 s).toNat (numS 1 s).1).length : Int) = numA 1 s := by simp; omega
    have h2 : s.1 = by' 1 (numA 1 s) ++ (numS 1 s).1 := h1.2
    have e3 : by' 1 (numA 1 s) = [numA 1 s] := by
      have h3 : by' 1 (numA 1 s) = s.1.take 1 := by rw [h2]; simp [by_length]
      have h4 : le (by' 1 (numA 1 s)) = le (s.1.take 1) := by rw [h3]
      unfold numA at hq ⊢
      rw [if_pos (by omega)] at hq ⊢
      have hb1 : le (pa (1 : Int).toNat s) < 256 := by
        have : Bytes (pa (1 : Int).toNat s) := by unfold pa; split; exact Bytes.nil; exact hb.take _
        have h5 := (le_bound this).2
        have h6 : (pa (1 : Int).toNat s).length ≤ 1 := by unfold pa; split; simp; simp; omega
        have h7 := pow256 h6
        omega
      simp only [by']
      congr 1
      omega
    rw [e]
    conv => lhs; rw [h2, e3]
    simp
end Go.Proofs.Ytgkclldiphcogaa.Cap

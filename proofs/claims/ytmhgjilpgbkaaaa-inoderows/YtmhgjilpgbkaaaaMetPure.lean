/- Rows of bytes in frames, as pure functions: the frames of what was added, refs, what is read at a ref. -/
import Derived.Test.YtmhgjilpgbkaaaaFrmRound
import Derived.Test.YtmhgjilpgbkaaaaFrmTake
namespace Go.Proofs.Ytmhgjilpgbkaaaa.Mtr
set_option linter.unusedVariables false
open Lz (g pack unpack up)
open Crc (ent more)
open Cur (le by')
open Frm

/-- The block k of a row. -/
def blk (z : List Int) (k : Nat) : List Int := (z.drop (128 * k)).take 128
theorem blk_length (z : List Int) (k : Nat) : (blk z k).length = min 128 (z.length - 128 * k) := by simp [blk]
theorem blk_le (z : List Int) (k : Nat) : (blk z k).length ≤ 128 := by rw [blk_length]; omega
theorem blk_bytes {z : List Int} (h : Bytes z) (k : Nat) : Bytes (blk z k) := (h.drop _).take _
theorem blk_append (z y : List Int) (k : Nat) (h : 128 * (k + 1) ≤ z.length) : blk (z ++ y) k = blk z k := by
  unfold blk
  rw [List.drop_append_of_le_length (by omega), List.take_append_of_le_length (by simp; omega)]
/-- The frames of the first k blocks. -/
def fr (T : Nat → Nat) (z : List Int) : Nat → List Int
  | 0 => []
  | k + 1 => fr T z k ++ put T (blk z k)
theorem fr_zero (T : Nat → Nat) (z : List Int) : fr T z 0 = [] := rfl
theorem fr_succ (T : Nat → Nat) (z : List Int) (k : Nat) : fr T z (k + 1) = fr T z k ++ put T (blk z k) := rfl
theorem fr_append (T : Nat → Nat) (z y : List Int) : ∀ k, 128 * k ≤ z.length → fr T (z ++ y) k = fr T z k
  | 0, _ => rfl
  | k + 1, h => by rw [fr_succ, fr_succ, fr_append T z y k (by omega), blk_append z y k h]
theorem fr_split (T : Nat → Nat) (z : List Int) (j : Nat) : ∀ k, j < k → ∃ Z, fr T z k = fr T z j ++ (put T (blk z j) ++ Z)
  | 0, h => by omega
  | k + 1, h => by
    by_cases e : j = k
    · subst e; exact ⟨[], by rw [fr_succ, List.append_nil]⟩
    · obtain ⟨Z, hZ⟩ := fr_split T z j k (by omega)
      exact ⟨Z ++ put T (blk z k), by rw [fr_succ, hZ]; simp [List.append_assoc]⟩
theorem fr_length (T : Nat → Nat) (z : List Int) : ∀ k, (fr T z k).length ≤ 135 * k
  | 0 => by simp [fr]
  | k + 1 => by
    have := fr_length T z k
    have := (put_length (T := T) (blk_le z k)).2.2
    rw [fr_succ, List.length_append]; omega
theorem fr_lt (T : Nat → Nat) (z : List Int) (k : Nat) : (fr T z k).length + 3 ≤ (fr T z (k + 1)).length := by
  have := (put_length (T := T) (blk_le z k)).1
  rw [fr_succ, List.length_append]; omega
theorem fr_bytes (T : Nat → Nat) {z : List Int} (h : Bytes z) : ∀ k, Bytes (fr T z k)
  | 0 => Bytes.nil
  | k + 1 => (fr_bytes T h k).append (put_bytes (blk_bytes h k))
/-- What is not framed yet. -/
def rest (z : List Int) : List Int := z.drop (128 * (z.length / 128))
theorem rest_length (z : List Int) : (rest z).length = z.length % 128 := by unfold rest; rw [List.length_drop]; omega
theorem rest_blk (z : List Int) : blk z (z.length / 128) = rest z := by
  have := rest_length z
  unfold blk; rw [List.take_of_length_le]
  · rfl
  · unfold rest at this; omega
/-- The frames of all. -/
def done (T : Nat → Nat) (z : List Int) : List Int := fr T z ((z.length + 127) / 128)
theorem done_full (T : Nat → Nat) {z : List Int} (h : rest z = []) : done T z = fr T z (z.length / 128) := by
  have h1 := rest_length z
  rw [h] at h1
  simp at h1
  unfold done; rw [show (z.length + 127) / 128 = z.length / 128 by omega]
theorem done_part (T : Nat → Nat) {z : List Int} (h : rest z ≠ []) : done T z = fr T z (z.length / 128) ++ put T (rest z) := by
  have h1 := rest_length z
  have h2 : 0 < (rest z).length := List.length_pos_iff.2 h
  unfold done; rw [show (z.length + 127) / 128 = z.length / 128 + 1 by omega, fr_succ, rest_blk]
theorem done_bytes (T : Nat → Nat) {z : List Int} (h : Bytes z) : Bytes (done T z) := fr_bytes T h _
theorem done_length (T : Nat → Nat) (z : List Int) : (done T z).length ≤ 135 * ((z.length + 127) / 128) := fr_length T z _
/-- The ref of the byte j. -/
def rf (T : Nat → Nat) (z : List Int) (j : Nat) : Int := 256 * ((fr T z (j / 128)).length : Nat) + ((j % 128 : Nat) : Int)
theorem rf_bd (T : Nat → Nat) (z : List Int) (j : Nat) : 0 ≤ rf T z j ∧ rf T z j ≤ 256 * (135 * (j / 128 : Nat)) + 128 := by
  have := fr_length T z (j / 128)
  unfold rf; omega
theorem rf_append (T : Nat → Nat) (z y : List Int) (j : Nat) (h : j ≤ z.length) : rf T (z ++ y) j = rf T z j := by
  unfold rf; rw [fr_append T z y _ (by omega)]
theorem rf_zero (T : Nat → Nat) (z : List Int) : rf T z 0 = 0 := rfl
/-- The part that the frame of a ref has, and the ref behind it. -/
def pt (T : Nat → Nat) (X : List Int) (ref : Int) (n : Nat) : Option (List Int × Int) :=
  if (take T X (ref / 256)).2.2 ≠ 0 ∨ ((take T X (ref / 256)).1.length : Int) ≤ ref % 256 then none
  else some (((take T X (ref / 256)).1.drop (ref % 256).toNat).take n,
    if ref % 256 + (min n ((take T X (ref / 256)).1.length - (ref % 256).toNat) : Nat) = 128 then 256 * (take T X (ref / 256)).2.1 else 256 * (ref / 256) + (ref % 256 + (min n ((take T X (ref / 256)).1.length - (ref % 256).toNat) : Nat)))
/-- What is read, n bytes from a ref on, and the ref behind it. -/
def rdF (T : Nat → Nat) (X : List Int) : Nat → Int → Nat → Option (List Int × Int)
  | 0, ref, n => if n = 0 then some ([], ref) else none
  | f + 1, ref, n => if n = 0 then some ([], ref) else
    match pt T X ref n with
    | none => none
    | some (p, nx) => (rdF T X f nx (n - p.length)).map fun q => (p ++ q.1, q.2)
theorem rdF_zero (T : Nat → Nat) (X : List Int) (f : Nat) (ref : Int) : rdF T X f ref 0 = some ([], ref) := by cases f <;> simp [rdF]
theorem rdF_none {T : Nat → Nat} {X : List Int} {f : Nat} {ref : Int} {n : Nat} (hn : n ≠ 0) (h : pt T X ref n = none) : rdF T X (f + 1) ref n = none := by simp [rdF, hn, h]
theorem rdF_some {T : Nat → Nat} {X : List Int} {f : Nat} {ref : Int} {n : Nat} {p : List Int} {nx : Int} (hn : n ≠ 0) (h : pt T X ref n = some (p, nx)) : rdF T X (f + 1) ref n = (rdF T X f nx (n - p.length)).map fun q => (p ++ q.1, q.2) := by simp [rdF, hn, h]
def rd (T : Nat → Nat) (X : List Int) (ref : Int) (n : Nat) : Option (List Int × Int) := rdF T X n ref n

theorem up_len (most : Int) (hm : 0 ≤ most) : ∀ (f : Nat) (b out : List Int), (∀ i, 0 ≤ g b i) → (out.length : Int) ≤ most → ((Lz.upF most f b out).1.length : Int) ≤ most
  | 0, b, out, _, h => h
  | f + 1, b, out, hb, h => by
    rw [Lz.upF_succ]
    have h0 := hb 0
    split
    · exact h
    · split
      · split
        · simpa using hm
        · split
          · simpa using hm
          · refine up_len most hm f _ _ (fun i => by rw [Lz.g_drop]; exact hb _) ?_
            simp; omega
      · split
        · simpa using hm
        · split
          · simpa using hm
          · refine up_len most hm f _ _ (fun i => by rw [Lz.g_drop]; exact hb _) ?_
            rw [Lz.cp_length]; omega
theorem take_len (T : Nat → Nat) {z : List Int} (h : Bytes z) (at' : Int) : (take T z at').1.length ≤ 128 := by
  unfold take
  split
  · simp
  · rename_i n sz hsp
    obtain ⟨s1, s2, s3, s4, s5⟩ := spot_some hsp
    have hb := bsz_bd n
    have hl := body_length s2
    have hbb : Bytes (body z at'.toNat sz) := (h.drop _).take _
    split
    · simp
    · split
      · simp
      · show (plain T n (body z at'.toNat sz)).length ≤ 128
        unfold plain
        split
        · simp
        · split
          · simp; omega
          · unfold Lz.unpack Lz.up
            rw [if_neg (by omega)]
            have := up_len 128 (by omega) ((body z at'.toNat sz).drop 4).length ((body z at'.toNat sz).drop 4) [] (fun i => ((hbb.drop 4).g i).1) (by simp)
            omega
theorem take_next {T : Nat → Nat} {z : List Int} {at' : Int} (h : (take T z at').2.2 = 0) : 0 ≤ at' ∧ at' < (take T z at').2.1 ∧ (take T z at').2.1 ≤ z.length := by
  unfold take at h ⊢
  split
  · rename_i hsp; rw [hsp] at h; simp at h
  · rename_i n sz hsp
    rw [hsp] at h
    obtain ⟨s1, s2, s3, s4, s5⟩ := spot_some hsp
    split
    · rename_i h0; exact ⟨s1, by simp only []; omega, by simp only []; omega⟩
    · rename_i h0
      simp only [h0, if_false] at h
      split
      · rename_i h1; rw [if_pos h1] at h; simp at h
      · exact ⟨s1, by simp only []; omega, by simp only []; omega⟩
theorem take_err (T : Nat → Nat) (z : List Int) (at' : Int) : (take T z at').2.2 = 0 ∨ take T z at' = ([], 0, 2) := by
  unfold take
  split
  · exact .inr rfl
  · split
    · exact .inl rfl
    · split
      · exact .inr rfl
      · exact .inl rfl
theorem skip_next {z : List Int} {at' : Int} : (skip z at' = (0, 2)) ∨ ((skip z at').2 = 0 ∧ 0 ≤ at' ∧ at' < (skip z at').1 ∧ (skip z at').1 ≤ z.length) := by
  unfold skip
  split
  · exact .inl rfl
  · rename_i n sz hsp
    obtain ⟨s1, s2, s3, s4, s5⟩ := spot_some hsp
    exact .inr ⟨rfl, s1, by simp only []; omega, by simp only []; omega⟩
theorem pt_bd {T : Nat → Nat} {X : List Int} (hX : Bytes X) {ref : Int} {n : Nat} (hr : 0 ≤ ref) (hn : 0 < n) {p : List Int} {nx : Int} (h : pt T X ref n = some (p, nx)) : 1 ≤ p.length ∧ p.length ≤ n ∧ p.length ≤ 128 ∧ Bytes p ∧ 0 ≤ nx ∧ nx ≤ 256 * X.length + 256 := by
  unfold pt at h
  have hl := take_len T hX (ref / 256)
  split at h
  · simp at h
  · rename_i hc
    have hc' := not_or.1 hc
    have h0 : (take T X (ref / 256)).2.2 = 0 := Decidable.not_not.1 hc'.1
    obtain ⟨t1, t2, t3⟩ := take_next h0
    have hnum := hc'.2
    have hby : Bytes (take T X (ref / 256)).1 := by
      unfold take
      split
      · exact Bytes.nil
      · split
        · exact Bytes.nil
        · split
          · exact Bytes.nil
          · rename_i n sz hsp _ _
            show Bytes (plain T n (body X (ref / 256).toNat sz))
            have hbb : Bytes (body X (ref / 256).toNat sz) := (hX.drop _).take _
            unfold plain
            split
            · exact Bytes.nil
            · split
              · exact hbb.drop 4
              · exact (hbb.drop 4).unpack 128
    generalize take T X (ref / 256) = t at *
    simp only [Option.some.injEq, Prod.mk.injEq] at h
    obtain ⟨h1, h2⟩ := h
    subst h1 h2
    refine ⟨by simp; omega, by simp; omega, by simp; omega, (hby.drop _).take _, ?_, ?_⟩
    · split <;> omega
    · split <;> omega

/-- A byte that was added, and those behind it: what the frame has of them. -/
theorem pt_row {T : Nat → Nat} (hS : Small T) (z : List Int) (j n : Nat) (hn : 0 < n) (hj : j + n ≤ z.length) :
    ∃ m, 1 ≤ m ∧ m ≤ n ∧ pt T (done T z) (rf T z j) n = some ((z.drop j).take m, rf T z (j + m)) := by
  obtain ⟨Z, hZ⟩ := fr_split T z (j / 128) ((z.length + 127) / 128) (by omega)
  have hT := (take_put hS (blk_le z (j / 128)) (fr T z (j / 128)) Z).1
  rw [← hZ] at hT
  have e1 : rf T z j / 256 = ((fr T z (j / 128)).length : Nat) := by unfold rf; omega
  have e2 : rf T z j % 256 = ((j % 128 : Nat) : Int) := by unfold rf; omega
  have hbl := blk_length z (j / 128)
  have hm : min n ((blk z (j / 128)).length - j % 128) = min n (128 - j % 128) ∨ (min n ((blk z (j / 128)).length - j % 128) = n) := by omega
  refine ⟨min n ((blk z (j / 128)).length - j % 128), by omega, by omega, ?_⟩
  unfold pt done
  rw [e1, e2, hT]
  simp only [Int.toNat_natCast]
  rw [if_neg (by simp; omega)]
  congr 1
  refine Prod.ext ?_ ?_
  · show ((blk z (j / 128)).drop (j % 128)).take n = _
    unfold blk
    rw [List.drop_take, List.drop_drop, List.take_take, show 128 * (j / 128) + j % 128 = j by omega]
    rw [List.take_eq_take_iff]
    simp
    omega
  · show (if _ then _ else _) = _
    have hp : ((fr T z (j / 128)).length + (put T (blk z (j / 128))).length) = (fr T z (j / 128 + 1)).length := by rw [fr_succ, List.length_append]
    rw [hp]
    generalize hmm : min n ((blk z (j / 128)).length - j % 128) = m at *
    have hm128 : m ≤ 128 - j % 128 := by omega
    by_cases h : j % 128 + m = 128
    · rw [if_pos (by omega)]
      unfold rf
      rw [show (j + m) / 128 = j / 128 + 1 by omega, show (j + m) % 128 = 0 by omega]; simp
    · rw [if_neg (by omega)]
      unfold rf
      rw [show (j + m) / 128 = j / 128 by omega, show (j + m) % 128 = j % 128 + m by omega]
      omega
/-- What was added is read. -/
theorem rd_row {T : Nat → Nat} (hS : Small T) (z : List Int) : ∀ (f j n : Nat), n ≤ f → j + n ≤ z.length → rdF T (done T z) f (rf T z j) n = some ((z.drop j).take n, rf T z (j + n))
  | 0, j, n, hf, hj => by
    obtain rfl : n = 0 := by omega
    rw [rdF_zero]; simp
  | f + 1, j, n, hf, hj => by
    by_cases hn : n = 0
    · subst hn; rw [rdF_zero]; simp
    · obtain ⟨m, h1, h2, h3⟩ := pt_row hS z j n (by omega) hj
      have hl : ((z.drop j).take m).length = m := by simp; omega
      rw [rdF_some hn h3, hl, rd_row hS z f (j + m) (n - m) (by omega) (by omega)]
      simp only [Option.map_some]
      congr 1
      refine Prod.ext ?_ ?_
      · show (z.drop j).take m ++ (z.drop (j + m)).take (n - m) = _
        rw [← List.drop_drop, ← List.take_add, show m + (n - m) = n by omega]
      · show rf T z (j + m + (n - m)) = _
        rw [show j + m + (n - m) = j + n by omega]
theorem spot_end (X : List Int) : spot X X.length = none := by unfold spot; rw [if_pos (.inr (by omega))]
/-- Behind all there is nothing. -/
theorem rd_end {T : Nat → Nat} (hS : Small T) (z : List Int) : pt T (done T z) (rf T z z.length) 1 = none := by
  have e1 : rf T z z.length / 256 = ((fr T z (z.length / 128)).length : Nat) := by unfold rf; omega
  have e2 : rf T z z.length % 256 = ((z.length % 128 : Nat) : Int) := by unfold rf; omega
  unfold pt
  rw [e1, e2]
  by_cases h : z.length % 128 = 0
  · have hd : done T z = fr T z (z.length / 128) := by unfold done; rw [show (z.length + 127) / 128 = z.length / 128 by omega]
    have : take T (done T z) ((fr T z (z.length / 128)).length : Nat) = ([], 0, 2) := by
      unfold take; rw [hd, spot_end]
    rw [this]; simp
  · obtain ⟨Z, hZ⟩ := fr_split T z (z.length / 128) ((z.length + 127) / 128) (by omega)
    have hT := (take_put hS (blk_le z (z.length / 128)) (fr T z (z.length / 128)) Z).1
    rw [← hZ] at hT
    have hbl := blk_length z (z.length / 128)
    unfold done
    rw [hT]
    rw [if_pos (.inr (by show ((blk z (z.length / 128)).length : Int) ≤ _; omega))]
/-- A frame is passed. -/
theorem skip_row {T : Nat → Nat} (hS : Small T) (z : List Int) (k : Nat) (hk : k < (z.length + 127) / 128) : skip (done T z) ((fr T z k).length : Nat) = ((((fr T z (k + 1)).length : Nat) : Int), 0) := by
  obtain ⟨Z, hZ⟩ := fr_split T z k ((z.length + 127) / 128) hk
  have hT := (take_put hS (blk_le z k) (fr T z k) Z).2
  rw [← hZ] at hT
  unfold done
  rw [hT, fr_succ, List.length_append]
theorem skip_end (T : Nat → Nat) (z : List Int) : skip (done T z) ((fr T z ((z.length + 127) / 128)).length : Nat) = (0, 2) := by
  unfold skip
  have : spot (done T z) ((fr T z ((z.length + 127) / 128)).length : Nat) = none := spot_end (done T z)
  rw [this]
end Go.Proofs.Ytmhgjilpgbkaaaa.Mtr

/- Layer 12: files' blocks, as pure functions: their frames, what a writer has, what is passed and read; and that what was laid down is read as it was. -/
import Derived.Test.YtifmikdknifcoaaOwn
namespace Go.Proofs.Ytifmikdknifcoaa.Dat
set_option linter.unusedVariables false
open Lz (g)
open Frm Mtr

/-- Noughts alone. -/
def hol (b : List Int) : Bool := b.all (fun x => x == 0)
/-- What of a block is framed. -/
def eb (b : List Int) : List Int := if hol b = true then [] else b
/-- A block's frame. -/
def bf (T : Nat → Nat) (b : List Int) : List Int := put T (eb b)
theorem eb_le {b : List Int} (h : b.length ≤ 128) : (eb b).length ≤ 128 := by
  unfold eb; split
  · simp
  · exact h
theorem eb_bytes {b : List Int} (h : Bytes b) : Bytes (eb b) := by
  unfold eb; split
  · exact Bytes.nil
  · exact h
theorem bf_length (T : Nat → Nat) {b : List Int} (h : b.length ≤ 128) : 3 ≤ (bf T b).length ∧ (bf T b).length ≤ 135 := by
  have := put_length (T := T) (eb_le h)
  unfold bf; exact ⟨this.1, this.2.2⟩
theorem bf_bytes (T : Nat → Nat) {b : List Int} (h : Bytes b) : Bytes (bf T b) := put_bytes (eb_bytes h)
/-- The frames of the first k blocks. -/
def frs (T : Nat → Nat) (z : List Int) : Nat → List Int
  | 0 => []
  | k + 1 => frs T z k ++ bf T (blk z k)
theorem frs_succ (T : Nat → Nat) (z : List Int) (k : Nat) : frs T z (k + 1) = frs T z k ++ bf T (blk z k) := rfl
theorem frs_length (T : Nat → Nat) (z : List Int) : ∀ k, 3 * k ≤ (frs T z k).length ∧ (frs T z k).length ≤ 135 * k
  | 0 => by simp [frs]
  | k + 1 => by
    have := frs_length T z k
    have := bf_length T (blk_le z k)
    rw [frs_succ, List.length_append]; omega
theorem frs_bytes (T : Nat → Nat) {z : List Int} (h : Bytes z) : ∀ k, Bytes (frs T z k)
  | 0 => Bytes.nil
  | k + 1 => (frs_bytes T h k).append (bf_bytes T (blk_bytes h k))
theorem frs_append (T : Nat → Nat) (z y : List Int) : ∀ k, 128 * k ≤ z.length → frs T (z ++ y) k = frs T z k
  | 0, _ => rfl
  | k + 1, h => by rw [frs_succ, frs_succ, frs_append T z y k (by omega), blk_append z y k h]
theorem blk_drop (z : List Int) (j i : Nat) : blk (z.drop (128 * j)) i = blk z (j + i) := by
  unfold blk; rw [List.drop_drop, Nat.mul_add]
theorem frs_add (T : Nat → Nat) (z : List Int) (j : Nat) : ∀ i, frs T z (j + i) = frs T z j ++ frs T (z.drop (128 * j)) i
  | 0 => by simp [frs]
  | i + 1 => by rw [← Nat.add_assoc, frs_succ, frs_succ, frs_add T z j i, blk_drop, List.append_assoc]
/-- The frames of all blocks, and what is left. -/
def run (T : Nat → Nat) (z : List Int) : List Int := frs T z (z.length / 128)
def tl (z : List Int) : List Int := z.drop (128 * (z.length / 128))
/-- The blocks' bytes. -/
def wh (z : List Int) : List Int := z.take (128 * (z.length / 128))
theorem wh_length (z : List Int) : (wh z).length = 128 * (z.length / 128) := by unfold wh; rw [List.length_take]; omega
theorem tl_length (z : List Int) : (tl z).length = z.length % 128 := by unfold tl; rw [List.length_drop]; omega
theorem run_nil (T : Nat → Nat) (z : List Int) : run T z = [] ↔ z.length / 128 = 0 := by
  have := frs_length T z (z.length / 128)
  unfold run
  refine ⟨fun h => ?_, fun h => by rw [h]; rfl⟩
  rw [h] at this; simp at this; omega
theorem run_bytes (T : Nat → Nat) {z : List Int} (h : Bytes z) : Bytes (run T z) := frs_bytes T h _
theorem run_length (T : Nat → Nat) (z : List Int) : 3 * (z.length / 128) ≤ (run T z).length ∧ (run T z).length ≤ 135 * (z.length / 128) := frs_length T z _
/-- Other tails, the same frames. -/
theorem run_wh (T : Nat → Nat) (z y : List Int) (h : y.length < 128) : run T (wh z ++ y) = run T z := by
  have h1 := wh_length z
  have h2 : (wh z ++ y).length / 128 = z.length / 128 := by rw [List.length_append]; omega
  unfold run
  rw [h2, frs_append T (wh z) y _ (by omega)]
  have e : z = wh z ++ tl z := by unfold wh tl; rw [List.take_append_drop]
  conv => rhs; rw [e]
  rw [frs_append T (wh z) (tl z) _ (by rw [h1]; have : (wh z ++ tl z).length = z.length := by rw [← e]
                                       omega)]
  rw [← e]

/-- Files' frames that are there, each with its place, the first ones first. -/
abbrev Wm := List (List Int × Nat)
def look (M : Wm) (r : List Int) : Option Nat := (M.find? (fun p => decide (p.1 = r))).map (·.2)
theorem look_mem {M : Wm} {r : List Int} {a : Nat} (h : look M r = some a) : (r, a) ∈ M := by
  unfold look at h
  cases hf : M.find? (fun p => decide (p.1 = r)) with
  | none => rw [hf] at h; simp at h
  | some p =>
    rw [hf] at h
    have h1 := List.find?_some hf
    have h2 := List.mem_of_find?_eq_some hf
    simp at h h1
    rw [← h1, ← h]; exact h2
theorem look_app_some {M X : Wm} {r : List Int} {a : Nat} (h : look M r = some a) : look (M ++ X) r = some a := by
  unfold look at h ⊢
  rw [List.find?_append]
  cases hf : M.find? (fun p => decide (p.1 = r)) with
  | none => rw [hf] at h; simp at h
  | some p => rw [hf] at h; simpa using h
theorem look_app_none {M : Wm} {r : List Int} {a : Nat} (h : look M r = none) : look (M ++ [(r, a)]) r = some a := by
  unfold look at h ⊢
  rw [List.find?_append]
  cases hf : M.find? (fun p => decide (p.1 = r)) with
  | none => simp
  | some p => rw [hf] at h; simp at h
theorem look_app_other {M : Wm} {r s : List Int} {a : Nat} (h : s ≠ r) : look (M ++ [(r, a)]) s = look M s := by
  unfold look
  rw [List.find?_append]
  cases hf : M.find? (fun p => decide (p.1 = s)) with
  | none => simp [Ne.symm h]
  | some p => simp
/-- What a writer has: all that was laid down, and the files' frames. -/
abbrev Ws := List Int × Wm
/-- Add, of frames: the place, and what the writer has behind it. -/
def addA (first : Nat) (s : Ws) (r : List Int) : Nat := if r = [] then 0 else match look s.2 r with
  | some a => a
  | none => first + s.1.length
def addS (first : Nat) (s : Ws) (r : List Int) : Ws := if r = [] then s else match look s.2 r with
  | some _ => s
  | none => (s.1 ++ r, s.2 ++ [(r, first + s.1.length)])
theorem add_nil (first : Nat) (s : Ws) : addA first s [] = 0 ∧ addS first s [] = s := ⟨by simp [addA], by simp [addS]⟩
theorem add_some {first : Nat} {s : Ws} {r : List Int} {a : Nat} (hr : r ≠ []) (h : look s.2 r = some a) : addA first s r = a ∧ addS first s r = s := ⟨by simp [addA, hr, h], by simp [addS, hr, h]⟩
theorem add_none {first : Nat} {s : Ws} {r : List Int} (hr : r ≠ []) (h : look s.2 r = none) : addA first s r = first + s.1.length ∧ addS first s r = (s.1 ++ r, s.2 ++ [(r, first + s.1.length)]) := ⟨by simp [addA, hr, h], by simp [addS, hr, h]⟩
/-- A file's frames are there, at a. -/
def Has (s : Ws) (r : List Int) (a : Nat) : Prop := (r = [] ∧ a = 0) ∨ (r ≠ [] ∧ look s.2 r = some a)
theorem Has.add {first : Nat} {s : Ws} {r : List Int} {a : Nat} (h : Has s r a) : addA first s r = a ∧ addS first s r = s := by
  rcases h with ⟨rfl, rfl⟩ | ⟨h1, h2⟩
  · exact add_nil first s
  · exact add_some h1 h2
theorem has_add (first : Nat) (s : Ws) (r : List Int) : Has (addS first s r) r (addA first s r) := by
  by_cases hr : r = []
  · subst hr; exact .inl ⟨rfl, (add_nil first s).1⟩
  · cases h : look s.2 r with
    | some a => obtain ⟨h1, h2⟩ := add_some (first := first) hr h; rw [h1, h2]; exact .inr ⟨hr, h⟩
    | none => obtain ⟨h1, h2⟩ := add_none (first := first) hr h; rw [h1, h2]; exact .inr ⟨hr, look_app_none h⟩
theorem Has.on {s : Ws} {r : List Int} {a : Nat} (h : Has s r a) (first : Nat) (r' : List Int) : Has (addS first s r') r a := by
  rcases h with h | ⟨h1, h2⟩
  · exact .inl h
  · refine .inr ⟨h1, ?_⟩
    by_cases hr : r' = []
    · subst hr; rw [(add_nil first s).2]; exact h2
    · cases h' : look s.2 r' with
      | some a' => rw [(add_some hr h').2]; exact h2
      | none => rw [(add_none hr h').2]; exact look_app_some h2
/-- Each file's frames stand where they are told to. -/
def Ok (first : Nat) (s : Ws) : Prop := ∀ p ∈ s.2, ∃ A Z, s.1 = A ++ (p.1 ++ Z) ∧ p.2 = first + A.length
theorem ok_nil (first : Nat) : Ok first ([], []) := fun p hp => by simp at hp
theorem Ok.add {first : Nat} {s : Ws} (h : Ok first s) (r : List Int) : Ok first (addS first s r) := by
  by_cases hr : r = []
  · subst hr; rw [(add_nil first s).2]; exact h
  · cases h' : look s.2 r with
    | some a' => rw [(add_some hr h').2]; exact h
    | none =>
      rw [(add_none hr h').2]
      intro p hp
      simp only [List.mem_append, List.mem_singleton] at hp
      rcases hp with hp | rfl
      · obtain ⟨A, Z, h1, h2⟩ := h p hp
        exact ⟨A, Z ++ r, by simp only []; rw [h1]; simp, h2⟩
      · exact ⟨s.1, [], by simp, rfl⟩
theorem Has.at {first : Nat} {s : Ws} {r : List Int} {a : Nat} (hk : Ok first s) (h : Has s r a) : (r = [] ∧ a = 0) ∨ ∃ A Z, s.1 = A ++ (r ++ Z) ∧ a = first + A.length := by
  rcases h with h | ⟨h1, h2⟩
  · exact .inl h
  · exact .inr (hk _ (look_mem h2))

theorem take_bytes (T : Nat → Nat) {z : List Int} (h : Bytes z) (at' : Int) : Bytes (take T z at').1 := by
  unfold take
  split
  · exact Bytes.nil
  · split
    · exact Bytes.nil
    · split
      · exact Bytes.nil
      · rename_i n sz hsp _ _
        show Bytes (plain T n (body z at'.toNat sz))
        have hbb : Bytes (body z at'.toNat sz) := (h.drop _).take _
        unfold plain
        split
        · exact Bytes.nil
        · split
          · exact hbb.drop 4
          · exact (hbb.drop 4).unpack 128

/-- So many frames are passed, from a place on; each ends at e at the latest. -/
def pas (z : List Int) (e : Int) : Nat → Int → Option Int
  | 0, at' => some at'
  | k + 1, at' => if (skip z at').2 ≠ 0 ∨ e < (skip z at').1 then none else pas z e k (skip z at').1
theorem pas_in {z : List Int} {e : Int} : ∀ {k : Nat} {at' x : Int}, pas z e k at' = some x → In64 at' → z.length ≤ 1000000 → In64 x
  | 0, at', x, h, ha, _ => by simp [pas] at h; rw [← h]; exact ha
  | k + 1, at', x, h, ha, hz => by
    unfold pas at h
    split at h
    · simp at h
    · refine pas_in h ?_ hz
      rcases skip_next (z := z) (at' := at') with hs | hs
      · rw [hs]; exact ⟨by show _ ≤ (0 : Int); omega, by show (0 : Int) ≤ _; omega⟩
      · exact ⟨by omega, by omega⟩
/-- The block at a place, and the place behind it. -/
def tkB (T : Nat → Nat) (z : List Int) (at' : Int) : Option (List Int × Int) :=
  if (take T z at').2.2 ≠ 0 ∨ ((take T z at').1.length ≠ 0 ∧ (take T z at').1.length ≠ 128) then none
  else some (if (take T z at').1.length = 0 then List.replicate 128 0 else (take T z at').1, (take T z at').2.1)
/-- So many blocks, from a place on. -/
def rds (T : Nat → Nat) (z : List Int) : Nat → Int → Option (List Int)
  | 0, _ => some []
  | k + 1, at' => match tkB T z at' with
    | none => none
    | some (b, nx) => (rds T z k nx).map (fun y => b ++ y)
/-- Where what is read ends, behind its first block's head. -/
def upt (size off n : Int) : Nat := (off % 128 + min n (128 * (size / 128) - off)).toNat
/-- Read. -/
def rd (T : Nat → Nat) (z : List Int) (start size off n : Int) : List Int × Int :=
  if size < 0 ∨ 4096 < size ∨ off < 0 ∨ n < 0 then ([], 1)
  else if n = 0 ∨ 128 * (size / 128) ≤ off then ([], 0)
  else match pas z z.length (off / 128).toNat start with
    | none => ([], 35)
    | some at' => match rds T z ((upt size off n + 127) / 128) at' with
      | none => ([], 35)
      | some b => ((b.take (upt size off n)).drop (off % 128).toNat, 0)
/-- Walk. -/
def wk (z : List Int) (start size e : Int) : Int × Int :=
  if size < 0 ∨ 4096 < size then (0, 1) else match pas z e (size / 128).toNat start with
    | none => (0, 2)
    | some x => (x, 0)
def wkO : Option Int → Int × Int
  | none => (0, 2)
  | some x => (x, 0)
theorem wk_of (z : List Int) (start e : Int) (k : Nat) (h : k ≤ 4096) : wk z start (k : Nat) e = wkO (pas z e (k / 128) start) := by
  unfold wk
  rw [if_neg (by omega), show (k : Int) / 128 = ((k / 128 : Nat) : Int) by omega, Int.toNat_natCast]
  cases pas z e (k / 128) start <;> rfl
theorem tkB_some {T : Nat → Nat} {z : List Int} (hz : Bytes z) {at' nx : Int} {b : List Int} (h : tkB T z at' = some (b, nx)) : b.length = 128 ∧ 0 ≤ at' ∧ at' < nx ∧ nx ≤ z.length := by
  unfold tkB at h
  split at h
  · simp at h
  · rename_i hc
    have hc' := not_or.1 hc
    have h0 : (take T z at').2.2 = 0 := Decidable.not_not.1 hc'.1
    obtain ⟨t1, t2, t3⟩ := take_next h0
    simp only [Option.some.injEq, Prod.mk.injEq] at h
    obtain ⟨rfl, rfl⟩ := h
    refine ⟨?_, t1, t2, t3⟩
    split
    · simp
    · rename_i hn
      by_cases e : (take T z at').1.length = 128
      · exact e
      · exact absurd ⟨hn, e⟩ hc'.2
theorem rds_length {T : Nat → Nat} {z : List Int} (hz : Bytes z) : ∀ (k : Nat) (at' : Int) (b : List Int), rds T z k at' = some b → b.length = 128 * k
  | 0, at', b, h => by simp [rds] at h; rw [h]; rfl
  | k + 1, at', b, h => by
    unfold rds at h
    split at h
    · simp at h
    · rename_i c nx hc
      obtain ⟨y, hy, rfl⟩ := Option.map_eq_some_iff.1 h
      have := rds_length hz k nx y hy
      have := (tkB_some hz hc).1
      rw [List.length_append]; omega
/-- What is read of so many bytes, from f up to t. -/
def ot (t f : Nat) (X : List Int) : List Int := (X.take t).drop f
theorem ot_length (t f : Nat) (X : List Int) : (ot t f X).length = min t X.length - f := by unfold ot; rw [List.length_drop, List.length_take]
theorem ot_low {t f : Nat} {X : List Int} (h : X.length ≤ f) : ot t f X = [] := by unfold ot; exact List.drop_eq_nil_of_le (by rw [List.length_take]; omega)
theorem ot_snoc {t f : Nat} {X : List Int} (x : Int) (h1 : X.length < t) (h2 : f ≤ X.length) : ot t f (X ++ [x]) = ot t f X ++ [x] := by
  unfold ot
  rw [List.take_of_length_le (by simp; omega), List.take_of_length_le (by omega), List.drop_append_of_le_length h2]
theorem ot_full {t f : Nat} {X : List Int} (Y : List Int) (h : t ≤ X.length) : ot t f (X ++ Y) = ot t f X := by
  unfold ot; rw [List.take_append_of_le_length h]
theorem ot_bytes {t f : Nat} {X : List Int} (h : Bytes X) : Bytes (ot t f X) := (h.take t).drop f
/-- One block more. -/
theorem rds_some {T : Nat → Nat} {z : List Int} {k : Nat} {at' nx : Int} {b : List Int} (h : tkB T z at' = some (b, nx)) : rds T z (k + 1) at' = (rds T z k nx).map (fun y => b ++ y) := by
  conv => lhs; unfold rds
  rw [h]
theorem rds_none {T : Nat → Nat} {z : List Int} {k : Nat} {at' : Int} (h : tkB T z at' = none) : rds T z (k + 1) at' = none := by
  unfold rds; rw [h]
/-- What Read tells of what its blocks are. -/
def rdO (t f : Nat) : Option (List Int) → List Int × Int
  | none => ([], 35)
  | some b => (ot t f b, 0)
theorem rd_arg {T : Nat → Nat} {z : List Int} {start size off n : Int} (h : size < 0 ∨ 4096 < size ∨ off < 0 ∨ n < 0) : rd T z start size off n = ([], 1) := by unfold rd; rw [if_pos h]
theorem rd_none {T : Nat → Nat} {z : List Int} {start : Int} {size off n : Nat} (h : size ≤ 4096) (h2 : n = 0 ∨ 128 * (size / 128) ≤ off) : rd T z start (size : Nat) (off : Nat) (n : Nat) = ([], 0) := by
  unfold rd; rw [if_neg (by omega), if_pos (by omega)]
/-- Where what is read ends, in numbers. -/
def up (size off n : Nat) : Nat := off % 128 + min n (128 * (size / 128) - off)
theorem rd_of {T : Nat → Nat} {z : List Int} {start : Int} {size off n : Nat} (h : size ≤ 4096) (h1 : 0 < n) (h2 : off < 128 * (size / 128)) :
    rd T z start (size : Nat) (off : Nat) (n : Nat) = rdO (up size off n) (off % 128) ((pas z z.length (off / 128) start).bind (rds T z ((up size off n + 127) / 128))) := by
  have e : upt (size : Nat) (off : Nat) (n : Nat) = up size off n := by unfold upt up; omega
  unfold rd
  rw [if_neg (by omega), if_neg (by omega), e, show ((off : Int) / 128).toNat = off / 128 by omega, show ((off : Int) % 128).toNat = off % 128 by omega]
  cases pas z z.length (off / 128) start with
  | none => rfl
  | some x =>
    simp only [Option.bind_some]
    cases rds T z ((up size off n + 127) / 128) x <;> rfl
theorem hol_all {b : List Int} (h : hol b = true) : b = List.replicate b.length 0 := by
  refine List.eq_replicate_iff.2 ⟨rfl, fun x hx => ?_⟩
  have := List.all_eq_true.1 h x hx
  simpa using this
/-- A block's frame is passed, and the block read, wherever it stands. -/
theorem tkB_bf {T : Nat → Nat} (hS : Small T) {b : List Int} (hl : b.length = 128) (A Z : List Int) :
    tkB T (A ++ (bf T b ++ Z)) (A.length : Nat) = some (b, ((A.length + (bf T b).length : Nat) : Int)) ∧ skip (A ++ (bf T b ++ Z)) (A.length : Nat) = (((A.length + (bf T b).length : Nat) : Int), 0) := by
  have h := take_put hS (eb_le (b := b) (by omega)) A Z
  refine ⟨?_, h.2⟩
  have h1 : take T (A ++ (bf T b ++ Z)) (A.length : Nat) = (eb b, ((A.length + (bf T b).length : Nat) : Int), 0) := h.1
  unfold tkB
  rw [h1]
  by_cases hh : hol b = true
  · have e : eb b = [] := by unfold eb; rw [if_pos hh]
    rw [e]
    have := hol_all hh
    rw [hl] at this
    simp [← this]
  · have e : eb b = b := by unfold eb; rw [if_neg hh]
    rw [e]
    simp [hl]
theorem blk_full {z : List Int} {k : Nat} (h : 128 * (k + 1) ≤ z.length) : (blk z k).length = 128 := by rw [blk_length]; omega
/-- Frames that were laid down are passed. -/
theorem pas_frs {T : Nat → Nat} (hS : Small T) (e : Int) : ∀ (k : Nat) (b A Z : List Int), 128 * k ≤ b.length → ((A.length + (frs T b k).length : Nat) : Int) ≤ e → pas (A ++ (frs T b k ++ Z)) e k (A.length : Nat) = some ((A.length + (frs T b k).length : Nat) : Int)
  | 0, b, A, Z, _, _ => by simp [pas, frs]
  | k + 1, b, A, Z, hb, he => by
    have e1 : frs T b (k + 1) = bf T (blk b 0) ++ frs T (b.drop (128 * 1)) k := by rw [Nat.add_comm, frs_add T b 1 k]; rfl
    have h0 := (tkB_bf hS (blk_full (z := b) (k := 0) (by omega)) A (frs T (b.drop (128 * 1)) k ++ Z)).2
    rw [e1, List.length_append] at he ⊢
    have ih := pas_frs hS e k (b.drop (128 * 1)) (A ++ bf T (blk b 0)) Z (by simp; omega) (by rw [List.length_append]; omega)
    unfold pas
    rw [List.append_assoc (bf T (blk b 0)), h0]
    simp only []
    rw [if_neg (by omega)]
    rw [List.append_assoc, List.length_append] at ih
    rw [ih, Nat.add_assoc]
/-- .. and read. -/
theorem rds_frs {T : Nat → Nat} (hS : Small T) : ∀ (k : Nat) (b A Z : List Int), 128 * k ≤ b.length → rds T (A ++ (frs T b k ++ Z)) k (A.length : Nat) = some (b.take (128 * k))
  | 0, b, A, Z, _ => by simp [rds]
  | k + 1, b, A, Z, hb => by
    have e1 : frs T b (k + 1) = bf T (blk b 0) ++ frs T (b.drop (128 * 1)) k := by rw [Nat.add_comm, frs_add T b 1 k]; rfl
    have h0 := (tkB_bf hS (blk_full (z := b) (k := 0) (by omega)) A (frs T (b.drop (128 * 1)) k ++ Z)).1
    have ih := rds_frs hS k (b.drop (128 * 1)) (A ++ bf T (blk b 0)) Z (by simp; omega)
    rw [e1, List.append_assoc (bf T (blk b 0))]
    unfold rds
    rw [h0]
    simp only []
    rw [List.append_assoc, List.length_append] at ih
    rw [ih]
    simp only [Option.map_some, Option.some.injEq]
    have e2 : blk b 0 = b.take 128 := by simp [blk]
    rw [e2, show 128 * (k + 1) = 128 + 128 * k by omega, List.take_add]
/-- What was laid down is read as it was, from any place on. -/
theorem rd_run {T : Nat → Nat} (hS : Small T) (b A Z : List Int) (off n : Nat) (hb : b.length ≤ 4096) : rd T (A ++ (run T b ++ Z)) (A.length : Nat) (b.length : Nat) (off : Nat) (n : Nat) = (((wh b).drop off).take n, 0) := by
  have hw := wh_length b
  unfold rd
  rw [if_neg (by omega)]
  by_cases h0 : (n : Int) = 0 ∨ 128 * ((b.length : Int) / 128) ≤ (off : Int)
  · rw [if_pos h0]
    rcases h0 with h0 | h0
    · obtain rfl : n = 0 := by omega
      simp
    · rw [List.drop_eq_nil_of_le (by omega)]; simp
  rw [if_neg h0]
  have hq : ((off : Int) / 128).toNat = off / 128 := by omega
  obtain ⟨q, hqd⟩ : ∃ q, off / 128 = q := ⟨_, rfl⟩
  obtain ⟨f, hf⟩ : ∃ f, off % 128 = f := ⟨_, rfl⟩
  obtain ⟨K, hK⟩ : ∃ K, b.length / 128 = K := ⟨_, rfl⟩
  obtain ⟨t, ht⟩ : ∃ t, upt (b.length : Nat) (off : Nat) (n : Nat) = t := ⟨_, rfl⟩
  have htn : t = f + min n (128 * K - off) := by rw [← ht]; unfold upt; omega
  obtain ⟨m, hm⟩ : ∃ m, (t + 127) / 128 = m := ⟨_, rfl⟩
  have hqm : q + m ≤ K := by omega
  have e1 : run T b = frs T b q ++ (frs T (b.drop (128 * q)) m ++ frs T (b.drop (128 * (q + m))) (K - (q + m))) := by
    unfold run
    rw [hK, show K = q + (m + (K - (q + m))) by omega, frs_add, frs_add, List.drop_drop, ← Nat.mul_add, show q + (m + (K - (q + m))) - (q + m) = K - (q + m) by omega]
  have hp := pas_frs hS ((A ++ (run T b ++ Z)).length : Nat) q b A (frs T (b.drop (128 * q)) m ++ frs T (b.drop (128 * (q + m))) (K - (q + m)) ++ Z) (by omega) (by rw [e1]; simp only [List.length_append]; omega)
  have hr := rds_frs hS m (b.drop (128 * q)) (A ++ frs T b q) (frs T (b.drop (128 * (q + m))) (K - (q + m)) ++ Z) (by rw [List.length_drop]; omega)
  have e2 : A ++ (frs T b q ++ (frs T (b.drop (128 * q)) m ++ frs T (b.drop (128 * (q + m))) (K - (q + m)) ++ Z)) = A ++ (run T b ++ Z) := by rw [e1]; simp [List.append_assoc]
  have e3 : (A ++ frs T b q) ++ (frs T (b.drop (128 * q)) m ++ (frs T (b.drop (128 * (q + m))) (K - (q + m)) ++ Z)) = A ++ (run T b ++ Z) := by rw [e1]; simp [List.append_assoc]
  rw [e2] at hp
  rw [e3, List.length_append] at hr
  rw [hq, hqd, hp]
  simp only []
  rw [ht, hm, hr]
  simp only []
  have hff : ((off : Int) % 128).toNat = f := by omega
  rw [hff, List.take_take, List.drop_take, List.drop_drop, show min t (128 * m) = t by omega, show 128 * q + f = off by omega]
  congr 1
  unfold wh
  rw [hK, List.drop_take, List.take_take]
  congr 1; omega
theorem rd_short {T : Nat → Nat} (z b : List Int) (start : Int) (off n : Nat) (hb : b.length < 128) : rd T z start (b.length : Nat) (off : Nat) (n : Nat) = (((wh b).drop off).take n, 0) := by
  have hw := wh_length b
  unfold rd
  rw [if_neg (by omega), if_pos (by omega), List.drop_eq_nil_of_le (by omega)]; simp
theorem wk_run {T : Nat → Nat} (hS : Small T) (b A Z : List Int) (e : Int) (hb : b.length ≤ 4096) (he : ((A.length + (run T b).length : Nat) : Int) ≤ e) : wk (A ++ (run T b ++ Z)) (A.length : Nat) (b.length : Nat) e = (((A.length + (run T b).length : Nat) : Int), 0) := by
  unfold wk
  rw [if_neg (by omega)]
  have hq : ((b.length : Int) / 128).toNat = b.length / 128 := by omega
  have := pas_frs hS e (b.length / 128) b A Z (by omega) he
  unfold run
  rw [hq, this]
theorem wk_short (z b : List Int) (start e : Int) (hb : b.length < 128) : wk z start (b.length : Nat) e = (start, 0) := by
  unfold wk
  rw [if_neg (by omega), show ((b.length : Int) / 128).toNat = 0 by omega]
  rfl
end Go.Proofs.Ytifmikdknifcoaa.Dat

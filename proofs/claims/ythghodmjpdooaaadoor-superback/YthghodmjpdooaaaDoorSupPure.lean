/- Layer 8 as numbers and bytes: whether a superblock may be, how it stands in an image, what is read of one; what follows. -/
import Derived.Test.YthghodmjpdooaaaDoorCurNew
import Derived.Test.YthghodmjpdooaaaDoorCrcMore
namespace Go.Proofs.YthghodmjpdooaaaDoor.Sup
set_option linter.unusedVariables false
open Cur (le by' le_by)
open Lz (g)
open Crc (more ent)
open Crc (more_lt more_turned)

/-- A superblock: its fields in the order of their declaration. -/
structure Sb where
  size : Int
  inodes : Int
  inodeAt : Int
  dirAt : Int
  fragAt : Int
  idAt : Int
  xattrAt : Int
  ids : Int
  frags : Int
  root : Int
/-- The numbers in the order in which they stand in a block; of how many bytes each is; where it stands. -/
def Sb.n (s : Sb) : Nat → Int
  | 0 => s.size
  | 1 => s.inodeAt
  | 2 => s.dirAt
  | 3 => s.fragAt
  | 4 => s.idAt
  | 5 => s.xattrAt
  | 6 => s.root
  | 7 => s.inodes
  | 8 => s.ids
  | _ => s.frags
def wd (i : Nat) : Nat := if i < 7 then 4 else 2
def spot (i : Nat) : Nat := if i < 7 then 4 + 4 * i else 32 + 2 * (i - 7)
theorem spot_zero : spot 0 = 4 := rfl
theorem spot_succ (i : Nat) : spot (i + 1) = spot i + wd i := by unfold spot wd; split <;> split <;> omega
theorem wd_fit (i : Nat) : 1 ≤ wd i ∧ wd i ≤ 4 := by unfold wd; split <;> omega
theorem spot_le (i : Nat) (h : i < 10) : spot i + wd i ≤ 38 := by unfold spot wd; split <;> omega
theorem n_ext {s t : Sb} (h : ∀ i, i < 10 → s.n i = t.n i) : s = t := by
  obtain ⟨a0, a1, a2, a3, a4, a5, a6, a7, a8, a9⟩ := s
  obtain ⟨b0, b1, b2, b3, b4, b5, b6, b7, b8, b9⟩ := t
  have h0 := h 0 (by omega)
  have h1 := h 1 (by omega)
  have h2 := h 2 (by omega)
  have h3 := h 3 (by omega)
  have h4 := h 4 (by omega)
  have h5 := h 5 (by omega)
  have h6 := h 6 (by omega)
  have h7 := h 7 (by omega)
  have h8 := h 8 (by omega)
  have h9 := h 9 (by omega)
  simp only [Sb.n] at *
  subst h0 h1 h2 h3 h4 h5 h6 h7 h8 h9
  rfl

/-- The places do not fall. -/
def Sb.sorted (s : Sb) : Prop := 64 ≤ s.inodeAt ∧ s.inodeAt ≤ s.dirAt ∧ s.dirAt ≤ s.fragAt ∧ s.fragAt ≤ s.idAt ∧ s.idAt ≤ s.xattrAt ∧ s.xattrAt ≤ s.size ∧ s.size ≤ 1048576
/-- It may be. -/
def Sb.ok (s : Sb) : Prop := s.sorted ∧ (1 ≤ s.inodes ∧ s.inodes ≤ 1024) ∧ (1 ≤ s.ids ∧ s.ids ≤ 2048) ∧ (0 ≤ s.frags ∧ s.frags ≤ 1024) ∧ 0 ≤ s.root ∧ s.root ≤ 4294967295
def Sb.srt (s : Sb) : Bool := decide (64 ≤ s.inodeAt ∧ s.inodeAt ≤ s.dirAt ∧ s.dirAt ≤ s.fragAt ∧ s.fragAt ≤ s.idAt ∧ s.idAt ≤ s.xattrAt ∧ s.xattrAt ≤ s.size ∧ s.size ≤ 1048576)
def inn (n a b : Int) : Bool := decide (a ≤ n ∧ n ≤ b)
def Sb.may (s : Sb) : Bool := s.srt && inn s.inodes 1 1024 && inn s.ids 1 2048 && inn s.frags 0 1024 && inn s.root 0 4294967295
theorem may_iff {s : Sb} : s.may = true ↔ s.ok := by
  unfold Sb.may Sb.ok Sb.srt Sb.sorted inn
  simp only [Bool.and_eq_true, decide_eq_true_eq, and_assoc]
theorem may_not {s : Sb} : s.may = false ↔ ¬ s.ok := by rw [← may_iff, Bool.not_eq_true]
theorem ok_fits {s : Sb} (h : s.ok) (i : Nat) (hi : i < 10) : 0 ≤ s.n i ∧ s.n i < 256 ^ wd i := by
  obtain ⟨⟨h1, h2, h3, h4, h5, h6, h7⟩, ⟨h8, h9⟩, ⟨h10, h11⟩, ⟨h12, h13⟩, h14, h15⟩ := h
  match i, hi with
  | 0, _ => simp [Sb.n, wd]; omega
  | 1, _ => simp [Sb.n, wd]; omega
  | 2, _ => simp [Sb.n, wd]; omega
  | 3, _ => simp [Sb.n, wd]; omega
  | 4, _ => simp [Sb.n, wd]; omega
  | 5, _ => simp [Sb.n, wd]; omega
  | 6, _ => simp [Sb.n, wd]; omega
  | 7, _ => simp [Sb.n, wd]; omega
  | 8, _ => simp [Sb.n, wd]; omega
  | 9, _ => simp [Sb.n, wd]; omega

/-- The letters and the first i numbers. -/
def pre (s : Sb) (i : Nat) : List Int := [76, 77, 76, 65] ++ ((List.range i).map fun j => by' (wd j) (s.n j)).flatten
theorem pre_zero (s : Sb) : pre s 0 = [76, 77, 76, 65] := rfl
theorem pre_succ (s : Sb) (i : Nat) : pre s (i + 1) = pre s i ++ by' (wd i) (s.n i) := by simp [pre, List.range_succ]
theorem pre_length (s : Sb) : ∀ i, (pre s i).length = spot i
  | 0 => rfl
  | i + 1 => by rw [pre_succ, List.length_append, pre_length s i, by_length, spot_succ]
theorem pre_bytes (s : Sb) : ∀ i, Bytes (pre s i)
  | 0 => by rw [pre_zero]; intro x hx; simp at hx; omega
  | i + 1 => by rw [pre_succ]; exact (pre_bytes s i).append (by_bytes _ _)
theorem pre_split (s : Sb) (i : Nat) : ∀ d, ∃ r, pre s (i + 1 + d) = pre s i ++ (by' (wd i) (s.n i) ++ r)
  | 0 => ⟨[], by rw [Nat.add_zero, pre_succ, List.append_nil]⟩
  | d + 1 => by
    obtain ⟨r, hr⟩ := pre_split s i d
    exact ⟨r ++ by' (wd (i + 1 + d)) (s.n (i + 1 + d)), by rw [← Nat.add_assoc, pre_succ, hr]; simp⟩
def body (s : Sb) : List Int := pre s 10
def put (T : Nat → Nat) (s : Sb) : List Int := body s ++ (by' 4 (more T 0 (body s)) ++ List.replicate 22 0)
theorem body_length (s : Sb) : (body s).length = 38 := pre_length s 10
theorem put_length (T : Nat → Nat) (s : Sb) : (put T s).length = 64 := by simp [put, body_length, by_length]
theorem put_bytes (T : Nat → Nat) (s : Sb) : Bytes (put T s) := (pre_bytes s 10).append ((by_bytes _ _).append (fun x hx => by simp at hx; omega))
/-- What is read of a block. -/
def rn (zs : List Int) (i : Nat) : Int := le ((zs.drop (spot i)).take (wd i))
def sbOf (zs : List Int) : Sb := ⟨rn zs 0, rn zs 7, rn zs 1, rn zs 2, rn zs 3, rn zs 4, rn zs 5, rn zs 8, rn zs 9, rn zs 6⟩
theorem sbOf_n (zs : List Int) (i : Nat) (hi : i < 10) : (sbOf zs).n i = rn zs i := by
  match i, hi with
  | 0, _ => rfl
  | 1, _ => rfl
  | 2, _ => rfl
  | 3, _ => rfl
  | 4, _ => rfl
  | 5, _ => rfl
  | 6, _ => rfl
  | 7, _ => rfl
  | 8, _ => rfl
  | 9, _ => rfl
theorem rn_take (zs : List Int) (m i : Nat) (hi : i < 10) (hm : 38 ≤ m) : rn (zs.take m) i = rn zs i := by
  have := spot_le i hi
  unfold rn
  rw [List.drop_take, List.take_take, Nat.min_eq_left (by omega)]
theorem sbOf_take (zs : List Int) (m : Nat) (hm : 38 ≤ m) : sbOf (zs.take m) = sbOf zs := n_ext fun i hi => by
  rw [sbOf_n _ _ hi, sbOf_n _ _ hi, rn_take zs m i hi hm]
theorem rn_put {T : Nat → Nat} {s : Sb} (h : s.ok) (r : List Int) (i : Nat) (hi : i < 10) : rn (put T s ++ r) i = s.n i := by
  obtain ⟨q, hq⟩ := pre_split s i (9 - i)
  have e : body s = pre s i ++ (by' (wd i) (s.n i) ++ q) := by rw [← hq]; unfold body; congr 1; omega
  have hf := ok_fits h i hi
  unfold rn put
  rw [e, List.append_assoc, List.append_assoc, List.drop_left' (pre_length s i), List.append_assoc, List.take_left' (by_length _ _)]
  exact le_by _ _ hf.1 hf.2
theorem sbOf_put {T : Nat → Nat} {s : Sb} (h : s.ok) (r : List Int) : sbOf (put T s ++ r) = s := n_ext fun i hi => by
  rw [sbOf_n _ _ hi, rn_put h r i hi]
theorem sbOf_put0 {T : Nat → Nat} {s : Sb} (h : s.ok) : sbOf (put T s) = s := by
  have := sbOf_put (T := T) h []
  rwa [List.append_nil] at this
/-- The bytes are an image's that begins with a superblock. -/
def good (T : Nat → Nat) (zs : List Int) : Prop := 64 ≤ zs.length ∧ (sbOf zs).ok ∧ (sbOf zs).size = zs.length ∧ zs.take 64 = put T (sbOf zs)
theorem good_put {T : Nat → Nat} {s : Sb} (h : s.ok) (r : List Int) (hs : s.size = 64 + r.length) : good T (put T s ++ r) := by
  refine ⟨by simp [put_length], ?_, ?_, ?_⟩
  · rw [sbOf_put h]; exact h
  · rw [sbOf_put h, hs]; simp [put_length]
  · rw [sbOf_put h, List.take_left' (put_length _ _)]
theorem not_good_put {T : Nat → Nat} {s : Sb} (h : s.ok) (r : List Int) (hs : s.size ≠ 64 + r.length) : ¬ good T (put T s ++ r) := fun hg => hs (by
  have := hg.2.2.1
  rw [sbOf_put h] at this
  rw [this]; simp [put_length])
/-- A byte that is turned. -/
theorem turned {s : Sb} (hs : s.ok) (k : Nat) (hk : k < 64) (y : Int) (hy : 0 ≤ y ∧ y ≤ 255) (hne : y ≠ g (put ent s) k) : ¬ good ent ((put ent s).set k y) := by
  intro hg
  obtain ⟨_, ho, _, he⟩ := hg
  rw [List.take_of_length_le (by simp [put_length])] at he
  generalize hs' : sbOf ((put ent s).set k y) = s' at *
  have hlen := put_length ent s
  by_cases h1 : 42 ≤ k
  · have e1 : g ((put ent s).set k y) k = y := by simp [g, hlen, hk]
    have zz : ∀ t : Sb, g (put ent t) k = 0 := fun t => by
      have e : put ent t = (body t ++ by' 4 (more ent 0 (body t))) ++ List.replicate 22 0 := by simp [put]
      have hl : (body t ++ by' 4 (more ent 0 (body t))).length = 42 := by simp [body_length, by_length]
      rw [e]
      simp only [g, List.getD_eq_getElem?_getD]
      rw [List.getElem?_append_right (by omega), hl, List.getElem?_replicate]
      split <;> rfl
    rw [he, zz s'] at e1
    rw [zz s] at hne
    exact hne e1.symm
  · by_cases h2 : 38 ≤ k
    · have e1 : sbOf ((put ent s).set k y) = s := by
        rw [← sbOf_take _ 38 (Nat.le_refl _), List.take_set_of_le h2, sbOf_take _ 38 (Nat.le_refl _), sbOf_put0 hs]
      rw [hs'] at e1
      subst e1
      have : g ((put ent s').set k y) k = y := by simp [g, hlen, hk]
      rw [he] at this
      exact hne this.symm
    · have b1 : (put ent s).take 38 = body s := List.take_left' (body_length s)
      have b2 : (put ent s').take 38 = body s' := List.take_left' (body_length s')
      have d1 : ((put ent s).drop 38).take 4 = by' 4 (more ent 0 (body s)) := by
        unfold put; rw [List.drop_left' (body_length s), List.take_left' (by_length _ _)]
      have d2 : ((put ent s').drop 38).take 4 = by' 4 (more ent 0 (body s')) := by
        unfold put; rw [List.drop_left' (body_length s'), List.take_left' (by_length _ _)]
      have e2 : by' 4 (more ent 0 (body s')) = by' 4 (more ent 0 (body s)) := by
        rw [← d1, ← d2, ← he, List.drop_set_of_lt (by omega)]
      have lt : ∀ l, (more ent 0 l : Int) < 256 ^ 4 := fun l => by
        have := more_lt Crc.ent_row l (s := 0) (by omega)
        omega
      have e3 : more ent 0 (body s') = more ent 0 (body s) := by
        have := congrArg le e2
        rw [le_by 4 _ (by omega) (lt _), le_by 4 _ (by omega) (lt _)] at this
        omega
      have e4 : body s' = (body s).set k y := by rw [← b2, ← he, List.take_set, b1]
      have hkb : k < (body s).length := by rw [body_length]; omega
      rw [e4, List.set_eq_take_append_cons_drop, if_pos hkb] at e3
      have e5 : body s = (body s).take k ++ (body s)[k] :: (body s).drop (k + 1) := by rw [List.getElem_cons_drop, List.take_append_drop]
      have hx := pre_bytes s 10 _ (List.getElem_mem hkb)
      have hgx : g (put ent s) k = (body s)[k] := by
        unfold put
        rw [Lz.g_append_left _ _ _ hkb, Lz.g_lt _ _ hkb]
      refine more_turned ((body s).take k) ((body s).drop (k + 1)) (body s)[k] y hx hy (fun h => hne (by rw [hgx, h])) ?_
      rw [← e5]; exact e3
end Go.Proofs.YthghodmjpdooaaaDoor.Sup

/- What the proof stands on: BldPure, BldLen, BldMap, BldState, BldXat, BldOwner, BldJoin, with what the proof reaches of it. -/
import Derived.Test.YtoohanojfoichaaGreatDoorSTreKidP
import Derived.Test.YtoohanojfoichaaGreatDoorSJFrgPure
import Derived.Test.YtoohanojfoichaaGreatDoorSDirPure
import Derived.Test.YtoohanojfoichaaGreatDoorSTabXat
import Derived.Test.YtoohanojfoichaaGreatDoorSJSupPure
import Derived.Laws.CopyOwn

/- Layer 14, on lists alone: what of a tree is laid down, part by part: blocks, records, lists, attributes; how long they are at most. Nothing here speaks of the program. -/
namespace Go.Proofs.YtoohanojfoichaaGreatDoor.Bld
set_option linter.unusedVariables false
open Lz (g)
open Crc (ent)
open Frm Mtr Tre Nam Tab

/-- The ref of what comes next in a row. -/
def rfn (z : List Int) : Nat := 256 * (fr ent z (z.length / 128)).length + z.length % 128
theorem rf_rfn (z : List Int) : rf ent z z.length = (rfn z : Int) := by unfold rf rfn; omega

/-- Where a file's bytes are. -/
structure Fl where
  start : Nat
  frag : Nat
  off : Nat
abbrev Fm := List (Int × Fl)
def lkF (M : Fm) (x : Int) : Option Fl := (M.find? (fun p => decide (p.1 = x))).map (·.2)
theorem lkF_none {M : Fm} {x : Int} {a : Fl} (h : lkF M x = none) : lkF (M ++ [(x, a)]) x = some a := by
  unfold lkF at h ⊢
  rw [List.find?_append]
  cases hf : M.find? (fun p => decide (p.1 = x)) with
  | none => simp
  | some p => rw [hf] at h; simp at h
theorem lkF_other {M : Fm} {x y : Int} {a : Fl} (h : y ≠ x) : lkF (M ++ [(x, a)]) y = lkF M y := by
  unfold lkF
  rw [List.find?_append]
  cases hf : M.find? (fun p => decide (p.1 = y)) with
  | none => simp [Ne.symm h]
  | some p => simp
/-- The bytes of files that are being laid down: blocks, tails, where each file is. -/
structure Cs where
  s : Dat.Ws
  b : Frg.Bl
  m : Fm
def cs0 : Cs := ⟨([], []), [], []⟩
def cstep (c : Cs) (n : Nod) : Cs :=
  if n.kind ≠ 2 ∨ (lkF c.m n.ino).isSome = true then c
  else ⟨Dat.addS 64 c.s (Dat.run ent n.data), (Frg.add c.b (Dat.tl n.data)).1, c.m ++ [(n.ino, ⟨Dat.addA 64 c.s (Dat.run ent n.data), (Frg.add c.b (Dat.tl n.data)).2.1, (Frg.add c.b (Dat.tl n.data)).2.2⟩)]⟩
/-- What is laid down of the first k nodes. -/
def cont (l : List Nod) : Nat → Cs
  | 0 => cs0
  | k + 1 => cstep (cont l k) (gn l k)
/-- The frames of the first k blocks of tails behind what is laid down, and their places. -/
def plc (B : Frg.Bl) (s : List Int) : Nat → List Int × List Int
  | 0 => (s, [])
  | k + 1 => ((plc B s k).1 ++ put ent (B.getD k []), (plc B s k).2 ++ [((64 + (plc B s k).1.length : Nat) : Int)])

/-- How many nodes are one with the i-th. -/
def lnk (l : List Nod) (i : Nat) : Nat := (l.filter (fun n => n.ino == (gn l i).ino)).length
/-- Whether the i-th node is within names. -/
def kidN (l : List Nod) (k : List ByteArray) (i : Nat) : Bool := decide ((gn l i).names.length = k.length + 1) && decide ((gn l i).names.take k.length = k)
def kidsN (l : List Nod) (k : List ByteArray) : List Nat := (List.range l.length).filter (kidN l k)
theorem kidN_iff {l : List Nod} {k : List ByteArray} {j : Nat} : kidN l k j = true ↔ (gn l j).names.length = k.length + 1 ∧ (gn l j).names.take k.length = k := by
  simp only [kidN, Bool.and_eq_true, decide_eq_true_eq]
theorem kidsN_mem {l : List Nod} {k : List ByteArray} {j : Nat} : j ∈ kidsN l k ↔ j < l.length ∧ kidN l k j = true := by
  unfold kidsN; rw [List.mem_filter, List.mem_range]

/-- What is being written: three rows, the refs of the nodes that were written, those of attributes. -/
structure Ws where
  I : List Int
  D : List Int
  X : List Int
  R : List (Nat × Nat)
  A : Dat.Wm
def ws0 : Ws := ⟨[], [], [], [], []⟩
def lkR (l : List Nod) (R : List (Nat × Nat)) (x : Int) : Option Nat := (R.find? (fun p => decide ((gn l p.1).ino = x))).map (·.2)
theorem lkR_mem {l : List Nod} {R : List (Nat × Nat)} {x : Int} (h : lkR l R x = none) {p : Nat × Nat} (hp : p ∈ R) : (gn l p.1).ino ≠ x := by
  unfold lkR at h
  cases hf : R.find? (fun p => decide ((gn l p.1).ino = x)) with
  | none => have := List.find?_eq_none.1 hf p hp; simpa using this
  | some p => rw [hf] at h; simp at h
theorem lkR_at {l : List Nod} {R : List (Nat × Nat)} {i r : Nat} (h : lkR l R (gn l i).ino = none) : lkR l (R ++ [(i, r)]) (gn l i).ino = some r := by
  unfold lkR at h ⊢
  rw [List.find?_append]
  cases hf : R.find? (fun p => decide ((gn l p.1).ino = (gn l i).ino)) with
  | none => simp
  | some p => rw [hf] at h; simp at h
theorem lkR_other {l : List Nod} {R : List (Nat × Nat)} {i r : Nat} {y : Int} (h : (gn l i).ino ≠ y) : lkR l (R ++ [(i, r)]) y = lkR l R y := by
  unfold lkR
  rw [List.find?_append]
  cases hf : R.find? (fun p => decide ((gn l p.1).ino = y)) with
  | none => simp [h]
  | some p => simp
/-- Attributes that are added, but once. -/
def xat (s : Ws) (xs : List (ByteArray × List Int)) : Ws × Nat :=
  if xs.length = 0 then (s, 0) else match Dat.look s.A (putX xs).1 with
  | some r => (s, r + 1)
  | none => ({ s with X := s.X ++ (putX xs).1, A := s.A ++ [((putX xs).1, rfn s.X)] }, rfn s.X + 1)
theorem xat_nil {s : Ws} {xs : List (ByteArray × List Int)} (h : xs.length = 0) : xat s xs = (s, 0) := by rw [xat, if_pos h]
theorem xat_some {s : Ws} {xs : List (ByteArray × List Int)} {r : Nat} (h : xs.length ≠ 0) (hl : Dat.look s.A (putX xs).1 = some r) : xat s xs = (s, r + 1) := by rw [xat, if_neg h, hl]
theorem xat_none {s : Ws} {xs : List (ByteArray × List Int)} (h : xs.length ≠ 0) (hl : Dat.look s.A (putX xs).1 = none) : xat s xs = ({ s with X := s.X ++ (putX xs).1, A := s.A ++ [((putX xs).1, rfn s.X)] }, rfn s.X + 1) := by rw [xat, if_neg h, hl]
/-- Bytes that are added, but once. -/
def once (s : Ws) (z : List Int) : Ws × Nat := match Dat.look s.A z with
  | some r => (s, r)
  | none => ({ s with X := s.X ++ z, A := s.A ++ [(z, rfn s.X)] }, rfn s.X)
theorem xat_once {s : Ws} {xs : List (ByteArray × List Int)} (h : xs.length ≠ 0) : xat s xs = ((once s (putX xs).1).1, (once s (putX xs).1).2 + 1) := by
  unfold once
  cases hl : Dat.look s.A (putX xs).1 with
  | some r => rw [xat_some h hl]
  | none => rw [xat_none h hl]
/-- What is put of a record, and of a list: nothing where it may not be. -/
def ip (r : Ino.Rec) : List Int := if r.may = true then Ino.putB r else []
def dp (es : List Dir.Ent) : List Int := if Dir.may es = true then Dir.putB es else []
def rec0 : Ino.Rec := ⟨0, 0, 0, 0, 0, 0, 0, 0, 0, 0, ⟨#[]⟩⟩
/-- A record, of what is its kind's own. -/
def hd (l : List Nod) (own : List Int) (i x : Nat) (r : Ino.Rec) : Ino.Rec :=
  { r with kind := (gn l i).kind, mode := (gn l i).mode, uid := (own.idxOf (gn l i).uid : Nat), gid := (own.idxOf (gn l i).gid : Nat), links := (lnk l i : Nat), xattr := (x : Nat) }
def fin (l : List Nod) (own : List Int) (i : Nat) (q : Ws × Ino.Rec) : Ws × Nat :=
  ({ (xat q.1 (gn l i).xs).1 with I := (xat q.1 (gn l i).xs).1.I ++ ip (hd l own i (xat q.1 (gn l i).xs).2 q.2), R := (xat q.1 (gn l i).xs).1.R ++ [(i, rfn (xat q.1 (gn l i).xs).1.I)] }, rfn (xat q.1 (gn l i).xs).1.I)
/-- An entry: the p-th name of the j-th node, its kind, a ref. -/
def ent1 (l : List Nod) (p j r : Nat) : Dir.Ent := ⟨gs (gn l j).names p, (gn l j).kind, (r : Int)⟩
/-- Nodes that are written one behind the other, and their entries. -/
def kids (l : List Nod) (wr : Nat → Ws → Ws × Nat) (p : Nat) : List Nat → Ws × List Dir.Ent → Ws × List Dir.Ent
  | [], a => a
  | j :: js, a => kids l wr p js ((wr j a.1).1, a.2 ++ [ent1 l p j (wr j a.1).2])
theorem kids_append (l : List Nod) (wr : Nat → Ws → Ws × Nat) (p : Nat) : ∀ (js ks : List Nat) (a : Ws × List Dir.Ent), kids l wr p (js ++ ks) a = kids l wr p ks (kids l wr p js a)
  | [], ks, a => rfl
  | j :: js, ks, a => by rw [List.cons_append, kids, kids, kids_append l wr p js ks]
def flOf (l : List Nod) (fm : Fm) (i : Nat) : Fl := (lkF fm (gn l i).ino).getD ⟨0, 0, 0⟩
/-- What is a kind's own; of a directory all that is in it is written. -/
def okd (l : List Nod) (fm : Fm) (wr : Nat → Ws → Ws × Nat) (i : Nat) (s : Ws) : Ws × Ino.Rec :=
  if (gn l i).kind = 1 then
    ({ (kids l wr (gn l i).names.length (kidsN l (gn l i).names) (s, [])).1 with D := (kids l wr (gn l i).names.length (kidsN l (gn l i).names) (s, [])).1.D ++ dp (kids l wr (gn l i).names.length (kidsN l (gn l i).names) (s, [])).2 },
      { rec0 with start := (rfn (kids l wr (gn l i).names.length (kidsN l (gn l i).names) (s, [])).1.D : Nat), size := ((dp (kids l wr (gn l i).names.length (kidsN l (gn l i).names) (s, [])).2).length : Nat) })
  else if (gn l i).kind = 2 then (s, { rec0 with start := ((flOf l fm i).start : Nat), size := ((gn l i).data.length : Nat), frag := ((flOf l fm i).frag : Nat), off := ((flOf l fm i).off : Nat) })
  else (s, { rec0 with target := (gn l i).target })
/-- A node is written, all that is in it ahead. -/
def wr (l : List Nod) (own : List Int) (fm : Fm) : Nat → Nat → Ws → Ws × Nat
  | 0, _, s => (s, 0)
  | f + 1, i, s => match lkR l s.R (gn l i).ino with
    | some r => (s, r)
    | none => fin l own i (okd l fm (wr l own fm f) i s)
theorem wr_some {l : List Nod} {own : List Int} {fm : Fm} {f i r : Nat} {s : Ws} (h : lkR l s.R (gn l i).ino = some r) : wr l own fm (f + 1) i s = (s, r) := by rw [wr, h]
theorem wr_none {l : List Nod} {own : List Int} {fm : Fm} {f i : Nat} {s : Ws} (h : lkR l s.R (gn l i).ino = none) : wr l own fm (f + 1) i s = fin l own i (okd l fm (wr l own fm f) i s) := by rw [wr, h]
theorem xat_R (s : Ws) (xs : List (ByteArray × List Int)) : (xat s xs).1.R = s.R ∧ (xat s xs).1.I = s.I ∧ (xat s xs).1.D = s.D := by
  unfold xat
  split
  · exact ⟨rfl, rfl, rfl⟩
  · split <;> exact ⟨rfl, rfl, rfl⟩
/-- What is not below is not written. -/
theorem kids_other {l : List Nod} {wr : Nat → Ws → Ws × Nat} {p : Nat} {x : Int} : ∀ (js : List Nat) (a : Ws × List Dir.Ent), (∀ j ∈ js, ∀ s, lkR l (wr j s).1.R x = lkR l s.R x) → lkR l (kids l wr p js a).1.R x = lkR l a.1.R x
  | [], a, h => rfl
  | j :: js, a, h => by
    rw [kids, kids_other js _ (fun k hk => h k (List.mem_cons_of_mem _ hk))]
    exact h j (List.mem_cons_self ..) a.1
theorem okd_R {l : List Nod} {fm : Fm} {wr : Nat → Ws → Ws × Nat} {i : Nat} {s : Ws} {x : Int} (h : ∀ j ∈ kidsN l (gn l i).names, ∀ s, lkR l (wr j s).1.R x = lkR l s.R x) : lkR l (okd l fm wr i s).1.R x = lkR l s.R x := by
  unfold okd
  split
  · exact kids_other _ _ h
  · split <;> rfl
theorem wr_other {l : List Nod} {own : List Int} {fm : Fm} {x : Int} : ∀ (f j : Nat) (s : Ws), (∀ m, m < l.length → (gn l m).ino = x → (gn l m).names.length < (gn l j).names.length) → j < l.length → lkR l (wr l own fm f j s).1.R x = lkR l s.R x
  | 0, j, s, h, hj => rfl
  | f + 1, j, s, h, hj => by
    cases e : lkR l s.R (gn l j).ino with
    | some r => rw [wr_some e]
    | none =>
      rw [wr_none e]
      have hne : (gn l j).ino ≠ x := fun hx => by have := h j hj hx; omega
      unfold fin
      simp only []
      rw [lkR_other hne, (xat_R _ _).1]
      refine okd_R fun k hk s => ?_
      obtain ⟨h1, h2⟩ := kidsN_mem.1 hk
      exact wr_other f k s (fun m hm hx => by have := h m hm hx; have := (kidN_iff.1 h2).1; omega) h1
end Go.Proofs.YtoohanojfoichaaGreatDoor.Bld

/- Layer 14, on lists alone: how long what is written is at most. -/
namespace Go.Proofs.YtoohanojfoichaaGreatDoor.Bld
set_option linter.unusedVariables false
open Lz (g)
open Crc (ent)
open Frm Mtr Tre Nam Tab

/-- Sums of the first n. -/
def sm (e : Nat → Nat) : Nat → Nat
  | 0 => 0
  | n + 1 => sm e n + e n
theorem sm_le {e f : Nat → Nat} : ∀ n, (∀ k, k < n → e k ≤ f k) → sm e n ≤ sm f n
  | 0, _ => Nat.le_refl _
  | n + 1, h => Nat.add_le_add (sm_le n fun k hk => h k (by omega)) (h n (by omega))
theorem sm_eq {e f : Nat → Nat} : ∀ n, (∀ k, k < n → e k = f k) → sm e n = sm f n
  | 0, _ => rfl
  | n + 1, h => by rw [sm, sm, sm_eq n fun k hk => h k (by omega), h n (by omega)]
theorem sm_add (e f : Nat → Nat) : ∀ n, sm (fun k => e k + f k) n = sm e n + sm f n
  | 0 => rfl
  | n + 1 => by rw [sm, sm_add e f n, sm, sm]; omega
theorem sm_zero : ∀ n, sm (fun _ => 0) n = 0
  | 0 => rfl
  | n + 1 => by rw [sm, sm_zero n]
theorem sm_const {e : Nat → Nat} {c : Nat} : ∀ n, (∀ k, k < n → e k ≤ c) → sm e n ≤ c * n
  | 0, _ => Nat.zero_le _
  | n + 1, h => by
    have h1 := sm_const n fun k hk => h k (by omega)
    have h2 := h n (by omega)
    rw [sm, Nat.mul_add]; omega
theorem sm_swap (a : Nat → Nat → Nat) (m : Nat) : ∀ n, sm (fun v => sm (fun k => a v k) m) n = sm (fun k => sm (fun v => a v k) n) m
  | 0 => (sm_zero m).symm
  | n + 1 => by rw [sm, sm_swap a m n, ← sm_add]; rfl
theorem sm_pick (e : Nat → Nat) (v : Nat) : ∀ n, sm (fun k => if k = v then e k else 0) n = if v < n then e v else 0
  | 0 => rfl
  | n + 1 => by
    rw [sm, sm_pick e v n]
    by_cases h1 : v < n
    · rw [if_pos h1, if_neg (by omega), if_pos (by omega)]; rfl
    · by_cases h2 : n = v
      · subst h2; rw [if_neg h1, if_pos rfl, if_pos (by omega), Nat.zero_add]
      · rw [if_neg h1, if_neg h2, if_neg (by omega)]
theorem sm_one {P : Nat → Bool} {c : Nat} : ∀ n, (∀ i j, i < n → j < n → P i = true → P j = true → i = j) → sm (fun v => if P v = true then c else 0) n ≤ c
  | 0, _ => Nat.zero_le _
  | n + 1, h => by
    rw [sm]
    by_cases hp : P n = true
    · rw [if_pos hp, sm_eq (f := fun _ => 0) n (fun k hk => if_neg fun hk2 => by have := h k n (by omega) (by omega) hk2 hp; omega), sm_zero, Nat.zero_add]
      exact Nat.le_refl _
    · rw [if_neg hp]
      exact sm_one n fun i j hi hj => h i j (by omega) (by omega)
theorem sum_le {e : Nat → Nat} {n : Nat} : ∀ V : List Nat, V.Nodup → (∀ v ∈ V, v < n) → (V.map e).sum = sm (fun k => if k ∈ V then e k else 0) n
  | [], _, _ => by simp [sm_zero]
  | v :: V, hd, hl => by
    rw [List.nodup_cons] at hd
    rw [List.map_cons, List.sum_cons, sum_le V hd.2 fun x hx => hl x (List.mem_cons_of_mem _ hx)]
    have h1 := sm_pick e v n
    rw [if_pos (hl v (List.mem_cons_self ..))] at h1
    rw [← h1, ← sm_add]
    refine sm_eq n fun k _ => ?_
    by_cases hk : k = v
    · subst hk; rw [if_pos rfl, if_neg hd.1, if_pos (List.mem_cons_self ..)]; rfl
    · rw [if_neg hk, Nat.zero_add]
      by_cases hm : k ∈ V
      · rw [if_pos hm, if_pos (List.mem_cons_of_mem _ hm)]
      · rw [if_neg hm, if_neg]
        intro h; rcases List.mem_cons.1 h with h | h
        · exact hk h
        · exact hm h
theorem sum_all {e : Nat → Nat} {n : Nat} {V : List Nat} (hd : V.Nodup) (hl : ∀ v ∈ V, v < n) : (V.map e).sum ≤ sm e n := by
  rw [sum_le V hd hl]
  refine sm_le n fun k _ => ?_
  split
  · exact Nat.le_refl _
  · exact Nat.zero_le _
theorem sum_filter (e : Nat → Nat) (P : Nat → Bool) : ∀ n, (((List.range n).filter P).map e).sum = sm (fun k => if P k = true then e k else 0) n
  | 0 => rfl
  | n + 1 => by
    rw [List.range_succ, List.filter_append, List.map_append, List.sum_append, sum_filter e P n, sm]
    congr 1
    by_cases h : P n = true
    · simp [h]
    · simp [h]
theorem len_sum (V : List Nat) : (V.map fun _ => 1).sum = V.length := by
  induction V with
  | nil => rfl
  | cons v V ih => rw [List.map_cons, List.sum_cons, ih, List.length_cons]; omega
theorem len_le {n : Nat} {V : List Nat} (hd : V.Nodup) (hl : ∀ v ∈ V, v < n) : V.length ≤ n := by
  have h := sum_all (e := fun _ => 1) hd hl
  rw [len_sum] at h
  have := sm_const (e := fun _ => 1) (c := 1) n (fun _ _ => Nat.le_refl _)
  omega

/-- What a node's record, its name, its list, its attributes take at most. -/
def iw (l : List Nod) (v : Nat) : Nat := 22 + (gn l v).target.size
def nw (l : List Nod) (k : Nat) : Nat := 6 + (gs (gn l k).names ((gn l k).names.length - 1)).size
def dw (l : List Nod) (v : Nat) : Nat := if (gn l v).kind = 1 then ((kidsN l (gn l v).names).map (nw l)).sum else 0
def xw (l : List Nod) (v : Nat) : Nat := if (gn l v).xs.length = 0 then 0 else 1 + 242 * (gn l v).xs.length
/-- The nodes that were written. -/
def vs (s : Ws) : List Nat := s.R.map (·.1)
/-- What holds of what is written; i: a node that is being written (its list is there, or not yet). -/
structure WJ (l : List Nod) (s : Ws) (e : Nat) : Prop where
  nd : (vs s).Nodup
  lt : ∀ v ∈ vs s, v < l.length
  I : s.I.length ≤ ((vs s).map (iw l)).sum
  D : s.D.length ≤ ((vs s).map (dw l)).sum + e
  X : s.X.length ≤ ((vs s).map (xw l)).sum
  A : s.A.length ≤ s.R.length
  Av : ∀ p ∈ s.A, p.2 ≤ 270 * s.X.length + 127
  Rv : ∀ p ∈ s.R, p.2 ≤ 270 * s.I.length + 127
theorem rfn_le (z : List Int) : rfn z ≤ 270 * z.length + 127 := by
  have := fr_length ent z (z.length / 128)
  unfold rfn; omega
abbrev WI (l : List Nod) (s : Ws) : Prop := WJ l s 0
theorem wi0 (l : List Nod) : WI l ws0 := ⟨List.nodup_nil, fun v h => by simp [vs, ws0] at h, by simp [ws0], by simp [ws0], by simp [ws0], by simp [ws0], fun p h => by simp [ws0] at h, fun p h => by simp [ws0] at h⟩
theorem ip_len (r : Ino.Rec) : (ip r).length ≤ 22 + r.target.size := by
  unfold ip
  split
  · rename_i h
    have hl := Ino.ownB_length h
    have e : (Ino.putB r).length = 13 + (Ino.ownB r).length := by simp [Ino.putB, Ino.headB_length]
    have hk := Ino.kind_may h
    unfold Ino.isKind at hk
    simp at hk
    rcases hk with hk | hk | hk
    all_goals omega
  · simp
theorem putX_len (xs : List (ByteArray × List Int)) : (putX xs).1.length ≤ if xs.length = 0 then 0 else 1 + 242 * xs.length := by
  unfold putX
  split
  · rename_i h
    have h2 := flat_length (xsOk_mem h.2).2
    have h3 : xs.length ≠ 0 := fun e => h.1 (List.eq_nil_of_length_eq_zero e)
    rw [if_neg h3]
    simp only [xsB, List.length_cons]; omega
  · simp
theorem dp_len (l : List Nod) (wr : Nat → Ws → Ws × Nat) (p : Nat) : ∀ (js : List Nat) (a : Ws × List Dir.Ent), (∀ j ∈ js, (gn l j).names.length = p + 1) → (Dir.putB (kids l wr p js a).2).length = (Dir.putB a.2).length + (js.map (nw l)).sum
  | [], a, _ => by simp [kids]
  | j :: js, a, h => by
    rw [kids, dp_len l wr p js _ (fun k hk => h k (List.mem_cons_of_mem _ hk)), Dir.putB_append, Dir.putB_one, List.length_append, Dir.entB_length, List.map_cons, List.sum_cons]
    have h1 := h j (List.mem_cons_self ..)
    unfold nw ent1
    rw [h1, Nat.add_sub_cancel]
    simp only []; omega
theorem kids_inv {l : List Nod} {wr : Nat → Ws → Ws × Nat} {p : Nat} : ∀ (js : List Nat) (a : Ws × List Dir.Ent), (∀ j ∈ js, ∀ s, WI l s → WI l (wr j s).1) → WI l a.1 → WI l (kids l wr p js a).1
  | [], a, _, h => h
  | j :: js, a, hw, h => by
    rw [kids]
    exact kids_inv js _ (fun k hk => hw k (List.mem_cons_of_mem _ hk)) (hw j (List.mem_cons_self ..) _ h)
theorem okd_inv {l : List Nod} {fm : Fm} {wr : Nat → Ws → Ws × Nat} {i : Nat} {s : Ws} (hw : ∀ j ∈ kidsN l (gn l i).names, ∀ s, WI l s → WI l (wr j s).1) (h : WI l s) :
    WJ l (okd l fm wr i s).1 (dw l i) ∧ (okd l fm wr i s).2.target.size ≤ (gn l i).target.size := by
  unfold okd
  by_cases hk : (gn l i).kind = 1
  · rw [if_pos hk]
    have h1 := kids_inv (p := (gn l i).names.length) _ (s, []) hw h
    have h2 := dp_len l wr (gn l i).names.length (kidsN l (gn l i).names) (s, []) (fun j hj => (kidN_iff.1 (kidsN_mem.1 hj).2).1)
    rw [Dir.putB_nil, List.length_nil, Nat.zero_add] at h2
    refine ⟨⟨h1.nd, h1.lt, h1.I, ?_, h1.X, h1.A, h1.Av, h1.Rv⟩, by exact Nat.zero_le _⟩
    have h3 := h1.D
    have h4 : (dp (kids l wr (gn l i).names.length (kidsN l (gn l i).names) (s, [])).2).length ≤ dw l i := by
      rw [dw, if_pos hk, ← h2]
      unfold dp
      split
      · exact Nat.le_refl _
      · exact Nat.zero_le _
    show (_ ++ _ : List Int).length ≤ ((vs (kids l wr (gn l i).names.length (kidsN l (gn l i).names) (s, [])).1).map (dw l)).sum + dw l i
    rw [List.length_append]
    omega
  · rw [if_neg hk]
    have h2 : WJ l s (dw l i) := ⟨h.nd, h.lt, h.I, by have := h.D; omega, h.X, h.A, h.Av, h.Rv⟩
    split
    · exact ⟨h2, by exact Nat.zero_le _⟩
    · exact ⟨h2, Nat.le_refl _⟩
theorem xat_v {s : Ws} (h : ∀ p ∈ s.A, p.2 ≤ 270 * s.X.length + 127) (xs : List (ByteArray × List Int)) : ∀ p ∈ (xat s xs).1.A, p.2 ≤ 270 * (xat s xs).1.X.length + 127 := by
  by_cases h0 : xs.length = 0
  · rw [xat_nil h0]; exact h
  · cases hl : Dat.look s.A (putX xs).1 with
    | some r => rw [xat_some h0 hl]; exact h
    | none =>
      rw [xat_none h0 hl]
      intro p hp
      simp only [List.mem_append, List.mem_singleton, List.length_append] at hp ⊢
      rcases hp with hp | rfl
      · have := h p hp; omega
      · have := rfn_le s.X
        simp only []; omega
theorem once_v {s : Ws} (h : ∀ p ∈ s.A, p.2 ≤ 270 * s.X.length + 127) (z : List Int) : (once s z).2 ≤ 270 * s.X.length + 127 := by
  unfold once
  cases hl : Dat.look s.A z with
  | some r => exact h (z, r) (Dat.look_mem hl)
  | none => exact rfn_le s.X
theorem fin_inv {l : List Nod} {own : List Int} {i : Nat} {q : Ws × Ino.Rec} (hi : i < l.length) (h : WJ l q.1 (dw l i)) (ht : q.2.target.size ≤ (gn l i).target.size) (hn : lkR l q.1.R (gn l i).ino = none) : WI l (fin l own i q).1 := by
  obtain ⟨e1, e2, e3⟩ := xat_R q.1 (gn l i).xs
  have hv : i ∉ vs q.1 := fun hm => by
    unfold vs at hm
    obtain ⟨p, hp, rfl⟩ := List.mem_map.1 hm
    exact lkR_mem hn hp rfl
  have hAv : ∀ p ∈ (xat q.1 (gn l i).xs).1.A, p.2 ≤ 270 * (xat q.1 (gn l i).xs).1.X.length + 127 := xat_v h.Av _
  have hX : (xat q.1 (gn l i).xs).1.X.length ≤ ((vs q.1).map (xw l)).sum + xw l i ∧ (xat q.1 (gn l i).xs).1.A.length ≤ q.1.R.length + 1 := by
    have h1 := h.X
    have h2 := h.A
    by_cases h0 : (gn l i).xs.length = 0
    · rw [xat_nil h0]; exact ⟨Nat.le_trans h1 (Nat.le_add_right _ _), Nat.le_succ_of_le h2⟩
    · cases hl : Dat.look q.1.A (putX (gn l i).xs).1 with
      | some r => rw [xat_some h0 hl]; exact ⟨Nat.le_trans h1 (Nat.le_add_right _ _), Nat.le_succ_of_le h2⟩
      | none =>
        rw [xat_none h0 hl]
        have h3 := putX_len (gn l i).xs
        rw [if_neg h0] at h3
        simp only [List.length_append, List.length_cons, List.length_nil]
        rw [xw, if_neg h0]
        exact ⟨by omega, by omega⟩
  have evs : vs (fin l own i q).1 = vs q.1 ++ [i] := by unfold vs fin; simp only [e1, List.map_append, List.map_cons, List.map_nil]
  have hip := ip_len (hd l own i (xat q.1 (gn l i).xs).2 q.2)
  have htt : (hd l own i (xat q.1 (gn l i).xs).2 q.2).target.size ≤ (gn l i).target.size := ht
  refine ⟨?_, fun v hv => ?_, ?_, ?_, ?_, ?_, ?_, ?_⟩
  · rw [evs, List.nodup_append]
    refine ⟨h.nd, by simp, fun a ha b hb => ?_⟩
    simp at hb
    subst hb
    exact fun e => hv (e ▸ ha)
  · rw [evs] at hv
    rcases List.mem_append.1 hv with hv | hv
    · exact h.lt v hv
    · simp at hv; omega
  · rw [evs, List.map_append, List.sum_append]
    have h1 := h.I
    unfold fin
    simp only [e2, List.length_append, List.map_cons, List.map_nil, List.sum_cons, List.sum_nil, iw]
    omega
  · rw [evs, List.map_append, List.sum_append]
    have h1 := h.D
    unfold fin
    simp only [e3, List.map_cons, List.map_nil, List.sum_cons, List.sum_nil]
    omega
  · rw [evs, List.map_append, List.sum_append]
    unfold fin
    simp only [List.map_cons, List.map_nil, List.sum_cons, List.sum_nil]
    omega
  · unfold fin
    simp only [e1, List.length_append, List.length_cons, List.length_nil]
    omega
  · exact hAv
  · intro p hp
    unfold fin at hp ⊢
    simp only [e1, e2, List.mem_append, List.mem_singleton, List.length_append] at hp ⊢
    rcases hp with hp | rfl
    · have := h.Rv p hp; omega
    · have := rfn_le q.1.I
      simp only []; omega
/-- A directory's Ino is its own alone. -/
def Uno (l : List Nod) : Prop := ∀ i j, i < l.length → j < l.length → (gn l i).ino = (gn l j).ino → (gn l i).kind = 1 → i = j
theorem okd_none {l : List Nod} {own : List Int} {fm : Fm} (hU : Uno l) {f i : Nat} {s : Ws} (hi : i < l.length) (h : lkR l s.R (gn l i).ino = none) : lkR l (okd l fm (wr l own fm f) i s).1.R (gn l i).ino = none := by
  by_cases hk : (gn l i).kind = 1
  · rw [okd_R, h]
    intro j hj s
    obtain ⟨h1, h2⟩ := kidsN_mem.1 hj
    refine wr_other f j s (fun m hm hx => ?_) h1
    have e := hU i m hi hm hx.symm hk
    subst e
    have := (kidN_iff.1 h2).1
    omega
  · unfold okd
    rw [if_neg hk]
    split <;> exact h
theorem wr_inv {l : List Nod} {own : List Int} {fm : Fm} (hU : Uno l) : ∀ (f i : Nat) (s : Ws), i < l.length → WI l s → WI l (wr l own fm f i s).1
  | 0, i, s, _, h => h
  | f + 1, i, s, hi, h => by
    cases e : lkR l s.R (gn l i).ino with
    | some r => rw [wr_some e]; exact h
    | none =>
      rw [wr_none e]
      obtain ⟨h1, h2⟩ := okd_inv (fm := fm) (wr := wr l own fm f) (i := i) (fun j hj s hs => wr_inv hU f j s (kidsN_mem.1 hj).1 hs) h
      exact fin_inv hi h1 h2 (okd_none hU hi e)
/-- Each node is within one directory at most. -/
theorem dw_sum {l : List Nod} (hd : (l.map Nod.names).Nodup) : sm (dw l) l.length ≤ sm (nw l) l.length := by
  have h1 : sm (dw l) l.length ≤ sm (fun v => sm (fun k => if kidN l (gn l v).names k = true then nw l k else 0) l.length) l.length := by
    refine sm_le _ fun v hv => ?_
    unfold dw
    split
    · unfold kidsN; rw [sum_filter]; exact Nat.le_refl _
    · exact Nat.zero_le _
  refine Nat.le_trans h1 ?_
  rw [sm_swap]
  refine sm_le _ fun k hk => ?_
  refine sm_one _ fun i j hi hj p1 p2 => ?_
  have e1 := kidN_iff.1 p1
  have e2 := kidN_iff.1 p2
  have e : (gn l i).names = (gn l j).names := by
    have : (gn l i).names.length = (gn l j).names.length := by omega
    rw [← e1.2, ← e2.2, this]
  rw [gn_lt l i hi, gn_lt l j hj] at e
  have := (List.getElem_inj (i := i) (j := j) (xs := l.map Nod.names) (h₀ := by simpa using hi) (h₁ := by simpa using hj) hd).1 (by simpa using e)
  exact this
section
variable {l : List Nod} {s : Ws}
theorem WJ.bR {e : Nat} (h : WJ l s e) : s.R.length ≤ l.length := by
  have := len_le h.nd h.lt
  unfold vs at this
  simpa using this
theorem WJ.bA {e : Nat} (h : WJ l s e) : s.A.length ≤ l.length := Nat.le_trans h.A h.bR
theorem WJ.bI {e : Nat} (h : WJ l s e) : s.I.length ≤ sm (iw l) l.length := Nat.le_trans h.I (sum_all h.nd h.lt)
theorem WJ.bX {e : Nat} (h : WJ l s e) : s.X.length ≤ sm (xw l) l.length := Nat.le_trans h.X (sum_all h.nd h.lt)
theorem WJ.bD {e : Nat} (h : WJ l s e) (hd : (l.map Nod.names).Nodup) : s.D.length ≤ sm (nw l) l.length + e := by
  have h1 := h.D
  have h2 := sum_all (e := dw l) h.nd h.lt
  have h3 := dw_sum hd
  omega
theorem dw_le (hd : (l.map Nod.names).Nodup) {i : Nat} (hi : i < l.length) : dw l i ≤ sm (nw l) l.length := by
  have h2 := sum_all (e := dw l) (V := [i]) (n := l.length) (by simp) (by simpa using hi)
  have h3 := dw_sum hd
  simp at h2
  omega
end
end Go.Proofs.YtoohanojfoichaaGreatDoor.Bld

/- Layer 14: maps of the call's own by numbers: refs of records, and where files are. -/
namespace Go.Proofs.YtoohanojfoichaaGreatDoor
set_option linter.unusedVariables false
open Go.RowKit Go.Maps
open Nam Tre Bld

theorem keyI {x : Int} (h : (Lit.int .i64 x).wf = true) : keyOf Tryz.prog 3 (.int .i64 x) = some (.int .i64 x) := keyOf_int_mk Tryz.underlying3 h
theorem keyedI : Keyed Tryz.prog 3 := int_keyed Tryz.underlying3
/-- Where the file of an Ino is, as a map has it. -/
def flv (f : Fl) : Value := .agg #[.int .i64 (f.start : Int), .int .i64 (f.frag : Int), .int .i64 (f.off : Int)]
/-- The map in block b has sz entries: those of f. -/
def MpF (w : World) (b : Nat) (M : Fm) : Prop :=
  ∃ D : DataW Value, w.ownsMap Tryz.prog 3 HV b M.length D ∧ Maps.size D = M.length ∧ ∀ x, has D (.int .i64 x) = (lkF M x).isSome ∧ ∀ v, lkF M x = some v → D.atKey (.int .i64 x) (.held (flv ⟨0, 0, 0⟩)) = .held (flv v)
theorem MpF.same {w w' : World} {b : Nat} {M : Fm} (h : MpF w b M) (hb : w'.heap[b]? = w.heap[b]?) : MpF w' b M := by
  obtain ⟨D, ⟨es, clock, h1, h2⟩, h3⟩ := h
  exact ⟨D, ⟨es, clock, hb.trans h1, h2⟩, h3⟩
theorem MpF.lt {w : World} {b : Nat} {M : Fm} (h : MpF w b M) : b < w.heap.size := by
  obtain ⟨D, h1, _⟩ := h
  exact h1.lt
theorem MpF.ne {w : World} {b k : Nat} {M : Fm} {cs : Array Value} {t : TypeId} {fz : Nat × Nat} (h : MpF w b M) (hk : w.heap[k]? = some (.cells cs t fz)) : k ≠ b := fun e => by
  subst e
  obtain ⟨D, ⟨es, clock, h1, _⟩, _⟩ := h
  rw [h1] at hk
  cases hk
theorem MpF.new (w : World) : MpF (w.alloc (.map #[] 0)) w.heap.size [] :=
  ⟨.map [], World.ownsMap_made w _ _ _, rfl, fun x => ⟨rfl, fun z hz => by cases hz⟩⟩
theorem zeroFl (w : World) : (zeroValue 85).run Tryz.prog w = .ok (flv ⟨0, 0, 0⟩) w := by kernel_rfl
theorem MpF.look {w : World} {b : Nat} {M : Fm} (h : MpF w b M) {x : Int} (hx : (Lit.int .i64 x).wf = true) :
    (Instr.lookup 50 (.map (some b)) (.int .i64 x) true).run Tryz.prog w = .ok (.tuple #[flv ((lkF M x).getD ⟨0, 0, 0⟩), .bool (lkF M x).isSome]) w := by
  obtain ⟨D, h1, _, h3⟩ := h
  obtain ⟨e1, e2⟩ := h3 x
  obtain ⟨v, ps, hr, hv⟩ := h1.look_ok keyedI Tryz.underlying50 (zeroFl w) (zd := .held (flv ⟨0, 0, 0⟩)) (zp := []) rfl (keyI hx)
  rw [e1] at hr
  cases hf : lkF M x with
  | none =>
    rw [hf] at e1 hr
    rw [Maps.atKey_of_not_has e1] at hv
    simp [HV] at hv
    rw [hv.1] at hr
    exact hr
  | some z =>
    rw [hf] at hr
    rw [e2 z hf] at hv
    simp [HV] at hv
    rw [hv.1] at hr
    exact hr
theorem MpF.get {w : World} {b : Nat} {M : Fm} (h : MpF w b M) {x : Int} (hx : (Lit.int .i64 x).wf = true) :
    (Instr.lookup 50 (.map (some b)) (.int .i64 x) false).run Tryz.prog w = .ok (flv ((lkF M x).getD ⟨0, 0, 0⟩)) w := by
  obtain ⟨D, h1, _, h3⟩ := h
  obtain ⟨e1, e2⟩ := h3 x
  obtain ⟨v, ps, hr, hv⟩ := h1.lookup keyedI Tryz.underlying50 (zeroFl w) (zd := .held (flv ⟨0, 0, 0⟩)) (zp := []) rfl (keyI hx)
  cases hf : lkF M x with
  | none =>
    rw [hf] at e1
    rw [Maps.atKey_of_not_has e1] at hv
    simp [HV] at hv
    rw [hv.1] at hr
    exact hr
  | some z =>
    rw [e2 z hf] at hv
    simp [HV] at hv
    rw [hv.1] at hr
    exact hr
theorem MpF.store {w : World} {b : Nat} {M : Fm} (h : MpF w b M) {x : Int} (hx : (Lit.int .i64 x).wf = true) (hM : M.length ≤ 1000000) (hn : lkF M x = none) (a : Fl) :
    ∃ w', (Instr.mapUpdate 50 (.map (some b)) (.int .i64 x) (flv a)).run Tryz.prog w = .ok () w' ∧ MpF w' b (M ++ [(x, a)]) ∧ w.grownBy w' (some b) := by
  obtain ⟨D, h1, h2, h3⟩ := h
  obtain ⟨w', hr, hm, hg⟩ := h1.update keyedI Tryz.underlying50 (by unfold maxLen; omega) (keyI hx) (show HV (flv a) = some (.held _, []) from rfl)
  have hs : Maps.size (D.put (.int .i64 x) (.held (flv a))) = (M ++ [(x, a)]).length := by
    rw [Maps.size_put (h1.tidy keyedI), (h3 x).1, h2, hn]; simp
  refine ⟨w', hr, ⟨D.put (.int .i64 x) (.held (flv a)), ?_, hs, fun y => ?_⟩, hg⟩
  · have := tight hm
    rw [hs] at this
    exact this
  · by_cases e : y = x
    · subst e
      rw [lkF_none hn]
      refine ⟨Maps.has_put_same h1.isMap (show WideAt.IsKeyLit (Lit.int .i64 y) from trivial) _, fun z hz => ?_⟩
      cases hz
      exact Maps.atKey_put_same h1.isMap (show WideAt.IsKeyLit (Lit.int .i64 y) from trivial) _ _
    · have ne : Lit.int .i64 y ≠ Lit.int .i64 x := fun h => e (by injection h)
      rw [lkF_other e, Maps.has_put_other ne]
      refine ⟨(h3 y).1, fun z hz => ?_⟩
      rw [Maps.atKey_put_other ne]
      exact (h3 y).2 z hz
/-- The refs of the records that were written, by Ino. -/
def MpR (w : World) (b : Nat) (l : List Nod) (R : List (Nat × Nat)) : Prop := ∃ f, MpK 3 w b R.length f ∧ ∀ x, f (.int .i64 x) = lkR l R x
section
variable {w w' : World} {b : Nat} {l : List Nod} {R : List (Nat × Nat)}
theorem MpR.same (h : MpR w b l R) (hb : w'.heap[b]? = w.heap[b]?) : MpR w' b l R := by
  obtain ⟨f, h1, h2⟩ := h
  exact ⟨f, h1.same hb, h2⟩
theorem MpR.lt (h : MpR w b l R) : b < w.heap.size := by obtain ⟨f, h1, _⟩ := h; exact h1.lt
theorem MpR.new (w : World) (l : List Nod) : MpR (w.alloc (.map #[] 0)) w.heap.size l [] := ⟨_, mpk_new _ w, fun x => rfl⟩
theorem MpR.look (h : MpR w b l R) {x : Int} (hx : (Lit.int .i64 x).wf = true) :
    (Instr.lookup 59 (.map (some b)) (.int .i64 x) true).run Tryz.prog w = .ok (.tuple #[.int .i64 (((lkR l R x).getD 0 : Nat) : Int), .bool (lkR l R x).isSome]) w := by
  obtain ⟨f, h1, h2⟩ := h
  have := h1.look keyedI Tryz.underlying59 (keyI hx) trivial
  rw [h2 x] at this
  exact this
theorem MpR.len (h : MpR w b l R) (ty : TypeId) : (Builtin.len_ #[59] ty #[.map (some b)]).run Tryz.prog w = .ok (.int .i64 (R.length : Int)) w := by
  obtain ⟨f, h1, h2⟩ := h
  exact h1.len Tryz.underlying59 ty
theorem MpR.store (h : MpR w b l R) {i : Nat} (hx : (Lit.int .i64 (gn l i).ino).wf = true) (hM : R.length ≤ 1000000) (hn : lkR l R (gn l i).ino = none) (a : Nat) :
    ∃ w', (Instr.mapUpdate 59 (.map (some b)) (.int .i64 (gn l i).ino) (.int .i64 (a : Int))).run Tryz.prog w = .ok () w' ∧ MpR w' b l (R ++ [(i, a)]) ∧ w.grownBy w' (some b) := by
  obtain ⟨f, h1, h2⟩ := h
  obtain ⟨w', k1, k2, k3⟩ := h1.store keyedI Tryz.underlying59 (keyI hx) trivial hM a
  refine ⟨w', k1, ⟨upd f (.int .i64 (gn l i).ino) a, ?_, fun y => ?_⟩, k3⟩
  · rw [h2, hn] at k2
    rw [List.length_append]
    exact k2
  · by_cases e : y = (gn l i).ino
    · subst e
      rw [upd_same _ _ _ (show WideAt.IsKeyLit (Lit.int .i64 (gn l i).ino) from trivial), lkR_at hn]
    · rw [upd_other _ _ (fun hk => e (by injection hk)), lkR_other (Ne.symm e)]
      exact h2 y
end
end Go.Proofs.YtoohanojfoichaaGreatDoor

/- Layer 14: what the program's records are in memory while a tree is written: three writers, two maps, and what stays. -/
namespace Go.Proofs.YtoohanojfoichaaGreatDoor
set_option linter.unusedVariables false
open Go.RowKit Go.Maps
open Lz (g)
open Crc (ent)
open Frm Mtr Tre Nam Tab Bld

/-- The worlds behind two boxes. -/
theorem two_boxes (w : World) (a b : Obj) : Below w.heap.size w ((w.alloc a).alloc b) ∧ ((w.alloc a).alloc b).heap[w.heap.size]? = some a ∧ ((w.alloc a).alloc b).heap[w.heap.size + 1]? = some b := by
  have h1 : Below w.heap.size w (w.alloc a) := (Below.refl _ w).alloc (Nat.le_refl _) a
  refine ⟨h1.alloc h1.size b, ?_, heap_new (by simp)⟩
  exact (Below.heap_alloc _ _ _ (by simp)).trans (heap_new (by simp))
/-- Where all of it is. -/
structure Cx where
  a : Option Addr
  n : Nat
  c : Nat
  fb : Nat
  oa : Option Addr
  on : Nat
  oc : Nat
  pi : Nat
  pd : Nat
  px : Nat
  mr : Nat
  mx : Nat
  b1 : Nat
  b2 : Nat
  rp : Nat
  tb : Nat
  L : List (Nv × Nod)
  own : List Int
  fm : Fm
/-- The records' cells. -/
def rcv (x : Cx) : Array Value := #[.slice x.a x.n x.c, .map (some x.fb), .slice x.oa x.on x.oc, .pointer (some ⟨x.pi, 0, none⟩), .pointer (some ⟨x.pd, 0, none⟩), .pointer (some ⟨x.px, 0, none⟩), .func (.func 90) #[] #[.pointer (some ⟨x.b1, 0, none⟩), .pointer (some ⟨x.b2, 0, none⟩)], .map (some x.mr)]
/-- What stays as it was ahead: nodes, files, table. -/
structure Sta (x : Cx) (W0 : World) : Prop where
  ns : Ns W0 x.a x.n x.L
  nc : x.n ≤ x.c
  ncm : x.c ≤ 9223372036854775807
  n40 : x.n ≤ 40
  fm : MpF W0 x.fb x.fm
  tb : Tb W0 x.tb ent
  tlt : x.tb < W0.heap.size
  ino : ∀ i, i < x.n → (Lit.int .i64 (gn (nds x.L) i).ino).wf = true
  uno : Uno (nds x.L)
  nod : ((nds x.L).map Nod.names).Nodup
  can : CanP x.L
  may : ∀ n ∈ nds x.L, Tre.may n = true
  deep : ∀ n ∈ nds x.L, n.names.length ≤ 16
  long : ∀ n ∈ nds x.L, ∀ s ∈ n.names, s.size ≤ 255
  asc : x.own.Pairwise (· < ·)
  mem : ∀ n ∈ nds x.L, n.uid ∈ x.own ∧ n.gid ∈ x.own
  onl : x.own.length = x.on
  ocl : x.on ≤ x.oc
  ocm : x.oc ≤ 9223372036854775807
  on8 : x.on ≤ 80
  i64 : ∀ y ∈ x.own, In64 y
theorem Sta.names_sum {x : Cx} {W0 : World} (h : Sta x W0) : sm (nw (nds x.L)) (nds x.L).length ≤ 10440 := by
  have hl : (nds x.L).length ≤ 40 := by rw [nds_length, h.ns.1]; exact h.n40
  have h1 := sm_const (e := nw (nds x.L)) (c := 261) (nds x.L).length (fun k hk => by
    unfold nw
    rw [gn_lt _ k hk]
    by_cases hn : (nds x.L)[k].names = []
    · rw [hn]; show 6 + 0 ≤ 261; omega
    · have hp : 0 < (nds x.L)[k].names.length := List.length_pos_iff.2 hn
      have := h.long _ (List.getElem_mem hk) (gs (nds x.L)[k].names ((nds x.L)[k].names.length - 1)) (by
        unfold gs
        rw [List.getD_eq_getElem?_getD, List.getElem?_eq_getElem (by omega)]
        exact List.getElem_mem _)
      omega)
  omega
theorem may_parts {n : Nod} (h : Tre.may n = true) : n.target.size ≤ 200 ∧ n.xs.length ≤ 8 := by
  unfold Tre.may at h
  simp only [Bool.and_eq_true] at h
  obtain ⟨⟨⟨h1, _⟩, h2⟩, _⟩ := h
  refine ⟨?_, by unfold xsOk at h2; simp only [Bool.and_eq_true, decide_eq_true_eq] at h2; exact h2.1⟩
  have he : ∀ t : ByteArray, t.toList.isEmpty = true → t.size ≤ 200 := fun t ht => by
    have := congrArg List.length (List.isEmpty_iff.1 ht)
    rw [toList_length, List.length_nil] at this
    omega
  unfold kdOk at h1
  split at h1
  · simp only [Bool.and_eq_true] at h1; exact he _ h1.2
  · split at h1
    · simp only [Bool.and_eq_true] at h1; exact he _ h1.2
    · split at h1
      · simp only [Bool.and_eq_true, txt, decide_eq_true_eq] at h1
        have := h1.2.1.2
        rw [toList_length] at this
        exact this
      · simp at h1
theorem Sta.i_sum {x : Cx} {W0 : World} (h : Sta x W0) : sm (iw (nds x.L)) (nds x.L).length ≤ 8880 := by
  have hl : (nds x.L).length ≤ 40 := by rw [nds_length, h.ns.1]; exact h.n40
  have h1 := sm_const (e := iw (nds x.L)) (c := 222) (nds x.L).length (fun k hk => by
    unfold iw
    rw [gn_lt _ k hk]
    have := (may_parts (h.may _ (List.getElem_mem hk))).1
    omega)
  omega
theorem Sta.x_sum {x : Cx} {W0 : World} (h : Sta x W0) : sm (xw (nds x.L)) (nds x.L).length ≤ 77480 := by
  have hl : (nds x.L).length ≤ 40 := by rw [nds_length, h.ns.1]; exact h.n40
  have h1 := sm_const (e := xw (nds x.L)) (c := 1937) (nds x.L).length (fun k hk => by
    unfold xw
    rw [gn_lt _ k hk]
    have := (may_parts (h.may _ (List.getElem_mem hk))).2
    split <;> omega)
  omega
/-- Blocks that stay. -/
def Stc (x : Cx) (W0 : World) (k : Nat) : Prop := k < W0.heap.size ∨ k = x.rp ∨ k = x.b1 ∨ k = x.b2 ∨ ∃ a', x.oa = some a' ∧ k = a'.block
/-- The records: what was written so far; oi, od, ox: the writers' own blocks. -/
structure Rst (x : Cx) (W0 w : World) (oi od ox : Nat → Prop) (s : Ws) : Prop where
  bel : Below W0.heap.size W0 w
  rc : w.heap[x.rp]? = some (.cells (rcv x) 61 (0, 0))
  h1 : w.heap[x.b1]? = some (.cells #[.map (some x.mx)] 129 (0, 0))
  h2 : w.heap[x.b2]? = some (.cells #[.pointer (some ⟨x.px, 0, none⟩)] 57 (0, 0))
  ow : Zs w x.oa x.on x.own
  olt : ∀ a', x.oa = some a' → a'.block < w.heap.size
  wi : WrM w x.pi oi x.tb (fr ent s.I (s.I.length / 128)) (rest s.I)
  wd : WrM w x.pd od x.tb (fr ent s.D (s.D.length / 128)) (rest s.D)
  wx : WrM w x.px ox x.tb (fr ent s.X (s.X.length / 128)) (rest s.X)
  mr : MpR w x.mr (nds x.L) s.R
  mx : MpD w x.mx s.A
  di : ∀ k, oi k → ¬ Stc x W0 k ∧ ¬ od k ∧ ¬ ox k ∧ k ≠ x.mr ∧ k ≠ x.mx
  dd : ∀ k, od k → ¬ Stc x W0 k ∧ ¬ ox k ∧ k ≠ x.mr ∧ k ≠ x.mx
  dx : ∀ k, ox k → ¬ Stc x W0 k ∧ k ≠ x.mr ∧ k ≠ x.mx
  sr : ¬ Stc x W0 x.mr
  sx : ¬ Stc x W0 x.mx
  mm : x.mr ≠ x.mx
/-- All blocks that are the records' own. -/
def Ou (x : Cx) (oi od ox : Nat → Prop) (k : Nat) : Prop := oi k ∨ od k ∨ ox k ∨ k = x.mr ∨ k = x.mx
section
variable {x : Cx} {W0 w w' : World} {oi od ox oi' od' ox' : Nat → Prop} {s : Ws}
theorem Rst.slt (h : Rst x W0 w oi od ox s) {k : Nat} (hk : Stc x W0 k) : k < w.heap.size := by
  rcases hk with hk | hk | hk | hk | ⟨a', h1, h2⟩
  · exact Nat.lt_of_lt_of_le hk h.bel.size
  · rw [hk]; exact heap_lt h.rc
  · rw [hk]; exact heap_lt h.h1
  · rw [hk]; exact heap_lt h.h2
  · rw [h2]; exact h.olt _ h1
theorem Rst.olt' (h : Rst x W0 w oi od ox s) {k : Nat} (hk : Ou x oi od ox k) : k < w.heap.size := by
  rcases hk with hk | hk | hk | hk | hk
  · exact h.wi.olt k hk
  · exact h.wd.olt k hk
  · exact h.wx.olt k hk
  · rw [hk]; exact h.mr.lt
  · rw [hk]; exact h.mx.lt
theorem Rst.off (h : Rst x W0 w oi od ox s) {k : Nat} (hk : Ou x oi od ox k) : ¬ Stc x W0 k := by
  rcases hk with hk | hk | hk | hk | hk
  · exact (h.di k hk).1
  · exact (h.dd k hk).1
  · exact (h.dx k hk).1
  · rw [hk]; exact h.sr
  · rw [hk]; exact h.sx
/-- What stays is as it was where nothing of it is written. -/
theorem Rst.stay (h : Rst x W0 w oi od ox s) {S : Nat → Prop} (hf : Fr S w w') (hn : ∀ k, S k → ¬ Stc x W0 k) :
    Below W0.heap.size W0 w' ∧ w'.heap[x.rp]? = some (.cells (rcv x) 61 (0, 0)) ∧ w'.heap[x.b1]? = some (.cells #[.map (some x.mx)] 129 (0, 0)) ∧ w'.heap[x.b2]? = some (.cells #[.pointer (some ⟨x.px, 0, none⟩)] 57 (0, 0)) ∧ Zs w' x.oa x.on x.own ∧ ∀ a', x.oa = some a' → a'.block < w'.heap.size := by
  have hb : Below W0.heap.size w w' := hf.below _ h.bel.size (fun k hk => Nat.le_of_not_lt fun hl => hn k hk (.inl hl))
  have e1 : ∀ k, Stc x W0 k → w'.heap[k]? = w.heap[k]? := fun k hk => hf.block k (h.slt hk) (fun hs => hn k hs hk)
  refine ⟨h.bel.trans hb, (e1 _ (.inr (.inl rfl))).trans h.rc, (e1 _ (.inr (.inr (.inl rfl)))).trans h.h1, (e1 _ (.inr (.inr (.inr (.inl rfl))))).trans h.h2, ?_, fun a' ha => Nat.lt_of_lt_of_le (h.olt a' ha) hf.size⟩
  have hz := h.ow
  refine ⟨hz.1, hz.2.imp id ?_⟩
  rintro ⟨b, off, e, hb, hc⟩
  refine ⟨b, off, e, Nat.lt_of_lt_of_le hb hf.size, fun i hi => ?_⟩
  exact (hf.cell (q := ⟨b, off + i, none⟩) hb (fun hs => hn b hs (.inr (.inr (.inr (.inr ⟨_, e, rfl⟩)))))).trans (hc i hi)
/-- Where nothing of the records is written they are as they were. -/
theorem Rst.fr (h : Rst x W0 w oi od ox s) {S : Nat → Prop} (hf : Fr S w w') (hn : ∀ k, S k → ¬ Stc x W0 k ∧ ¬ Ou x oi od ox k) : Rst x W0 w' oi od ox s := by
  obtain ⟨k1, k2, k3, k4, k5, k6⟩ := h.stay hf (fun k hk => (hn k hk).1)
  refine ⟨k1, k2, k3, k4, k5, k6, h.wi.fr hf (fun k hk hs => (hn k hs).2 (.inl hk)), h.wd.fr hf (fun k hk hs => (hn k hs).2 (.inr (.inl hk))), h.wx.fr hf (fun k hk hs => (hn k hs).2 (.inr (.inr (.inl hk)))), h.mr.same (hf.block _ h.mr.lt (fun hs => (hn _ hs).2 (.inr (.inr (.inr (.inl rfl)))))), h.mx.same (hf.block _ h.mx.lt (fun hs => (hn _ hs).2 (.inr (.inr (.inr (.inr rfl)))))), h.di, h.dd, h.dx, h.sr, h.sx, h.mm⟩
theorem Rst.below (h : Rst x W0 w oi od ox s) (hb : Below w.heap.size w w') : Rst x W0 w' oi od ox s := h.fr (Fr.of_below (S := fun _ => False) hb) (fun _ h => h.elim)
theorem Rst.new (h : Rst x W0 w oi od ox s) {k : Nat} (hk : w.heap.size ≤ k) : ¬ Stc x W0 k ∧ ¬ Ou x oi od ox k := ⟨fun hs => by have := h.slt hs; omega, fun ho => by have := h.olt' ho; omega⟩
theorem Rst.gi (h : Rst x W0 w oi od ox s) (hg : Gr oi oi' w) : ∀ k, oi' k → ¬ Stc x W0 k ∧ ¬ od k ∧ ¬ ox k ∧ k ≠ x.mr ∧ k ≠ x.mx := fun k hk => by
  rcases hg k hk with hk | hk
  · exact h.di k hk
  · obtain ⟨h1, h2⟩ := h.new hk
    exact ⟨h1, fun hx => h2 (.inr (.inl hx)), fun hx => h2 (.inr (.inr (.inl hx))), fun hx => h2 (.inr (.inr (.inr (.inl hx)))), fun hx => h2 (.inr (.inr (.inr (.inr hx))))⟩
theorem Rst.gd (h : Rst x W0 w oi od ox s) (hg : Gr od od' w) : ∀ k, od' k → ¬ Stc x W0 k ∧ ¬ oi k ∧ ¬ ox k ∧ k ≠ x.mr ∧ k ≠ x.mx := fun k hk => by
  rcases hg k hk with hk | hk
  · obtain ⟨h1, h2, h3, h4⟩ := h.dd k hk
    exact ⟨h1, fun hi => (h.di k hi).2.1 hk, h2, h3, h4⟩
  · obtain ⟨h1, h2⟩ := h.new hk
    exact ⟨h1, fun hx => h2 (.inl hx), fun hx => h2 (.inr (.inr (.inl hx))), fun hx => h2 (.inr (.inr (.inr (.inl hx)))), fun hx => h2 (.inr (.inr (.inr (.inr hx))))⟩
theorem Rst.gx (h : Rst x W0 w oi od ox s) (hg : Gr ox ox' w) : ∀ k, ox' k → ¬ Stc x W0 k ∧ ¬ oi k ∧ ¬ od k ∧ k ≠ x.mr ∧ k ≠ x.mx := fun k hk => by
  rcases hg k hk with hk | hk
  · obtain ⟨h1, h3, h4⟩ := h.dx k hk
    exact ⟨h1, fun hi => (h.di k hi).2.2.1 hk, fun hi => (h.dd k hi).2.1 hk, h3, h4⟩
  · obtain ⟨h1, h2⟩ := h.new hk
    exact ⟨h1, fun hx => h2 (.inl hx), fun hx => h2 (.inr (.inl hx)), fun hx => h2 (.inr (.inr (.inr (.inl hx)))), fun hx => h2 (.inr (.inr (.inr (.inr hx))))⟩
/-- A row more of records. -/
theorem Rst.addI (h : Rst x W0 w oi od ox s) {z : List Int} (hw : WrM w' x.pi oi' x.tb (Mtr.fr ent (s.I ++ z) ((s.I ++ z).length / 128)) (rest (s.I ++ z))) (hf : Fr oi w w') (hg : Gr oi oi' w) : Rst x W0 w' oi' od ox { s with I := s.I ++ z } := by
  obtain ⟨k1, k2, k3, k4, k5, k6⟩ := h.stay hf (fun k hk => (h.di k hk).1)
  have hg2 := h.gi hg
  exact ⟨k1, k2, k3, k4, k5, k6, hw, h.wd.fr hf (fun k hk hi => (h.di k hi).2.1 hk), h.wx.fr hf (fun k hk hi => (h.di k hi).2.2.1 hk), h.mr.same (hf.block _ h.mr.lt (fun hi => (h.di _ hi).2.2.2.1 rfl)), h.mx.same (hf.block _ h.mx.lt (fun hi => (h.di _ hi).2.2.2.2 rfl)), hg2, h.dd, h.dx, h.sr, h.sx, h.mm⟩
theorem Rst.addD (h : Rst x W0 w oi od ox s) {z : List Int} (hw : WrM w' x.pd od' x.tb (Mtr.fr ent (s.D ++ z) ((s.D ++ z).length / 128)) (rest (s.D ++ z))) (hf : Fr od w w') (hg : Gr od od' w) : Rst x W0 w' oi od' ox { s with D := s.D ++ z } := by
  obtain ⟨k1, k2, k3, k4, k5, k6⟩ := h.stay hf (fun k hk => (h.dd k hk).1)
  have hg2 := h.gd hg
  exact ⟨k1, k2, k3, k4, k5, k6, h.wi.fr hf (fun k hk hi => (h.di k hk).2.1 hi), hw, h.wx.fr hf (fun k hk hi => (h.dd k hi).2.1 hk), h.mr.same (hf.block _ h.mr.lt (fun hi => (h.dd _ hi).2.2.1 rfl)), h.mx.same (hf.block _ h.mx.lt (fun hi => (h.dd _ hi).2.2.2 rfl)), fun k hk => ⟨(h.di k hk).1, fun hx => (hg2 k hx).2.1 hk, (h.di k hk).2.2⟩, fun k hk => ⟨(hg2 k hk).1, (hg2 k hk).2.2⟩, h.dx, h.sr, h.sx, h.mm⟩
theorem Rst.addX (h : Rst x W0 w oi od ox s) {z : List Int} (hw : WrM w' x.px ox' x.tb (Mtr.fr ent (s.X ++ z) ((s.X ++ z).length / 128)) (rest (s.X ++ z))) (hf : Fr ox w w') (hg : Gr ox ox' w) : Rst x W0 w' oi od ox' { s with X := s.X ++ z } := by
  obtain ⟨k1, k2, k3, k4, k5, k6⟩ := h.stay hf (fun k hk => (h.dx k hk).1)
  have hg2 := h.gx hg
  exact ⟨k1, k2, k3, k4, k5, k6, h.wi.fr hf (fun k hk hi => (h.di k hk).2.2.1 hi), h.wd.fr hf (fun k hk hi => (h.dd k hk).2.1 hi), hw, h.mr.same (hf.block _ h.mr.lt (fun hi => (h.dx _ hi).2.1 rfl)), h.mx.same (hf.block _ h.mx.lt (fun hi => (h.dx _ hi).2.2 rfl)), fun k hk => ⟨(h.di k hk).1, (h.di k hk).2.1, fun hx => (hg2 k hx).2.1 hk, (h.di k hk).2.2.2⟩, fun k hk => ⟨(h.dd k hk).1, fun hx => (hg2 k hx).2.2.1 hk, (h.dd k hk).2.2⟩, fun k hk => ⟨(hg2 k hk).1, (hg2 k hk).2.2.2⟩, h.sr, h.sx, h.mm⟩
/-- A ref more. -/
theorem Rst.addR (h : Rst x W0 w oi od ox s) {R : List (Nat × Nat)} (hm : MpR w' x.mr (nds x.L) R) (hg : w.grownBy w' (some x.mr)) : Rst x W0 w' oi od ox { s with R := R } := by
  have hf : Fr (One x.mr) w w' := Fr.of_grown hg (fun k hk => by injection hk with hk; exact hk.symm)
  obtain ⟨k1, k2, k3, k4, k5, k6⟩ := h.stay hf (fun k (hk : k = x.mr) => by rw [hk]; exact h.sr)
  exact ⟨k1, k2, k3, k4, k5, k6, h.wi.fr hf (fun k hk hi => (h.di k hk).2.2.2.1 hi), h.wd.fr hf (fun k hk hi => (h.dd k hk).2.2.1 hi), h.wx.fr hf (fun k hk hi => (h.dx k hk).2.1 hi), hm, h.mx.same (hf.block _ h.mx.lt (fun hi => h.mm (Eq.symm hi))), h.di, h.dd, h.dx, h.sr, h.sx, h.mm⟩
theorem Rst.addA (h : Rst x W0 w oi od ox s) {A : Dat.Wm} (hm : MpD w' x.mx A) (hg : w.grownBy w' (some x.mx)) : Rst x W0 w' oi od ox { s with A := A } := by
  have hf : Fr (One x.mx) w w' := Fr.of_grown hg (fun k hk => by injection hk with hk; exact hk.symm)
  obtain ⟨k1, k2, k3, k4, k5, k6⟩ := h.stay hf (fun k (hk : k = x.mx) => by rw [hk]; exact h.sx)
  exact ⟨k1, k2, k3, k4, k5, k6, h.wi.fr hf (fun k hk hi => (h.di k hk).2.2.2.2 hi), h.wd.fr hf (fun k hk hi => (h.dd k hk).2.2.2 hi), h.wx.fr hf (fun k hk hi => (h.dx k hk).2.2 hi), h.mr.same (hf.block _ h.mr.lt (fun hi => h.mm hi)), hm, h.di, h.dd, h.dx, h.sr, h.sx, h.mm⟩
theorem Rst.tb (h : Rst x W0 w oi od ox s) (hs : Sta x W0) : Tb w x.tb ent ∧ x.tb < w.heap.size := ⟨hs.tb.below h.bel hs.tlt, Nat.lt_of_lt_of_le hs.tlt h.bel.size⟩
end
/-- More of one writer, more of all. -/
theorem Ou.gi {x : Cx} {w : World} {oi od ox oi' : Nat → Prop} (h : Gr oi oi' w) : Gr (Ou x oi od ox) (Ou x oi' od ox) w := fun k hk => by
  rcases hk with hk | hk
  · exact (h k hk).imp .inl id
  · exact .inl (.inr hk)
theorem Ou.gd {x : Cx} {w : World} {oi od ox od' : Nat → Prop} (h : Gr od od' w) : Gr (Ou x oi od ox) (Ou x oi od' ox) w := fun k hk => by
  rcases hk with hk | hk | hk
  · exact .inl (.inl hk)
  · exact (h k hk).imp (fun h => .inr (.inl h)) id
  · exact .inl (.inr (.inr hk))
theorem Ou.gx {x : Cx} {w : World} {oi od ox ox' : Nat → Prop} (h : Gr ox ox' w) : Gr (Ou x oi od ox) (Ou x oi od ox') w := fun k hk => by
  rcases hk with hk | hk | hk | hk
  · exact .inl (.inl hk)
  · exact .inl (.inr (.inl hk))
  · exact (h k hk).imp (fun h => .inr (.inr (.inl h))) id
  · exact .inl (.inr (.inr (.inr hk)))
/-- The records: what they have, what they own. -/
def RS (x : Cx) (W0 w : World) (O : Nat → Prop) (s : Ws) : Prop := ∃ oi od ox, O = Ou x oi od ox ∧ Rst x W0 w oi od ox s
section
variable {x : Cx} {W0 w w' : World} {O : Nat → Prop} {s : Ws}
theorem RS.fr (h : RS x W0 w O s) {S : Nat → Prop} (hf : Fr S w w') (hn : ∀ k, S k → ¬ Stc x W0 k ∧ ¬ O k) : RS x W0 w' O s := by
  obtain ⟨oi, od, ox, rfl, h2⟩ := h
  exact ⟨oi, od, ox, rfl, h2.fr hf hn⟩
theorem RS.below (h : RS x W0 w O s) (hb : Below w.heap.size w w') : RS x W0 w' O s := h.fr (Fr.of_below (S := fun _ => False) hb) (fun _ h => h.elim)
theorem RS.olt (h : RS x W0 w O s) {k : Nat} (hk : O k) : k < w.heap.size := by
  obtain ⟨oi, od, ox, rfl, h2⟩ := h
  exact h2.olt' hk
theorem RS.slt (h : RS x W0 w O s) {k : Nat} (hk : Stc x W0 k) : k < w.heap.size := by
  obtain ⟨oi, od, ox, rfl, h2⟩ := h
  exact h2.slt hk
theorem RS.off (h : RS x W0 w O s) {k : Nat} (hk : O k) : ¬ Stc x W0 k := by
  obtain ⟨oi, od, ox, rfl, h2⟩ := h
  exact h2.off hk
theorem RS.bel (h : RS x W0 w O s) : Below W0.heap.size W0 w := by
  obtain ⟨oi, od, ox, rfl, h2⟩ := h
  exact h2.bel
theorem RS.rc (h : RS x W0 w O s) : w.heap[x.rp]? = some (.cells (rcv x) 61 (0, 0)) := by
  obtain ⟨oi, od, ox, rfl, h2⟩ := h
  exact h2.rc
end
end Go.Proofs.YtoohanojfoichaaGreatDoor

/- Layer 14: attributes that are added once: the closure, and xattr. -/
namespace Go.Proofs.YtoohanojfoichaaGreatDoor
set_option linter.unusedVariables false
open Go.RowKit Go.Maps
open Lz (g)
open Crc (ent)
open Frm Mtr Tre Nam Tab Bld

set_option maxRecDepth 100000 in
theorem once_any (x : Cx) (W0 : World) (O : Nat → Prop) (s : Ws) (ao : Option Addr) (n c : Nat) (z : List Int) (w : World) (hs : Sta x W0) (h : RS x W0 w O s) (hb : Bs w ao n z) (hnil : ao = none → c = 0) (hno : ∀ a, ao = some a → 0 < n → ¬ O a.block) (hn : n ≤ 10000) (hX : s.X.length ≤ 100000) (hA : s.A.length ≤ 10000) :
    Calls Tryz.prog 90 #[.slice ao n c, .pointer (some ⟨x.b1, 0, none⟩), .pointer (some ⟨x.b2, 0, none⟩)] w fun e w' => e = .returned (.int .i64 ((once s z).2 : Int)) ∧ ∃ O', RS x W0 w' O' (once s z).1 ∧ Fr O w w' ∧ Gr O O' w := by
  obtain ⟨oi, od, ox, rfl, hR⟩ := h
  have c1 : w.cell? ⟨x.b1, 0, none⟩ = some (.map (some x.mx)) := by simp [World.cell?, hR.h1]
  have c2 : w.cell? ⟨x.b2, 0, none⟩ = some (.pointer (some ⟨x.px, 0, none⟩)) := by simp [World.cell?, hR.h2]
  have hzl := hb.1
  have hst : (convert 25 9 (.slice ao n c)).run Tryz.prog w = .ok (.string (strOfNums z)) w := str_any hb c
  have hlk := hR.mx.look hb.bytes (by omega)
  cases hlo : Dat.look s.A z with
  | some r =>
    rw [hlo] at hlk
    have e : once s z = (s, r) := by unfold once; rw [hlo]
    rw [e]
    have HR := hide hR
    clear hs hb hnil hno hR hlo e
    go_enter Tryz.func90, Tryz.ntmps90
    go_wp2
    go_ret
    exact ⟨rfl, _, ⟨oi, od, ox, rfl, HR.out⟩, Fr.refl _ _, Gr.refl _ _⟩
  | none =>
    rw [hlo] at hlk
    have e : once s z = ({ s with X := s.X ++ z, A := s.A ++ [(z, rfn s.X)] }, rfn s.X) := by unfold once; rw [hlo]
    rw [e]
    obtain ⟨ht1, ht2⟩ := hR.tb hs
    have HAdd := hide (Add_any x.px x.tb n c ox ao ent s.X z w hR.wx ht1 ht2 (fun ho => (hR.dx _ ho).1 (.inl hs.tlt)) small_ent hb hnil hX (by omega))
    rw [rf_rfn] at HAdd
    have HR := hide hR
    have HB := hide hb
    have HN := hide hno
    have HL := hide hlo
    generalize rfn s.X = rx at *
    clear hs hb hnil hno hR hlo e ht1 ht2
    go_enter Tryz.func90, Tryz.ntmps90
    go_wp2_with fail
    refine HAdd.out.mono ?_
    rintro r w1 ⟨rfl, ox', hW1, hF1, hG1⟩
    have hR1 := HR.out.addX hW1 hF1 hG1
    have c11 : w1.cell? ⟨x.b1, 0, none⟩ = some (.map (some x.mx)) := by simp [World.cell?, hR1.h1]
    have hb1 : Bs w1 ao n z := HB.out.fr hF1 (fun a ha h0 ho => HN.out a ha h0 (.inr (.inr (.inl ho))))
    have hst1 : (convert 25 9 (.slice ao n c)).run Tryz.prog w1 = .ok (.string (strOfNums z)) w1 := str_any hb1 c
    obtain ⟨w2, k1, k2, k3⟩ := hR1.mx.store (r := z) hb1.bytes (by omega) (by show s.A.length ≤ _; omega) HL.out rx
    have HX : Hid (RS x W0 w2 (Ou x oi od ox') { s with X := s.X ++ z, A := s.A ++ [(z, rx)] } ∧ Fr (Ou x oi od ox) w w2 ∧ Gr (Ou x oi od ox) (Ou x oi od ox') w) := by
      refine ⟨⟨oi, od, ox', rfl, hR1.addA k2 k3⟩, ?_, Ou.gx hG1⟩
      have f1 : Fr (Ou x oi od ox) w w1 := hF1.mono (fun i _ hi => .inr (.inr (.inl hi)))
      have f2 : Fr (One x.mx) w1 w2 := Fr.of_grown k3 (fun k hk => by injection hk with hk; exact hk.symm)
      exact f1.trans f2 (fun i _ hi => .inr (.inr (.inr (.inr hi))))
    clear k2 k3 hR1 hb1 hW1 hF1 hG1 HAdd HR HB HN HL c1 c2 hst hlk
    go_wp2
    go_ret
    exact ⟨rfl, _, HX.out⟩
set_option maxRecDepth 100000 in
theorem xattr_any (x : Cx) (W0 : World) (O : Nat → Prop) (s : Ws) (a : Option Addr) (n c : Nat) (xs : List (ByteArray × List Int)) (w : World) (hs : Sta x W0) (h : RS x W0 w O s) (hxs : XsR w a n xs) (hc : n ≤ c) (hcm : c ≤ 9223372036854775807) (hnil : a = none → c = 0) (hX : s.X.length ≤ 100000) (hA : s.A.length ≤ 10000) (hAv : ∀ p ∈ s.A, p.2 ≤ 270 * s.X.length + 127) :
    Calls Tryz.prog 48 #[.pointer (some ⟨x.rp, 0, none⟩), .slice a n c] w fun e w' => e = .returned (.int .i64 ((xat s xs).2 : Int)) ∧ ∃ O', RS x W0 w' O' (xat s xs).1 ∧ Fr O w w' ∧ Gr O O' w := by
  have hl := hxs.1
  by_cases h0 : n = 0
  · subst h0
    rw [xat_nil hl]
    have H := hide h
    clear hs h hxs hnil
    go_enter Tryz.func48, Tryz.ntmps48
    go_wp2
    go_ret
    exact ⟨rfl, _, H.out, Fr.refl _ _, Gr.refl _ _⟩
  · rw [xat_once (by omega)]
    have i1 : ((n : Int) == 0) = false := by simp; omega
    have HP := hide (PutXattrs_any a n c xs w hxs hc hcm hnil)
    have hlen := putX_len xs
    have hle : (putX xs).1.length ≤ 2000 := by
      by_cases hk : xs ≠ [] ∧ xsOk xs = true
      · have := (xsOk_mem hk.2).1
        split at hlen <;> omega
      · unfold putX; rw [if_neg hk]; simp
    generalize hA0 : putX xs = A0 at *
    have H := hide h
    have HS := hide hs
    have hQ := once_v hAv A0.1
    obtain ⟨Q, hQe⟩ : ∃ Q, Q = once s A0.1 := ⟨_, rfl⟩
    rw [← hQe] at hQ ⊢
    rw [show ((Q.2 + 1 : Nat) : Int) = (Q.2 : Int) + 1 by omega]
    have HQe := hide hQe
    clear hs h hxs hnil hA0 hlen hQe
    go_enter Tryz.func48, Tryz.ntmps48
    go_wp2_with fail
    refine HP.out.mono ?_
    rintro r w1 ⟨ao, c1, rfl, hN⟩
    have h1 := H.out.below hN.bel
    have c6 : w1.cell? ⟨x.rp, 6, none⟩ = some (.func (.func 90) #[] #[.pointer (some ⟨x.b1, 0, none⟩), .pointer (some ⟨x.b2, 0, none⟩)]) := by simp [World.cell?, h1.rc, rcv]
    have HO := hide (once_any x W0 O s ao A0.1.length c1 A0.1 w1 HS.out h1 hN.bs hN.nil (fun a' ha _ ho => by have := (hN.own a' ha).1; have := H.out.olt ho; omega) (by omega) hX hA)
    have HB := hide hN.bel
    clear hN HP
    rw [← HQe.out] at HO
    generalize A0.1.length = al at *
    generalize A0.2 = a2 at *
    go_wp2_with fail
    refine HO.out.mono ?_
    rintro r w2 ⟨rfl, O', k1, k2, k3⟩
    have HX : Hid (∃ O', RS x W0 w2 O' Q.1 ∧ Fr O w w2 ∧ Gr O O' w) := ⟨O', k1, (Fr.of_below HB.out).then k2, fun k hk => (k3 k hk).imp id (fun h => Nat.le_trans HB.out.size h)⟩
    clear k1 k2 k3 HO
    have e3 : IntKind.i64.wrap ((Q.2 : Int) + 1) = (Q.2 : Int) + 1 := by rw [IntKind.wrap_i64]; omega
    go_wp2
    go_ret
    exact ⟨rfl, HX.out⟩
end Go.Proofs.YtoohanojfoichaaGreatDoor

/- Layer 14: the place of an owner among the owners: slices.BinarySearch of ints, and owner. -/
namespace Go.Proofs.YtoohanojfoichaaGreatDoor
set_option linter.unusedVariables false
open Go.RowKit Go.Maps
open Lz (g)
open Crc (ent)
open Frm Mtr Tre Nam Tab Bld

theorem g_idx {l : List Int} {x : Int} (h : x ∈ l) : l.idxOf x < l.length ∧ g l (l.idxOf x) = x := by
  have h1 := List.idxOf_lt_length_iff.2 h
  refine ⟨h1, ?_⟩
  rw [Lz.g_lt l _ h1]
  exact List.getElem_idxOf h1
theorem g_rise {l : List Int} (h : l.Pairwise (· < ·)) {i j : Nat} (hij : i < j) (hj : j < l.length) : g l i < g l j := by
  rw [Lz.g_lt l i (by omega), Lz.g_lt l j hj]
  exact List.pairwise_iff_getElem.1 h i j (by omega) hj hij
set_option maxRecDepth 100000 in
theorem bsearch_any (a : Option Addr) (n c : Nat) (l : List Int) (x : Int) (w : World) (h : Zs w a n l) (hn : n ≤ 1000) (hr : l.Pairwise (· < ·)) (hx : x ∈ l) :
    Calls Tryz.prog 92 #[.slice a n c, .int .i64 x] w fun e w' => e = .returned (.tuple #[.int .i64 ((l.idxOf x : Nat) : Int), .bool true]) ∧ w' = w := by
  obtain ⟨hp1, hp2⟩ := g_idx hx
  have hl := h.1
  have HLT : Hid (∀ t, t < n → decide (g l t < x) = decide (t < l.idxOf x)) := fun t ht => by
    rw [decide_eq_decide]
    rcases Nat.lt_trichotomy t (l.idxOf x) with c | c | c
    · have := g_rise hr c hp1; rw [hp2] at this; exact ⟨fun _ => c, fun _ => this⟩
    · rw [c, hp2]; exact ⟨fun h => by omega, fun h => by omega⟩
    · have := g_rise hr c (by omega); rw [hp2] at this; exact ⟨fun h => by omega, fun h => by omega⟩
  obtain ⟨b, off, rfl, hb, hc⟩ := h.at (by omega)
  obtain ⟨p, hp⟩ : ∃ p, p = l.idxOf x := ⟨_, rfl⟩
  rw [← hp] at hp1 hp2 HLT ⊢
  have hpn : p < n := by omega
  have cp : w.cell? ⟨b, off + p, none⟩ = some (.int .i64 x) := by rw [← hp2]; exact hc p hpn
  have HC := hide hc
  have HLe : Hid (∀ (y : Int) w', Calls Tryz.prog 102 #[.int .i64 y, .int .i64 x] w' fun e w2 => e = .returned (.bool (decide (y < x))) ∧ w2 = w') := fun y w' => iLess_any _ _ _
  clear h hr hx hp hp1 hp2 hl hc
  go_enter Tryz.func92, Tryz.ntmps92
  go_wp2
  go_loopw [7, 8, 9] (fun r7 r8 _ wr => ∃ i j : Nat, r7 = .int .i64 i ∧ r8 = .int .i64 j ∧ i ≤ p ∧ p ≤ j ∧ j ≤ n ∧ wr = w) (fun r7 r8 _ _ => (intOf r8).toNat - (intOf r7).toNat)
  case atStart => exact ⟨0, n, rfl, rfl, by omega, by omega, Nat.le_refl _, rfl⟩
  case round =>
    obtain ⟨i, j, rfl, rfl, hip, hpj, hjn, rfl⟩ := hrel
    by_cases hlt : i < j
    · have hd : decide ((i : Int) < j) = true := by simpa using hlt
      obtain ⟨t, ht⟩ : ∃ t, t = (i + j) / 2 := ⟨_, rfl⟩
      have vh : ((i : Int) + j) / 2 = (t : Int) := by omega
      have t1 : i ≤ t := by omega
      have t2 : t < j := by omega
      have c1 := HC.out t (by omega)
      have i1 : (t : Int) < n := by omega
      have HD := hide (HLT.out t (by omega))
      generalize g l t = y at *
      clear ht
      by_cases hz : t < p
      · have hdz : decide (y < x) = true := by rw [HD.out]; simpa using hz
        go_wp2_with (go_at_call 102; refine (HLe.out _ _).mono ?_; rintro e w' ⟨rfl, rfl⟩)
        exact ⟨⟨t + 1, j, by go_num, rfl, by omega, hpj, hjn, trivial⟩, by simp [intOf]; omega⟩
      · have hdz : decide (y < x) = false := by rw [HD.out]; simpa using hz
        go_wp2_with (go_at_call 102; refine (HLe.out _ _).mono ?_; rintro e w' ⟨rfl, rfl⟩)
        exact ⟨⟨i, t, rfl, rfl, hip, by omega, by omega, trivial⟩, by simp [intOf]; omega⟩
    · have hd : decide ((i : Int) < j) = false := by simpa using hlt
      obtain rfl : i = p := by omega
      have i1 : (i : Int) < n := by omega
      have hdn : decide ((i : Int) < n) = true := by simpa using i1
      go_wp2
      go_ret2
      exact ⟨rfl, rfl⟩
set_option maxRecDepth 100000 in
theorem owner_any (x : Cx) (W0 : World) (O : Nat → Prop) (s : Ws) (y : Int) (w : World) (hs : Sta x W0) (h : RS x W0 w O s) (hy : y ∈ x.own) :
    Calls Tryz.prog 46 #[.pointer (some ⟨x.rp, 0, none⟩), .int .i64 y] w fun e w' => e = .returned (.int .i64 ((x.own.idxOf y : Nat) : Int)) ∧ w' = w := by
  have hz : Zs w x.oa x.on x.own := by obtain ⟨oi, od, ox, h1, h2⟩ := h; exact h2.ow
  have H := hide (bsearch_any x.oa x.on x.oc x.own y w hz (by have := hs.on8; omega) hs.asc hy)
  have c2 : w.cell? ⟨x.rp, 2, none⟩ = some (.slice x.oa x.on x.oc) := by simp [World.cell?, h.rc, rcv]
  clear hz hs h
  go_enter Tryz.func46, Tryz.ntmps46
  go_wp2_with (go_at_call 92; refine H.out.mono ?_; rintro e w' ⟨rfl, rfl⟩)
  go_ret
  exact ⟨rfl, rfl⟩
end Go.Proofs.YtoohanojfoichaaGreatDoor

/- Layer 14: an image is put together of its parts: join and its closure; numbers. -/
namespace Go.Proofs.YtoohanojfoichaaGreatDoor
set_option linter.unusedVariables false
open Go.RowKit Go.Maps
open Lz (g)
open Crc (ent)
open Frm Mtr Tre Nam Tab Bld

/-- What is read of bytes, from a place on. -/
theorem src_of_bs {w : World} {ao : Option Addr} {n : Nat} {zs : List Int} (h : Bs w ao n zs) (hn : n ≠ 0) : ∃ ad, ao = some ad ∧ ∀ j v, (bv zs)[j]? = some v → w.cell? (ad.add j) = some v := by
  obtain ⟨hz, hby, h0 | ⟨b, off, rfl, hb, hs⟩⟩ := h
  · omega
  · refine ⟨_, rfl, ?_⟩
    have := news_seg hs n
    rw [List.take_of_length_le (by omega)] at this
    exact this
/-- Bytes are copied into an own row, from a place on. -/
theorem copy_into {w : World} {gb S off n c dL dC : Nat} {dp bo : Option Addr} {im b : List Int} (hg : w.heap[gb]? = some (.cells (bv im).toArray 5 (0, 0))) (hS : im.length = S) (hB : Bs w bo n b) (hfit : off + n ≤ S) (hdL : n ≤ dL) (hdp : 0 < n → dp = some ⟨gb, off, none⟩) :
    ∃ w', (Builtin.copy_ #[25, 25] 3 #[.slice dp dL dC, .slice bo n c]).run Tryz.prog w = .ok (.int .i64 n) w' ∧ w'.heap[gb]? = some (.cells (bv (im.take off ++ b ++ im.drop (off + n))).toArray 5 (0, 0)) ∧ Fr (One gb) w w' := by
  have hinfo : (Tryz.prog.info? 5).map (·.size) = some 1 := by kernel_rfl
  have hbl := hB.1
  by_cases h0 : n = 0
  · subst h0
    refine ⟨w, run_copy_none w _ _ _ _ _ _ _ _ _ _ Tryz.underlying25 hinfo (by simp), ?_, Fr.refl _ _⟩
    obtain rfl : b = [] := List.eq_nil_of_length_eq_zero hbl
    rw [List.append_nil, Nat.add_zero, List.take_append_drop]
    exact hg
  · obtain ⟨ad, rfl, hsrc⟩ := src_of_bs hB h0
    rw [hdp (by omega)]
    have hl : (bv b).length = n := by rw [bv_length]; exact hbl
    have h := run_copy_row (P := Tryz.prog) w 25 25 3 5 gb off dL dC ad n c (bv im).toArray 5 (bv b) Tryz.underlying25 hinfo hg (by rw [hl]; exact (Nat.min_eq_left hdL).symm) hsrc (by rw [hl]; simp [bv]; omega) (bv_one b)
    have e : ((bv im).toArray.toList.take off ++ bv b ++ (bv im).toArray.toList.drop (off + (bv b).length)) = bv (im.take off ++ b ++ im.drop (off + n)) := by
      rw [hl]; simp [bv, List.map_take, List.map_drop]
    rw [e, hl] at h
    refine ⟨_, h, setRow_heap w gb _ _ _ _ hg, setRow_fr (Fr.refl _ _) _ _ (fun _ => rfl)⟩
/-- A part behind others: what is left of the noughts. -/
theorem laid_part (X z : List Int) (m : Nat) (h : z.length ≤ m) : (X ++ List.replicate m 0).take X.length ++ z ++ (X ++ List.replicate m 0).drop (X.length + z.length) = (X ++ z) ++ List.replicate (m - z.length) 0 := by
  rw [List.take_left', List.drop_append, List.drop_eq_nil_of_le (by omega), List.nil_append, List.drop_replicate]
  · congr 2; omega
  · rfl
set_option maxRecDepth 100000 in
/-- The closure that lays a part. -/
theorem lay1_any (b8 b9 ib S a n c : Nat) (bo : Option Addr) (im z : List Int) (w : World) (h9 : w.heap[b9]? = some (.cells #[.int .i64 (a : Int)] 3 (0, 0))) (h8 : w.heap[b8]? = some (.cells #[.slice (some ⟨ib, 0, none⟩) S S] 25 (0, 0)))
    (hi : w.heap[ib]? = some (.cells (bv im).toArray 5 (0, 0))) (hl : im.length = S) (hB : Bs w bo n z) (hfit : a + n ≤ S) (hS : S ≤ 1048576) :
    Calls Tryz.prog 52 #[.slice bo n c, .pointer (some ⟨b9, 0, none⟩), .pointer (some ⟨b8, 0, none⟩)] w fun e w' => e = .returned (.int .i64 (a : Int)) ∧ w'.heap[b9]? = some (.cells #[.int .i64 ((a + n : Nat) : Int)] 3 (0, 0)) ∧ w'.heap[ib]? = some (.cells (bv (im.take a ++ z ++ im.drop (a + n))).toArray 5 (0, 0)) ∧ Fr (fun k => k = ib ∨ k = b9) w w' := by
  have c9 : w.cell? ⟨b9, 0, none⟩ = some (.int .i64 (a : Int)) := by simp [World.cell?, h9]
  have c8 : w.cell? ⟨b8, 0, none⟩ = some (.slice (some ⟨ib, 0, none⟩) S S) := by simp [World.cell?, h8]
  obtain ⟨w5, hcp, hi5, f5⟩ := copy_into (w := w.drew) (gb := ib) (S := S) (off := a) (n := n) (c := c) (dL := S - a) (dC := S - a) (dp := if S = a then some ⟨ib, 0, none⟩ else some ⟨ib, a, none⟩) (bo := bo) hi hl (show Bs w.drew bo n z from hB) hfit (by omega) (fun h0 => by rw [if_neg (by omega)])
  have hne : b9 ≠ ib := fun e => by rw [e] at h9; rw [h9] at hi; simp at hi
  have h95 : w5.heap[b9]? = some (.cells #[.int .i64 (a : Int)] 3 (0, 0)) := (f5.block b9 (heap_lt h9) hne).trans h9
  have c95 : w5.cell? ⟨b9, 0, none⟩ = some (.int .i64 (a : Int)) := by simp [World.cell?, h95]
  have f95 : w5.frozen? ⟨b9, 0, none⟩ = false := by simp [World.frozen?, h95]
  have f9 : w.frozen? ⟨b9, 0, none⟩ = false := by simp [World.frozen?, h9]
  have HX : Hid ((w5.setCell ⟨b9, 0, none⟩ (.int .i64 ((a : Int) + n))).heap[b9]? = some (.cells #[.int .i64 ((a + n : Nat) : Int)] 3 (0, 0)) ∧ (w5.setCell ⟨b9, 0, none⟩ (.int .i64 ((a : Int) + n))).heap[ib]? = some (.cells (bv (im.take a ++ z ++ im.drop (a + n))).toArray 5 (0, 0)) ∧ Fr (fun k => k = ib ∨ k = b9) w (w5.setCell ⟨b9, 0, none⟩ (.int .i64 ((a : Int) + n)))) := by
    have fs : Fr (One b9) w5 (w5.setCell ⟨b9, 0, none⟩ (.int .i64 ((a : Int) + n))) := (Fr.refl _ _).set _ (fun _ => rfl)
    refine ⟨?_, (fs.block _ (heap_lt hi5) (fun (e : ib = b9) => hne e.symm)).trans hi5, ?_⟩
    · rw [show (((a + n : Nat) : Int)) = (a : Int) + n by omega]
      exact heap_setCell_self h95 _
    · exact ((f5.undrew).mono (fun i _ hi => .inl hi)).trans fs (fun i _ hi => .inr hi)
  have e1 : IntKind.i64.wrap ((a : Int) + n) = (a : Int) + n := by rw [IntKind.wrap_i64]; omega
  have i1 : (0 : Int) ≤ (a : Int) := by omega
  have i2 : (a : Int) ≤ (S : Int) := by omega
  have hSm : (S : Int) ≤ 1048576 := by omega
  clear h9 h8 hi hl hB hfit f5 hi5 hne h95
  by_cases hSa : S = a
  · subst hSa
    rw [if_pos rfl, Nat.sub_self] at hcp
    go_enter Tryz.func52, Tryz.ntmps52
    go_wp2_with fail
    go_region
    all_goals (
      go_wp2
      go_ret
      exact ⟨rfl, HX.out⟩)
  · rw [if_neg hSa] at hcp
    go_enter Tryz.func52, Tryz.ntmps52
    go_wp2_with fail
    go_region
    all_goals (
      go_wp2
      go_ret
      exact ⟨rfl, HX.out⟩)
set_option maxRecDepth 100000 in
theorem size_any (o1 o2 o3 o4 o5 o6 : Option Addr) (n1 n2 n3 n4 n5 n6 c1 c2 c3 c4 c5 c6 : Nat) (w : World) (h1 : n1 ≤ 1000000) (h2 : n2 ≤ 1000000) (h3 : n3 ≤ 1000000) (h4 : n4 ≤ 1000000) (h5 : n5 ≤ 1000000) (h6 : n6 ≤ 1000000) :
    Calls Tryz.prog 51 #[.agg #[.slice o1 n1 c1, .slice o2 n2 c2, .slice o3 n3 c3, .slice o4 n4 c4, .slice o5 n5 c5, .slice o6 n6 c6]] w fun e w' => e = .returned (.int .i64 ((n1 + n2 + n3 + n4 + n5 + n6 : Nat) : Int)) ∧ Below w.heap.size w w' := by
  have e1 : IntKind.i64.wrap ((n1 : Int) + n2) = (n1 : Int) + n2 := by rw [IntKind.wrap_i64]; omega
  have e2 : IntKind.i64.wrap ((n1 : Int) + n2 + n3) = (n1 : Int) + n2 + n3 := by rw [IntKind.wrap_i64]; omega
  have e3 : IntKind.i64.wrap ((n1 : Int) + n2 + n3 + n4) = (n1 : Int) + n2 + n3 + n4 := by rw [IntKind.wrap_i64]; omega
  have e4 : IntKind.i64.wrap ((n1 : Int) + n2 + n3 + n4 + n5) = (n1 : Int) + n2 + n3 + n4 + n5 := by rw [IntKind.wrap_i64]; omega
  have e5 : IntKind.i64.wrap ((n1 : Int) + n2 + n3 + n4 + n5 + n6) = (n1 : Int) + n2 + n3 + n4 + n5 + n6 := by rw [IntKind.wrap_i64]; omega
  rw [show (((n1 + n2 + n3 + n4 + n5 + n6 : Nat)) : Int) = (n1 : Int) + n2 + n3 + n4 + n5 + n6 by omega]
  go_enter Tryz.func51, Tryz.ntmps51
  go_wp2
  go_ret
  exact ⟨rfl, (Below.refl _ w).alloc (Nat.le_refl _) _⟩
/-- An image that is being put together, since the world w0. -/
structure JJ (w0 w : World) (p4 p5 b8 b9 ib S : Nat) (s : Sup.Sb) (C5 : Array Value) (a : Nat) (im : List Int) : Prop where
  bel : Below w0.heap.size w0 w
  k4 : w.heap[p4]? = some (.cells (sbv s) 35 (0, 0))
  k5 : w.heap[p5]? = some (.cells C5 66 (0, 0))
  k8 : w.heap[b8]? = some (.cells #[.slice (some ⟨ib, 0, none⟩) S S] 25 (0, 0))
  k9 : w.heap[b9]? = some (.cells #[.int .i64 (a : Int)] 3 (0, 0))
  ki : w.heap[ib]? = some (.cells (bv im).toArray 5 (0, 0))
  il : im.length = S
  ge : w0.heap.size ≤ p4 ∧ w0.heap.size ≤ b9 ∧ w0.heap.size ≤ ib
section
variable {w0 w w' : World} {p4 p5 b8 b9 ib S a : Nat} {s : Sup.Sb} {C5 : Array Value} {im : List Int}
theorem obj_ne {w : World} {k j : Nat} {C D : Array Value} {t u : TypeId} {x y : Nat × Nat} (h1 : w.heap[k]? = some (.cells C t x)) (h2 : w.heap[j]? = some (.cells D u y)) (hne : t ≠ u) : k ≠ j := fun e => by
  subst e; rw [h1] at h2; simp at h2; exact hne h2.2.1
theorem JJ.below (h : JJ w0 w p4 p5 b8 b9 ib S s C5 a im) (hb : Below w.heap.size w w') : JJ w0 w' p4 p5 b8 b9 ib S s C5 a im :=
  ⟨h.bel.trans (hb.mono h.bel.size), (hb.block _ (heap_lt h.k4)).trans h.k4, (hb.block _ (heap_lt h.k5)).trans h.k5, (hb.block _ (heap_lt h.k8)).trans h.k8, (hb.block _ (heap_lt h.k9)).trans h.k9, (hb.block _ (heap_lt h.ki)).trans h.ki, h.il, h.ge⟩
/-- A part is laid. -/
theorem JJ.laid {X z : List Int} {m n : Nat} (h : JJ w0 w p4 p5 b8 b9 ib S s C5 a (X ++ List.replicate m 0)) (hX : X.length = a) (hz : z.length = n) (hn : n ≤ m) (h9 : w'.heap[b9]? = some (.cells #[.int .i64 ((a + n : Nat) : Int)] 3 (0, 0)))
    (hi : w'.heap[ib]? = some (.cells (bv ((X ++ List.replicate m 0).take a ++ z ++ (X ++ List.replicate m 0).drop (a + n))).toArray 5 (0, 0))) (hf : Fr (fun k => k = ib ∨ k = b9) w w') :
    JJ w0 w' p4 p5 b8 b9 ib S s C5 (a + n) ((X ++ z) ++ List.replicate (m - n) 0) := by
  have ge := h.ge
  have hb : Below w0.heap.size w w' := hf.below _ h.bel.size (fun k hk => by rcases hk with hk | hk <;> omega)
  have e4i := obj_ne h.k4 h.ki (by decide)
  have e49 := obj_ne h.k4 h.k9 (by decide)
  have e5i := obj_ne h.k5 h.ki (by decide)
  have e59 := obj_ne h.k5 h.k9 (by decide)
  have e8i := obj_ne h.k8 h.ki (by decide)
  have e89 := obj_ne h.k8 h.k9 (by decide)
  have e := laid_part X z m (by omega)
  rw [hX, hz] at e
  rw [e] at hi
  refine ⟨h.bel.trans hb, (hf.block _ (heap_lt h.k4) (fun hk => hk.elim e4i e49)).trans h.k4, (hf.block _ (heap_lt h.k5) (fun hk => hk.elim e5i e59)).trans h.k5, (hf.block _ (heap_lt h.k8) (fun hk => hk.elim e8i e89)).trans h.k8, h9, hi, ?_, ge⟩
  have := h.il
  simp only [List.length_append, List.length_replicate] at this ⊢
  omega
/-- A number of the superblock is set. -/
theorem JJ.put (h : JJ w0 w p4 p5 b8 b9 ib S s C5 a im) (i : Nat) (v : Value) (s' : Sup.Sb) (hs : (sbv s).setIfInBounds i v = sbv s') : JJ w0 (w.setCell ⟨p4, i, none⟩ v) p4 p5 b8 b9 ib S s' C5 a im := by
  have fs : Fr (One p4) w (w.setCell ⟨p4, i, none⟩ v) := (Fr.refl _ _).set _ (fun _ => rfl)
  have ge := h.ge
  refine ⟨h.bel.trans (fs.below _ h.bel.size (fun k (hk : k = p4) => by omega)), ?_, (fs.block _ (heap_lt h.k5) (obj_ne h.k5 h.k4 (by decide))).trans h.k5, (fs.block _ (heap_lt h.k8) (obj_ne h.k8 h.k4 (by decide))).trans h.k8, (fs.block _ (heap_lt h.k9) (obj_ne h.k9 h.k4 (by decide))).trans h.k9, (fs.block _ (heap_lt h.ki) (obj_ne h.ki h.k4 (by decide))).trans h.ki, h.il, ge⟩
  rw [← hs]
  exact heap_setCell_self h.k4 v
end
theorem Bld.makeN (S : Nat) (hS : S ≤ 1048576) : ∃ M : Array Value, M = (bv (List.replicate S 0)).toArray ∧ ∀ W : World, (Instr.makeSlice 25 (.int .i64 (S : Int)) (.int .i64 (S : Int))).run Tryz.prog W = .ok (.slice (some ⟨W.heap.size, 0, none⟩) S S) (W.alloc (.cells M 5)) := by
  obtain ⟨i0, hi, hz0, hz1, hz2⟩ := info_parts infoByte
  refine ⟨madeCells (Value.int .u8 0).cells (S * 1), ?_, fun W => ?_⟩
  · rw [← Array.toList_inj, half_zero S 0, show half S 0 0 = List.replicate S 0 by simp [half]]
  · have h := run_make (P := Tryz.prog) W 25 5 i0 (.int .u8 0) Tryz.underlying25 hi hz0 .i64 .i64 (S : Int) (S : Int) (by omega) (by omega) (by rw [hz2]; omega) (by omega)
    rw [hz1] at h
    simpa using h
theorem infoSb : (Tryz.prog.info? 35).map (·.size) = some 10 := by kernel_rfl
theorem wpList_load_sb {ops : Array Oper} {rest : List Oper} {o : Oper} {a : Act} {w : World} {Q : Exit → Act → World → Prop} (hw : Region.wanted o (yielded ops a.tmps) = true) (x : Operand) (ho : o.op = .load 35 x)
    (b : Nat) (hx : a.eval x = .pointer (some ⟨b, 0, none⟩)) (t : TypeId) (cs : Array Value) (fr : Nat × Nat) (hg : w.heap[b]? = some (.cells cs t fr)) (hs : cs.size = 10)
    (h : wpList Tryz.prog ops Q rest (a.put o.dst (.agg cs)) w) : wpList Tryz.prog ops Q (o :: rest) a w :=
  wpList_step fun K hK => by
    rw [if_pos hw]
    exact wp_load_row 35 x ho b hx t cs fr _ hg Tryz.underlying35 rfl (by rw [hs]; exact infoSb) (hK _ _ h)
/-- The bytes of a superblock in a block. -/
theorem bs_blk {w : World} {b : Nat} {z : List Int} {t : TypeId} {fz : Nat × Nat} (hb : Bytes z) (h : w.heap[b]? = some (.cells (bl z) t fz)) : Bs w (some ⟨b, 0, none⟩) z.length z := by
  refine ⟨rfl, Bytes.g hb, .inr ⟨b, 0, rfl, heap_lt h, fun i hi => ?_⟩⟩
  simp [World.cell?, h, bl, bv, g, hi]
/-- The superblock of an image's parts. -/
def Bld.sbl (s : Sup.Sb) (n1 n2 n3 n4 n5 n6 : Nat) : Sup.Sb := ⟨((64 + (n1 + n2 + n3 + n4 + n5 + n6) : Nat) : Int), s.inodes, ((64 + n1 : Nat) : Int), ((64 + n1 + n2 : Nat) : Int), ((64 + n1 + n2 + n3 : Nat) : Int), ((64 + n1 + n2 + n3 + n4 : Nat) : Int), ((64 + n1 + n2 + n3 + n4 + n5 : Nat) : Int), s.ids, s.frags, s.root⟩
/-- An image's beginning: its superblock, or noughts if that may not be. -/
def Bld.fst64 (s : Sup.Sb) : List Int := if s.may = true then Sup.put ent s else List.replicate 64 0
theorem Bld.fst64_bytes (s : Sup.Sb) : Bytes (Bld.fst64 s) := by
  unfold Bld.fst64
  split
  · exact Sup.put_bytes ent s
  · intro x hx
    rw [List.eq_of_mem_replicate hx]; omega
theorem Bld.fst64_length (s : Sup.Sb) : (Bld.fst64 s).length = 64 := by
  unfold Bld.fst64
  split
  · exact Sup.put_length ent s
  · exact List.length_replicate
/-- What join answers. -/
def JAns (s : Sup.Sb) (z1 z2 z3 z4 z5 z6 : List Int) (w : World) (e : Ending) (w' : World) : Prop :=
  (1048576 < 64 + (z1.length + z2.length + z3.length + z4.length + z5.length + z6.length) ∧ e = .returned (.tuple #[.slice none 0 0, .int .i64 3]) ∧ Below w.heap.size w w') ∨
  (64 + (z1.length + z2.length + z3.length + z4.length + z5.length + z6.length) ≤ 1048576 ∧ ∃ ib, e = .returned (.tuple #[.slice (some ⟨ib, 0, none⟩) (64 + (z1.length + z2.length + z3.length + z4.length + z5.length + z6.length)) (64 + (z1.length + z2.length + z3.length + z4.length + z5.length + z6.length)), .int .i64 0]) ∧ w.heap.size ≤ ib ∧
    w'.heap[ib]? = some (.cells (bv (Bld.fst64 (Bld.sbl s z1.length z2.length z3.length z4.length z5.length z6.length) ++ (z1 ++ (z2 ++ (z3 ++ (z4 ++ (z5 ++ z6))))))).toArray 5 (0, 0)) ∧ Bytes (Bld.fst64 (Bld.sbl s z1.length z2.length z3.length z4.length z5.length z6.length) ++ (z1 ++ (z2 ++ (z3 ++ (z4 ++ (z5 ++ z6)))))) ∧ Below w.heap.size w w')
set_option maxRecDepth 100000 in
set_option maxHeartbeats 4000000 in
theorem join_any (tb : Nat) (s : Sup.Sb) (o1 o2 o3 o4 o5 o6 : Option Addr) (n1 n2 n3 n4 n5 n6 c1 c2 c3 c4 c5 c6 : Nat) (z1 z2 z3 z4 z5 z6 : List Int) (w : World) (hT : Tb w tb ent) (htb : tb < w.heap.size) (hW : Wid w)
    (B1 : Bs w o1 n1 z1) (B2 : Bs w o2 n2 z2) (B3 : Bs w o3 n3 z3) (B4 : Bs w o4 n4 z4) (B5 : Bs w o5 n5 z5) (B6 : Bs w o6 n6 z6) (h1 : n1 ≤ 1000000) (h2 : n2 ≤ 1000000) (h3 : n3 ≤ 1000000) (h4 : n4 ≤ 1000000) (h5 : n5 ≤ 1000000) (h6 : n6 ≤ 1000000) :
    Calls Tryz.prog 18 #[.pointer (some ⟨tb, 0, none⟩), .agg (sbv s), .agg #[.slice o1 n1 c1, .slice o2 n2 c2, .slice o3 n3 c3, .slice o4 n4 c4, .slice o5 n5 c5, .slice o6 n6 c6]] w (JAns s z1 z2 z3 z4 z5 z6 w) := by
  have HSz := hide (fun w' : World => size_any o1 o2 o3 o4 o5 o6 n1 n2 n3 n4 n5 n6 c1 c2 c3 c4 c5 c6 w' h1 h2 h3 h4 h5 h6)
  unfold JAns
  rw [B1.1, B2.1, B3.1, B4.1, B5.1, B6.1]
  obtain ⟨b0, bA, bB⟩ := two_boxes w (.cells (sbv s) 35) (.cells #[.slice o1 n1 c1, .slice o2 n2 c2, .slice o3 n3 c3, .slice o4 n4 c4, .slice o5 n5 c5, .slice o6 n6 c6] 66)
  obtain ⟨wA, hwA⟩ : ∃ wA, wA = (w.alloc (.cells (sbv s) 35)).alloc (.cells #[.slice o1 n1 c1, .slice o2 n2 c2, .slice o3 n3 c3, .slice o4 n4 c4, .slice o5 n5 c5, .slice o6 n6 c6] 66) := ⟨_, rfl⟩
  rw [← hwA] at b0 bA bB
  obtain ⟨S, hS⟩ : ∃ S, S = 64 + (n1 + n2 + n3 + n4 + n5 + n6) := ⟨_, rfl⟩
  rw [← hS]
  have e1 : IntKind.i64.wrap (64 + ((n1 + n2 + n3 + n4 + n5 + n6 : Nat) : Int)) = (S : Int) := by rw [IntKind.wrap_i64]; omega
  have HT := hide hT
  have HW := hide hW
  have H1 := hide B1
  have H2 := hide B2
  have H3 := hide B3
  have H4 := hide B4
  have H5 := hide B5
  have H6 := hide B6
  have HB0 := hide b0
  have HA := hide bA
  have HB := hide bB
  have HS := hide hS
  have eA : Hid ((w.alloc (.cells (sbv s) 35)).alloc (.cells #[.slice o1 n1 c1, .slice o2 n2 c2, .slice o3 n3 c3, .slice o4 n4 c4, .slice o5 n5 c5, .slice o6 n6 c6] 66) = wA) := hwA.symm
  generalize hms : n1 + n2 + n3 + n4 + n5 + n6 = ms at HSz e1
  unfold sbv at eA ⊢
  clear hT hW B1 B2 B3 B4 B5 B6 b0 bA bB hwA hS hms
  go_enter Tryz.func18, Tryz.ntmps18
  go_wp2_with fail
  rw [eA.out]
  refine (HSz.out wA).mono ?_
  rintro r w1 ⟨rfl, hb1⟩
  have k4 := (hb1.block _ (heap_lt HA.out)).trans HA.out
  have k5 := (hb1.block _ (heap_lt HB.out)).trans HB.out
  have c40 : w1.cell? ⟨w.heap.size, 0, none⟩ = some (.int .i64 s.size) := by simp [World.cell?, k4, sbv]
  have f40 : w1.frozen? ⟨w.heap.size, 0, none⟩ = false := by simp [World.frozen?, k4]
  obtain ⟨w2, hw2⟩ : ∃ w2, w2 = w1.setCell ⟨w.heap.size, 0, none⟩ (.int .i64 (S : Int)) := ⟨_, rfl⟩
  have fs2 : Fr (One w.heap.size) w1 w2 := by rw [hw2]; exact (Fr.refl _ _).set _ (fun _ => rfl)
  have k42 : w2.heap[w.heap.size]? = some (.cells (sbv { s with size := (S : Int) }) 35 (0, 0)) := by rw [hw2]; exact heap_setCell_self k4 _
  have k52 := (fs2.block _ (heap_lt k5) (obj_ne k5 k4 (by decide))).trans k5
  have b2 : Below w.heap.size w w2 := by
    have b1 := HB0.out.trans (hb1.mono HB0.out.size)
    exact b1.trans (fs2.below _ b1.size (fun k (hk : k = w.heap.size) => by omega))
  have c402 : w2.cell? ⟨w.heap.size, 0, none⟩ = some (.int .i64 (S : Int)) := by simp [World.cell?, k42, sbv]
  have HE2 : Hid (w1.setCell ⟨w.heap.size, 0, none⟩ (.int .i64 (S : Int)) = w2) := hw2.symm
  have K42 := hide k42
  have K52 := hide k52
  have Hb2 := hide b2
  clear hb1 k4 k5 hw2 fs2 k42 k52 b2 HSz eA HA HB HB0
  go_upto_region 2 with fail
  rw [HE2.out]
  clear c40 f40 HE2 e1
  by_cases hbig : 1048576 < S
  · have hgt : decide ((1048576 : Int) < (S : Int)) = true := by simp; omega
    have hgi : (1048576 : Int) < (S : Int) := by omega
    go_wp2
    go_ret2
    exact .inl ⟨hbig, rfl, Hb2.out⟩
  · have hgt : decide ((1048576 : Int) < (S : Int)) = false := by simp; omega
    have hgi : ¬ (1048576 : Int) < (S : Int) := by omega
    obtain ⟨M, hM, hmk⟩ := Bld.makeN S (by omega)
    have HM := hide hM
    clear hM
    obtain ⟨t1, t2, t3⟩ := two_boxes w2 (.cells M 5) (.cells #[.slice (some ⟨w2.heap.size, 0, none⟩) S S] 25)
    obtain ⟨w3, hw3⟩ : ∃ w3, w3 = ((w2.alloc (.cells M 5)).alloc (.cells #[.slice (some ⟨w2.heap.size, 0, none⟩) S S] 25)).alloc (.cells #[.int .i64 64] 3) := ⟨_, rfl⟩
    have t4 : Below w2.heap.size w2 w3 := by rw [hw3]; exact t1.alloc t1.size _
    have b3 : Below w.heap.size w w3 := Hb2.out.trans (t4.mono Hb2.out.size)
    have J0 : JJ w w3 w.heap.size (w.heap.size + 1) (w2.heap.size + 1) (w2.heap.size + 2) w2.heap.size S { s with size := (S : Int) } #[.slice o1 n1 c1, .slice o2 n2 c2, .slice o3 n3 c3, .slice o4 n4 c4, .slice o5 n5 c5, .slice o6 n6 c6] 64 (List.replicate 64 0 ++ List.replicate (n1 + n2 + n3 + n4 + n5 + n6) 0) := by
      have z2 := Hb2.out.size
      refine ⟨b3, (t4.block _ (heap_lt K42.out)).trans K42.out, (t4.block _ (heap_lt K52.out)).trans K52.out, ?_, ?_, ?_, ?_, ⟨Nat.le_refl _, by omega, by omega⟩⟩
      · rw [hw3]; exact (Below.heap_alloc _ _ _ (by simp)).trans t3
      · rw [hw3]; exact heap_new (by simp)
      · rw [hw3, List.replicate_append_replicate, ← HS.out, ← HM.out]; exact (Below.heap_alloc _ _ _ (by simp; omega)).trans t2
      · rw [List.replicate_append_replicate, List.length_replicate]; exact HS.out.symm
    have HE3 : Hid (((w2.alloc (.cells M 5)).alloc (.cells #[.slice (some ⟨w2.heap.size, 0, none⟩) S S] 25)).alloc (.cells #[.int .i64 64] 3) = w3) := hw3.symm
    have HJ0 := hide J0
    have hSl : S ≤ 1048576 := by omega
    clear hw3 J0 t1 t2 t3 t4 b3
    go_upto_region 7 with fail
    rw [HE3.out]
    clear HE3 hmk c402 HM K42 K52 hgt hgi
    have HJ0 : Hid (JJ w w3 w.heap.size (w.heap.size + 1) (w2.heap.size + 1) (w2.heap.size + 1 + 1) w2.heap.size S { s with size := (S : Int) } #[.slice o1 n1 c1, .slice o2 n2 c2, .slice o3 n3 c3, .slice o4 n4 c4, .slice o5 n5 c5, .slice o6 n6 c6] 64 (List.replicate 64 0 ++ List.replicate (n1 + n2 + n3 + n4 + n5 + n6) 0)) := HJ0
    have HIb : Hid (w.heap.size ≤ w2.heap.size) := Hb2.out.size
    generalize w2.heap.size + 1 + 1 = b9 at HJ0 ⊢
    generalize w2.heap.size + 1 = b8 at HJ0 ⊢
    generalize w2.heap.size = ib at HJ0 HIb ⊢
    generalize w.heap.size + 1 = p5 at HJ0 ⊢
    obtain ⟨p4, hp4⟩ : ∃ p4, p4 = w.heap.size := ⟨_, rfl⟩
    rw [← hp4] at HJ0 ⊢
    clear hp4
    obtain ⟨s0, hs0⟩ : ∃ s0 : Sup.Sb, s0 = { s with size := (S : Int) } := ⟨_, rfl⟩
    rw [← hs0] at HJ0
    have HS0 := hide hs0
    obtain ⟨a0, ha0⟩ : ∃ a0, a0 = 64 := ⟨_, rfl⟩
    have HJ0 : Hid (JJ w w3 p4 p5 b8 b9 ib S s0 #[.slice o1 n1 c1, .slice o2 n2 c2, .slice o3 n3 c3, .slice o4 n4 c4, .slice o5 n5 c5, .slice o6 n6 c6] a0 (List.replicate 64 0 ++ List.replicate (n1 + n2 + n3 + n4 + n5 + n6) 0)) := by rw [ha0]; exact HJ0.out
    obtain ⟨X0, hX0⟩ : ∃ X0 : List Int, X0 = List.replicate 64 0 := ⟨_, rfl⟩
    rw [← hX0] at HJ0
    obtain ⟨m0, hm0⟩ : ∃ m0, m0 = n1 + n2 + n3 + n4 + n5 + n6 := ⟨_, rfl⟩
    rw [← hm0] at HJ0
    have HM0 : Hid (a0 + m0 = S ∧ X0.length = a0 ∧ a0 = 64 ∧ X0 = List.replicate 64 0) := ⟨by rw [ha0, hm0]; exact HS.out.symm, by rw [hX0, ha0]; exact List.length_replicate, ha0, hX0⟩
    clear hs0 ha0 hX0 hm0
    have q1 : w3.cell? ⟨p5, 0, none⟩ = some (.slice o1 n1 c1) := by simp [World.cell?, HJ0.out.k5]
    have HL1 := hide (lay1_any b8 b9 ib S a0 n1 c1 o1 (X0 ++ List.replicate m0 0) z1 w3 HJ0.out.k9 HJ0.out.k8 HJ0.out.ki HJ0.out.il (H1.out.below HJ0.out.bel) (by have h1 := HM0.out; have h2 := HS.out; omega) hSl)
    go_wp2_with fail
    refine HL1.out.mono ?_
    rintro r v1 ⟨rfl, k9, ki, fY⟩
    have hJY := HJ0.out.laid HM0.out.2.1 H1.out.1 (by have h1 := HM0.out; have h2 := HS.out; omega) k9 ki fY
    obtain ⟨a1, ha⟩ : ∃ a, a = a0 + n1 := ⟨_, rfl⟩
    obtain ⟨m1, hm⟩ : ∃ m, m = m0 - n1 := ⟨_, rfl⟩
    obtain ⟨X1, hX⟩ : ∃ X, X = X0 ++ z1 := ⟨_, rfl⟩
    rw [← ha, ← hm, ← hX] at hJY
    have HM1 : Hid (a1 + m1 = S ∧ X1.length = a1 ∧ a1 = 64 + n1 ∧ X1 = (List.replicate 64 0) ++ z1) := by
      obtain ⟨g1, g2, g3, g4⟩ := HM0.out
      have g5 := HS.out
      have g6 := H1.out.1
      refine ⟨by omega, by rw [hX, List.length_append]; omega, by omega, by rw [hX, g4]⟩
    clear ha hm hX k9 ki fY HL1 q1
    have HJ1 := hide hJY
    clear hJY HJ0
    go_upto_region 8 with fail
    have q2 : v1.cell? ⟨p5, 1, none⟩ = some (.slice o2 n2 c2) := by simp [World.cell?, HJ1.out.k5]
    have HL2 := hide (lay1_any b8 b9 ib S a1 n2 c2 o2 (X1 ++ List.replicate m1 0) z2 v1 HJ1.out.k9 HJ1.out.k8 HJ1.out.ki HJ1.out.il (H2.out.below HJ1.out.bel) (by have h1 := HM1.out; have h2 := HS.out; omega) hSl)
    go_wp2_with fail
    refine HL2.out.mono ?_
    rintro r v2 ⟨rfl, k9, ki, fY⟩
    have hJY := HJ1.out.laid HM1.out.2.1 H2.out.1 (by have h1 := HM1.out; have h2 := HS.out; omega) k9 ki fY
    obtain ⟨a2, ha⟩ : ∃ a, a = a1 + n2 := ⟨_, rfl⟩
    obtain ⟨m2, hm⟩ : ∃ m, m = m1 - n2 := ⟨_, rfl⟩
    obtain ⟨X2, hX⟩ : ∃ X, X = X1 ++ z2 := ⟨_, rfl⟩
    rw [← ha, ← hm, ← hX] at hJY
    have HM2 : Hid (a2 + m2 = S ∧ X2.length = a2 ∧ a2 = 64 + n1 + n2 ∧ X2 = ((List.replicate 64 0) ++ z1) ++ z2) := by
      obtain ⟨g1, g2, g3, g4⟩ := HM1.out
      have g5 := HS.out
      have g6 := H2.out.1
      refine ⟨by omega, by rw [hX, List.length_append]; omega, by omega, by rw [hX, g4]⟩
    clear ha hm hX k9 ki fY HL2 q2
    have c4 : v2.cell? ⟨p4, 2, none⟩ = some (.int .i64 s0.inodeAt) := by simp [World.cell?, hJY.k4, sbv]
    have f4 : v2.frozen? ⟨p4, 2, none⟩ = false := by simp [World.frozen?, hJY.k4]
    obtain ⟨s1, hsn⟩ : ∃ s' : Sup.Sb, s' = { s0 with inodeAt := (a1 : Int) } := ⟨_, rfl⟩
    have hJZ := hJY.put 2 (.int .i64 (a1 : Int)) s1 (by rw [hsn]; rfl)
    obtain ⟨u2, hu⟩ : ∃ u, v2.setCell ⟨p4, 2, none⟩ (.int .i64 (a1 : Int)) = u := ⟨_, rfl⟩
    rw [hu] at hJZ
    have HJ2 := hide hJZ
    have HU := hide hu
    have HS1 := hide hsn
    clear hJY hJZ hu hsn HJ1
    go_upto_region 9 with fail
    rw [HU.out]
    clear c4 f4 HU
    have q3 : u2.cell? ⟨p5, 2, none⟩ = some (.slice o3 n3 c3) := by simp [World.cell?, HJ2.out.k5]
    have HL3 := hide (lay1_any b8 b9 ib S a2 n3 c3 o3 (X2 ++ List.replicate m2 0) z3 u2 HJ2.out.k9 HJ2.out.k8 HJ2.out.ki HJ2.out.il (H3.out.below HJ2.out.bel) (by have h1 := HM2.out; have h2 := HS.out; omega) hSl)
    go_wp2_with fail
    refine HL3.out.mono ?_
    rintro r v3 ⟨rfl, k9, ki, fY⟩
    have hJY := HJ2.out.laid HM2.out.2.1 H3.out.1 (by have h1 := HM2.out; have h2 := HS.out; omega) k9 ki fY
    obtain ⟨a3, ha⟩ : ∃ a, a = a2 + n3 := ⟨_, rfl⟩
    obtain ⟨m3, hm⟩ : ∃ m, m = m2 - n3 := ⟨_, rfl⟩
    obtain ⟨X3, hX⟩ : ∃ X, X = X2 ++ z3 := ⟨_, rfl⟩
    rw [← ha, ← hm, ← hX] at hJY
    have HM3 : Hid (a3 + m3 = S ∧ X3.length = a3 ∧ a3 = 64 + n1 + n2 + n3 ∧ X3 = (((List.replicate 64 0) ++ z1) ++ z2) ++ z3) := by
      obtain ⟨g1, g2, g3, g4⟩ := HM2.out
      have g5 := HS.out
      have g6 := H3.out.1
      refine ⟨by omega, by rw [hX, List.length_append]; omega, by omega, by rw [hX, g4]⟩
    clear ha hm hX k9 ki fY HL3 q3
    have c4 : v3.cell? ⟨p4, 3, none⟩ = some (.int .i64 s1.dirAt) := by simp [World.cell?, hJY.k4, sbv]
    have f4 : v3.frozen? ⟨p4, 3, none⟩ = false := by simp [World.frozen?, hJY.k4]
    obtain ⟨s2, hsn⟩ : ∃ s' : Sup.Sb, s' = { s1 with dirAt := (a2 : Int) } := ⟨_, rfl⟩
    have hJZ := hJY.put 3 (.int .i64 (a2 : Int)) s2 (by rw [hsn]; rfl)
    obtain ⟨u3, hu⟩ : ∃ u, v3.setCell ⟨p4, 3, none⟩ (.int .i64 (a2 : Int)) = u := ⟨_, rfl⟩
    rw [hu] at hJZ
    have HJ3 := hide hJZ
    have HU := hide hu
    have HS2 := hide hsn
    clear hJY hJZ hu hsn HJ2
    go_upto_region 10 with fail
    rw [HU.out]
    clear c4 f4 HU
    have q4 : u3.cell? ⟨p5, 3, none⟩ = some (.slice o4 n4 c4) := by simp [World.cell?, HJ3.out.k5]
    have HL4 := hide (lay1_any b8 b9 ib S a3 n4 c4 o4 (X3 ++ List.replicate m3 0) z4 u3 HJ3.out.k9 HJ3.out.k8 HJ3.out.ki HJ3.out.il (H4.out.below HJ3.out.bel) (by have h1 := HM3.out; have h2 := HS.out; omega) hSl)
    go_wp2_with fail
    refine HL4.out.mono ?_
    rintro r v4 ⟨rfl, k9, ki, fY⟩
    have hJY := HJ3.out.laid HM3.out.2.1 H4.out.1 (by have h1 := HM3.out; have h2 := HS.out; omega) k9 ki fY
    obtain ⟨a4, ha⟩ : ∃ a, a = a3 + n4 := ⟨_, rfl⟩
    obtain ⟨m4, hm⟩ : ∃ m, m = m3 - n4 := ⟨_, rfl⟩
    obtain ⟨X4, hX⟩ : ∃ X, X = X3 ++ z4 := ⟨_, rfl⟩
    rw [← ha, ← hm, ← hX] at hJY
    have HM4 : Hid (a4 + m4 = S ∧ X4.length = a4 ∧ a4 = 64 + n1 + n2 + n3 + n4 ∧ X4 = ((((List.replicate 64 0) ++ z1) ++ z2) ++ z3) ++ z4) := by
      obtain ⟨g1, g2, g3, g4⟩ := HM3.out
      have g5 := HS.out
      have g6 := H4.out.1
      refine ⟨by omega, by rw [hX, List.length_append]; omega, by omega, by rw [hX, g4]⟩
    clear ha hm hX k9 ki fY HL4 q4
    have c4 : v4.cell? ⟨p4, 4, none⟩ = some (.int .i64 s2.fragAt) := by simp [World.cell?, hJY.k4, sbv]
    have f4 : v4.frozen? ⟨p4, 4, none⟩ = false := by simp [World.frozen?, hJY.k4]
    obtain ⟨s3, hsn⟩ : ∃ s' : Sup.Sb, s' = { s2 with fragAt := (a3 : Int) } := ⟨_, rfl⟩
    have hJZ := hJY.put 4 (.int .i64 (a3 : Int)) s3 (by rw [hsn]; rfl)
    obtain ⟨u4, hu⟩ : ∃ u, v4.setCell ⟨p4, 4, none⟩ (.int .i64 (a3 : Int)) = u := ⟨_, rfl⟩
    rw [hu] at hJZ
    have HJ4 := hide hJZ
    have HU := hide hu
    have HS3 := hide hsn
    clear hJY hJZ hu hsn HJ3
    go_upto_region 11 with fail
    rw [HU.out]
    clear c4 f4 HU
    have q5 : u4.cell? ⟨p5, 4, none⟩ = some (.slice o5 n5 c5) := by simp [World.cell?, HJ4.out.k5]
    have HL5 := hide (lay1_any b8 b9 ib S a4 n5 c5 o5 (X4 ++ List.replicate m4 0) z5 u4 HJ4.out.k9 HJ4.out.k8 HJ4.out.ki HJ4.out.il (H5.out.below HJ4.out.bel) (by have h1 := HM4.out; have h2 := HS.out; omega) hSl)
    go_wp2_with fail
    refine HL5.out.mono ?_
    rintro r v5 ⟨rfl, k9, ki, fY⟩
    have hJY := HJ4.out.laid HM4.out.2.1 H5.out.1 (by have h1 := HM4.out; have h2 := HS.out; omega) k9 ki fY
    obtain ⟨a5, ha⟩ : ∃ a, a = a4 + n5 := ⟨_, rfl⟩
    obtain ⟨m5, hm⟩ : ∃ m, m = m4 - n5 := ⟨_, rfl⟩
    obtain ⟨X5, hX⟩ : ∃ X, X = X4 ++ z5 := ⟨_, rfl⟩
    rw [← ha, ← hm, ← hX] at hJY
    have HM5 : Hid (a5 + m5 = S ∧ X5.length = a5 ∧ a5 = 64 + n1 + n2 + n3 + n4 + n5 ∧ X5 = (((((List.replicate 64 0) ++ z1) ++ z2) ++ z3) ++ z4) ++ z5) := by
      obtain ⟨g1, g2, g3, g4⟩ := HM4.out
      have g5 := HS.out
      have g6 := H5.out.1
      refine ⟨by omega, by rw [hX, List.length_append]; omega, by omega, by rw [hX, g4]⟩
    clear ha hm hX k9 ki fY HL5 q5
    have c4 : v5.cell? ⟨p4, 5, none⟩ = some (.int .i64 s3.idAt) := by simp [World.cell?, hJY.k4, sbv]
    have f4 : v5.frozen? ⟨p4, 5, none⟩ = false := by simp [World.frozen?, hJY.k4]
    obtain ⟨s4, hsn⟩ : ∃ s' : Sup.Sb, s' = { s3 with idAt := (a4 : Int) } := ⟨_, rfl⟩
    have hJZ := hJY.put 5 (.int .i64 (a4 : Int)) s4 (by rw [hsn]; rfl)
    obtain ⟨u5, hu⟩ : ∃ u, v5.setCell ⟨p4, 5, none⟩ (.int .i64 (a4 : Int)) = u := ⟨_, rfl⟩
    rw [hu] at hJZ
    have HJ5 := hide hJZ
    have HU := hide hu
    have HS4 := hide hsn
    clear hJY hJZ hu hsn HJ4
    go_upto_region 12 with fail
    rw [HU.out]
    clear c4 f4 HU
    have q6 : u5.cell? ⟨p5, 5, none⟩ = some (.slice o6 n6 c6) := by simp [World.cell?, HJ5.out.k5]
    have HL6 := hide (lay1_any b8 b9 ib S a5 n6 c6 o6 (X5 ++ List.replicate m5 0) z6 u5 HJ5.out.k9 HJ5.out.k8 HJ5.out.ki HJ5.out.il (H6.out.below HJ5.out.bel) (by have h1 := HM5.out; have h2 := HS.out; omega) hSl)
    go_wp2_with fail
    refine HL6.out.mono ?_
    rintro r v6 ⟨rfl, k9, ki, fY⟩
    have hJY := HJ5.out.laid HM5.out.2.1 H6.out.1 (by have h1 := HM5.out; have h2 := HS.out; omega) k9 ki fY
    obtain ⟨a6, ha⟩ : ∃ a, a = a5 + n6 := ⟨_, rfl⟩
    obtain ⟨m6, hm⟩ : ∃ m, m = m5 - n6 := ⟨_, rfl⟩
    obtain ⟨X6, hX⟩ : ∃ X, X = X5 ++ z6 := ⟨_, rfl⟩
    rw [← ha, ← hm, ← hX] at hJY
    have HM6 : Hid (a6 + m6 = S ∧ X6.length = a6 ∧ a6 = 64 + n1 + n2 + n3 + n4 + n5 + n6 ∧ X6 = ((((((List.replicate 64 0) ++ z1) ++ z2) ++ z3) ++ z4) ++ z5) ++ z6) := by
      obtain ⟨g1, g2, g3, g4⟩ := HM5.out
      have g5 := HS.out
      have g6 := H6.out.1
      refine ⟨by omega, by rw [hX, List.length_append]; omega, by omega, by rw [hX, g4]⟩
    clear ha hm hX k9 ki fY HL6 q6
    have c4 : v6.cell? ⟨p4, 6, none⟩ = some (.int .i64 s4.xattrAt) := by simp [World.cell?, hJY.k4, sbv]
    have f4 : v6.frozen? ⟨p4, 6, none⟩ = false := by simp [World.frozen?, hJY.k4]
    obtain ⟨s5, hsn⟩ : ∃ s' : Sup.Sb, s' = { s4 with xattrAt := (a5 : Int) } := ⟨_, rfl⟩
    have hJZ := hJY.put 6 (.int .i64 (a5 : Int)) s5 (by rw [hsn]; rfl)
    obtain ⟨u6, hu⟩ : ∃ u, v6.setCell ⟨p4, 6, none⟩ (.int .i64 (a5 : Int)) = u := ⟨_, rfl⟩
    rw [hu] at hJZ
    have HJ6 := hide hJZ
    have HU := hide hu
    have HS5 := hide hsn
    clear hJY hJZ hu hsn HJ5
    go_upto_region 13 with fail
    rw [HU.out]
    clear c4 f4 HU
    have HSb : Hid (s5 = Bld.sbl s n1 n2 n3 n4 n5 n6) := by
      have h0 := HS.out
      have e1 := HM1.out.2.2.1
      have e2 := HM2.out.2.2.1
      have e3 := HM3.out.2.2.1
      have e4 := HM4.out.2.2.1
      have e5 := HM5.out.2.2.1
      show _ = _
      rw [HS5.out, HS4.out, HS3.out, HS2.out, HS1.out, HS0.out, e1, e2, e3, e4, e5]
      unfold Bld.sbl
      rw [h0]
    have HXe : Hid (X6 = List.replicate 64 0 ++ (z1 ++ (z2 ++ (z3 ++ (z4 ++ (z5 ++ z6)))))) := by
      show _ = _
      rw [HM6.out.2.2.2]; simp only [List.append_assoc]
    have hm6 : m6 = 0 := by
      have h0 := HS.out; have h1 := HM6.out.1; have h2 := HM6.out.2.2.1; omega
    subst hm6
    have HJ6 : Hid (JJ w u6 p4 p5 b8 b9 ib S s5 #[.slice o1 n1 c1, .slice o2 n2 c2, .slice o3 n3 c3, .slice o4 n4 c4, .slice o5 n5 c5, .slice o6 n6 c6] a6 X6) := by have := HJ6.out; rw [List.replicate_zero, List.append_nil] at this; exact this
    have hpos := HW.out.pos
    have HPut := hide (sPut_any tb ent s5 u6 small_ent (HT.out.below HJ6.out.bel htb) (Nat.lt_of_lt_of_le htb HJ6.out.bel.size) (HW.out.below HJ6.out.bel hpos))
    have hX6 := HJ6.out.il
    have HX6 := hide hX6
    have h64 : 64 ≤ S := by have := HS.out; omega
    clear hX6
    go_wp2_with (refine wpList_load_sb rfl _ rfl p4 rfl 35 (sbv s5) (0, 0) HJ6.out.k4 rfl ?_)
    refine HPut.out.mono ?_
    rintro r w8 ⟨(⟨hok, fb, rfl, hfb, hfh⟩ | ⟨hok, rfl⟩), hb8⟩
    · have hJ8 := HJ6.out.below hb8
      have hpl : (Sup.put ent s5).length = 64 := Sup.put_length ent s5
      have hBf := bs_blk (Sup.put_bytes ent s5) hfh
      rw [hpl] at hBf
      obtain ⟨w9, hcp, hi9, f9⟩ := copy_into (gb := ib) (S := S) (off := 0) (n := 64) (c := 64) (dL := S) (dC := S) (dp := some ⟨ib, 0, none⟩) hJ8.ki hJ8.il hBf (by omega) (by omega) (fun _ => rfl)
      have c8 : w8.cell? ⟨b8, 0, none⟩ = some (.slice (some ⟨ib, 0, none⟩) S S) := by simp [World.cell?, hJ8.k8]
      have k89 := (f9.block _ (heap_lt hJ8.k8) (obj_ne hJ8.k8 hJ8.ki (by decide))).trans hJ8.k8
      have c89 : w9.cell? ⟨b8, 0, none⟩ = some (.slice (some ⟨ib, 0, none⟩) S S) := by simp [World.cell?, k89]
      have HF : Hid (w9.heap[ib]? = some (.cells (bv (Bld.fst64 (Bld.sbl s n1 n2 n3 n4 n5 n6) ++ (z1 ++ (z2 ++ (z3 ++ (z4 ++ (z5 ++ z6))))))).toArray 5 (0, 0)) ∧ Bytes (Bld.fst64 (Bld.sbl s n1 n2 n3 n4 n5 n6) ++ (z1 ++ (z2 ++ (z3 ++ (z4 ++ (z5 ++ z6)))))) ∧ Below w.heap.size w w9) := by
        refine ⟨?_, (Bld.fst64_bytes _).append (H1.out.bytes.append (H2.out.bytes.append (H3.out.bytes.append (H4.out.bytes.append (H5.out.bytes.append H6.out.bytes))))), hJ8.bel.trans (f9.below _ hJ8.bel.size (fun k (hk : k = ib) => by rw [hk]; exact HIb.out))⟩
        rw [hi9, HXe.out, ← HSb.out]
        unfold Bld.fst64
        rw [if_pos (Sup.may_iff.2 hok), List.take_zero, List.nil_append, Nat.zero_add, List.drop_left' List.length_replicate]
      clear hJ8 hBf hpl hi9 f9 k89 hfh hb8 hfb hok HPut
      go_wp2
      go_ret2
      exact .inr ⟨hSl, ib, rfl, HIb.out, HF.out⟩
    · have hJ8 := HJ6.out.below hb8
      have c8 : w8.cell? ⟨b8, 0, none⟩ = some (.slice (some ⟨ib, 0, none⟩) S S) := by simp [World.cell?, hJ8.k8]
      obtain ⟨w9, hcp, hi9, f9⟩ := copy_into (gb := ib) (S := S) (off := 0) (n := 0) (c := 0) (dL := S) (dC := S) (dp := some ⟨ib, 0, none⟩) (bo := none) (b := []) hJ8.ki hJ8.il ⟨rfl, fun i => by simp [g], .inl rfl⟩ (by omega) (by omega) (fun _ => rfl)
      have k89 := (f9.block _ (heap_lt hJ8.k8) (obj_ne hJ8.k8 hJ8.ki (by decide))).trans hJ8.k8
      have c89 : w9.cell? ⟨b8, 0, none⟩ = some (.slice (some ⟨ib, 0, none⟩) S S) := by simp [World.cell?, k89]
      have HF : Hid (w9.heap[ib]? = some (.cells (bv (Bld.fst64 (Bld.sbl s n1 n2 n3 n4 n5 n6) ++ (z1 ++ (z2 ++ (z3 ++ (z4 ++ (z5 ++ z6))))))).toArray 5 (0, 0)) ∧ Bytes (Bld.fst64 (Bld.sbl s n1 n2 n3 n4 n5 n6) ++ (z1 ++ (z2 ++ (z3 ++ (z4 ++ (z5 ++ z6)))))) ∧ Below w.heap.size w w9) := by
        refine ⟨?_, (Bld.fst64_bytes _).append (H1.out.bytes.append (H2.out.bytes.append (H3.out.bytes.append (H4.out.bytes.append (H5.out.bytes.append H6.out.bytes))))), hJ8.bel.trans (f9.below _ hJ8.bel.size (fun k (hk : k = ib) => by rw [hk]; exact HIb.out))⟩
        rw [hi9, HXe.out, ← HSb.out]
        unfold Bld.fst64
        rw [if_neg (fun h => hok (Sup.may_iff.1 h)), List.take_zero, List.nil_append, List.nil_append, Nat.zero_add, List.drop_zero]
      clear hJ8 hi9 f9 k89 hb8 hok HPut
      go_wp2
      go_ret2
      exact .inr ⟨hSl, ib, rfl, HIb.out, HF.out⟩
end Go.Proofs.YtoohanojfoichaaGreatDoor

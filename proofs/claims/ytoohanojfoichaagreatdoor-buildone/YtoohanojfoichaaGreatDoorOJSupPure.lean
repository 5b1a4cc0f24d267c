import Derived.Test.YtoohanojfoichaaGreatDoorOCrcAll
import Derived.Test.YtoohanojfoichaaGreatDoorOJCurNew
import Derived.Laws.CopyOwn
import Derived.Deep.RegionHeld3
import Derived.Deep.RegionLaw
set_option linter.unusedVariables false
namespace Go.Proofs.YtoohanojfoichaaGreatDoor.Sup
open Cur (le by' le_by)
open Lz (g)
open Crc (more ent)
open Crc (more_lt)
structure Sb where
 size : Int
 inodes : Int
 inodeAt : Int
 dirAt : Int
 fragAt : Int
 idAt : Int
 xattrAt : Int
 ids : Int
 frags : Int
 root : Int
def Sb.n (s : Sb) : Nat → Int
 | 0 => s.size
 | 1 => s.inodeAt
 | 2 => s.dirAt
 | 3 => s.fragAt
 | 4 => s.idAt
 | 5 => s.xattrAt
 | 6 => s.root
 | 7 => s.inodes
 | 8 => s.ids
 | _ => s.frags
def wd (i : Nat) : Nat := if i < 7 then 4 else 2
def spot (i : Nat) : Nat := if i < 7 then 4 + 4 * i else 32 + 2 * (i - 7)
theorem spot_succ (i : Nat) : spot (i + 1) = spot i + wd i := by unfold spot wd; split <;> split <;> omega
theorem wd_fit (i : Nat) : 1 ≤ wd i ∧ wd i ≤ 4 := by unfold wd; split <;> omega
theorem spot_le (i : Nat) (h : i < 10) : spot i + wd i ≤ 38 := by unfold spot wd; split <;> omega
theorem n_ext {s t : Sb} (h : ∀ i, i < 10 → s.n i = t.n i) : s = t := by
 obtain ⟨a0, a1, a2, a3, a4, a5, a6, a7, a8, a9⟩ := s
 obtain ⟨b0, b1, b2, b3, b4, b5, b6, b7, b8, b9⟩ := t
 have h0 := h 0 (by omega)
 have h1 := h 1 (by omega)
 have h2 := h 2 (by omega)
 have h3 := h 3 (by omega)
 have h4 := h 4 (by omega)
 have h5 := h 5 (by omega)
 have h6 := h 6 (by omega)
 have h7 := h 7 (by omega)
 have h8 := h 8 (by omega)
 have h9 := h 9 (by omega)
 simp only [Sb.n] at *
 subst h0 h1 h2 h3 h4 h5 h6 h7 h8 h9
 rfl
def Sb.sorted (s : Sb) : Prop := 64 ≤ s.inodeAt ∧ s.inodeAt ≤ s.dirAt ∧ s.dirAt ≤ s.fragAt ∧ s.fragAt ≤ s.idAt ∧ s.idAt ≤ s.xattrAt ∧ s.xattrAt ≤ s.size ∧ s.size ≤ 1048576
def Sb.ok (s : Sb) : Prop := s.sorted ∧ (1 ≤ s.inodes ∧ s.inodes ≤ 1024) ∧ (1 ≤ s.ids ∧ s.ids ≤ 2048) ∧ (0 ≤ s.frags ∧ s.frags ≤ 1024) ∧ 0 ≤ s.root ∧ s.root ≤ 4294967295
def Sb.srt (s : Sb) : Bool := decide (64 ≤ s.inodeAt ∧ s.inodeAt ≤ s.dirAt ∧ s.dirAt ≤ s.fragAt ∧ s.fragAt ≤ s.idAt ∧ s.idAt ≤ s.xattrAt ∧ s.xattrAt ≤ s.size ∧ s.size ≤ 1048576)
def inn (n a b : Int) : Bool := decide (a ≤ n ∧ n ≤ b)
def Sb.may (s : Sb) : Bool := s.srt && inn s.inodes 1 1024 && inn s.ids 1 2048 && inn s.frags 0 1024 && inn s.root 0 4294967295
theorem may_iff {s : Sb} : s.may = true ↔ s.ok := by
 unfold Sb.may Sb.ok Sb.srt Sb.sorted inn
 simp only [Bool.and_eq_true, decide_eq_true_eq, and_assoc]
theorem may_not {s : Sb} : s.may = false ↔ ¬ s.ok := by rw [← may_iff, Bool.not_eq_true]
theorem ok_fits {s : Sb} (h : s.ok) (i : Nat) (hi : i < 10) : 0 ≤ s.n i ∧ s.n i < 256 ^ wd i := by
 obtain ⟨⟨h1, h2, h3, h4, h5, h6, h7⟩, ⟨h8, h9⟩, ⟨h10, h11⟩, ⟨h12, h13⟩, h14, h15⟩ := h
 match i, hi with
 | 0, _ => simp [Sb.n, wd]; omega
 | 1, _ => simp [Sb.n, wd]; omega
 | 2, _ => simp [Sb.n, wd]; omega
 | 3, _ => simp [Sb.n, wd]; omega
 | 4, _ => simp [Sb.n, wd]; omega
 | 5, _ => simp [Sb.n, wd]; omega
 | 6, _ => simp [Sb.n, wd]; omega
 | 7, _ => simp [Sb.n, wd]; omega
 | 8, _ => simp [Sb.n, wd]; omega
 | 9, _ => simp [Sb.n, wd]; omega
def pre (s : Sb) (i : Nat) : List Int := [76, 77, 76, 65] ++ ((List.range i).map fun j => by' (wd j) (s.n j)).flatten
theorem pre_zero (s : Sb) : pre s 0 = [76, 77, 76, 65] := rfl
theorem pre_succ (s : Sb) (i : Nat) : pre s (i + 1) = pre s i ++ by' (wd i) (s.n i) := by simp [pre, List.range_succ]
theorem pre_length (s : Sb) : ∀ i, (pre s i).length = spot i
 | 0 => rfl
 | i + 1 => by rw [pre_succ, List.length_append, pre_length s i, by_length, spot_succ]
theorem pre_bytes (s : Sb) : ∀ i, Bytes (pre s i)
 | 0 => by rw [pre_zero]; intro x hx; simp at hx; omega
 | i + 1 => by rw [pre_succ]; exact (pre_bytes s i).append (by_bytes _ _)
theorem pre_split (s : Sb) (i : Nat) : ∀ d, ∃ r, pre s (i + 1 + d) = pre s i ++ (by' (wd i) (s.n i) ++ r)
 | 0 => ⟨[], by rw [Nat.add_zero, pre_succ, List.append_nil]⟩
 | d + 1 => by
  obtain ⟨r, hr⟩ := pre_split s i d
  exact ⟨r ++ by' (wd (i + 1 + d)) (s.n (i + 1 + d)), by rw [← Nat.add_assoc, pre_succ, hr]; simp⟩
def body (s : Sb) : List Int := pre s 10
def put (T : Nat → Nat) (s : Sb) : List Int := body s ++ (by' 4 (more T 0 (body s)) ++ List.replicate 22 0)
theorem body_length (s : Sb) : (body s).length = 38 := pre_length s 10
theorem put_length (T : Nat → Nat) (s : Sb) : (put T s).length = 64 := by simp [put, body_length, by_length]
theorem put_bytes (T : Nat → Nat) (s : Sb) : Bytes (put T s) := (pre_bytes s 10).append ((by_bytes _ _).append (fun x hx => by simp at hx; omega))
def rn (zs : List Int) (i : Nat) : Int := le ((zs.drop (spot i)).take (wd i))
def sbOf (zs : List Int) : Sb := ⟨rn zs 0, rn zs 7, rn zs 1, rn zs 2, rn zs 3, rn zs 4, rn zs 5, rn zs 8, rn zs 9, rn zs 6⟩
theorem sbOf_n (zs : List Int) (i : Nat) (hi : i < 10) : (sbOf zs).n i = rn zs i := by
 match i, hi with
 | 0, _ => rfl
 | 1, _ => rfl
 | 2, _ => rfl
 | 3, _ => rfl
 | 4, _ => rfl
 | 5, _ => rfl
 | 6, _ => rfl
 | 7, _ => rfl
 | 8, _ => rfl
 | 9, _ => rfl
theorem rn_take (zs : List Int) (m i : Nat) (hi : i < 10) (hm : 38 ≤ m) : rn (zs.take m) i = rn zs i := by
 have := spot_le i hi
 unfold rn
 rw [List.drop_take, List.take_take, Nat.min_eq_left (by omega)]
theorem sbOf_take (zs : List Int) (m : Nat) (hm : 38 ≤ m) : sbOf (zs.take m) = sbOf zs := n_ext fun i hi => by
 rw [sbOf_n _ _ hi, sbOf_n _ _ hi, rn_take zs m i hi hm]
theorem rn_put {T : Nat → Nat} {s : Sb} (h : s.ok) (r : List Int) (i : Nat) (hi : i < 10) : rn (put T s ++ r) i = s.n i := by
 obtain ⟨q, hq⟩ := pre_split s i (9 - i)
 have e : body s = pre s i ++ (by' (wd i) (s.n i) ++ q) := by rw [← hq]; unfold body; congr 1; omega
 have hf := ok_fits h i hi
 unfold rn put
 rw [e, List.append_assoc, List.append_assoc, List.drop_left' (pre_length s i), List.append_assoc, List.take_left' (by_length _ _)]
 exact le_by _ _ hf.1 hf.2
theorem sbOf_put {T : Nat → Nat} {s : Sb} (h : s.ok) (r : List Int) : sbOf (put T s ++ r) = s := n_ext fun i hi => by
 rw [sbOf_n _ _ hi, rn_put h r i hi]
def good (T : Nat → Nat) (zs : List Int) : Prop := 64 ≤ zs.length ∧ (sbOf zs).ok ∧ (sbOf zs).size = zs.length ∧ zs.take 64 = put T (sbOf zs)
theorem good_put {T : Nat → Nat} {s : Sb} (h : s.ok) (r : List Int) (hs : s.size = 64 + r.length) : good T (put T s ++ r) := by
 refine ⟨by simp [put_length], ?_, ?_, ?_⟩
 ·rw [sbOf_put h]; exact h
 ·rw [sbOf_put h, hs]; simp [put_length]
 ·rw [sbOf_put h, List.take_left' (put_length _ _)]
end Go.Proofs.YtoohanojfoichaaGreatDoor.Sup
namespace Go.Proofs.YtoohanojfoichaaGreatDoor
open Go.RowKit Go.Maps
open Sup
theorem sIsNaN_any (x : Int) (w : World) : Calls Tryz.prog 153 #[.int .i64 x] w fun e w' => e = .returned (.bool false) ∧ w' = w := by
 have h : (x != x) = false := by simp
 go_enter Tryz.func153, Tryz.ntmps153
 go_wp2
 go_ret
 exact ⟨rfl, rfl⟩
theorem iLess_any (x y : Int) (w : World) : Calls Tryz.prog 102 #[.int .i64 x, .int .i64 y] w fun e w' => e = .returned (.bool (decide (x < y))) ∧ w' = w := by
 go_enter Tryz.func102, Tryz.ntmps102
 go_wp2_with (go_at_call 153; refine (sIsNaN_any _ _).mono ?_; rintro e w' ⟨rfl, rfl⟩)
 go_ret
 exact ⟨rfl, rfl⟩
theorem sWithin_any (n a b : Int) (w : World) : Calls Tryz.prog 61 #[.int .i64 n, .int .i64 a, .int .i64 b] w fun e w' => e = .returned (.bool (inn n a b)) ∧ w' = w := by
 by_cases h1 : a ≤ n
 ·by_cases h2 : n ≤ b
  ·have e : inn n a b = true := by simp [inn, h1, h2]
   rw [e]
   clear e
   go_enter Tryz.func61, Tryz.ntmps61
   go_wp2
   go_ret
   exact ⟨rfl, rfl⟩
  ·have e : inn n a b = false := by simp [inn, h2]
   have h2' : decide (n ≤ b) = false := by simpa using h2
   rw [e]
   clear e
   go_enter Tryz.func61, Tryz.ntmps61
   go_wp2
   go_ret
   exact ⟨rfl, rfl⟩
 ·have e : inn n a b = false := by simp [inn, h1]
  have h1' : decide (a ≤ n) = false := by simpa using h1
  rw [e]
  clear e
  go_enter Tryz.func61, Tryz.ntmps61
  go_wp2
  go_ret
  exact ⟨rfl, rfl⟩
def rises (n : Nat) (Z : Nat → Int) : Bool := decide (∀ i, i < n - 1 → Z i ≤ Z (i + 1))
set_option maxRecDepth 100000 in
theorem IsSorted_any (b n c : Nat) (Z : Nat → Int) (w : World) (hZ : ∀ i, i < n → w.cell? ⟨b, i, none⟩ = some (.int .i64 (Z i))) (h1 : 1 ≤ n) (hn : n ≤ 1000) :
  Calls Tryz.prog 60 #[.slice (some ⟨b, 0, none⟩) n c] w fun e w' => e = .returned (.bool (rises n Z)) ∧ ∃ q, w' = w.drewN q := by
 have HZ := hide hZ
 clear hZ
 go_enter Tryz.func60, Tryz.ntmps60
 go_wp2
 go_loopw [3] (fun s3 wr => ∃ i q : Nat, i < n ∧ s3 = .int .i64 i ∧ wr = w.drewN q ∧ ∀ j, i ≤ j → j < n - 1 → Z j ≤ Z (j + 1)) (fun s3 _ => (intOf s3).toNat)
 case atStart => exact ⟨n - 1, 0, by omega, by congr 1; omega, rfl, fun j h1 h2 => by omega⟩
 case round =>
  obtain ⟨i, q, hi, rfl, hWq, hinv⟩ := hrel
  have HI := hide hinv
  have HQ := hide hWq
  have HZr : Hid (∀ i, i < n → wr.cell? ⟨b, i, none⟩ = some (.int .i64 (Z i))) := fun i hi => by rw [hWq, ← HZ.out i hi]; simp
  clear hinv hWq
  by_cases h0 : i = 0
  ·subst h0
   have e : Hid (true = rises n Z) := by
    show _ = _
    symm; unfold rises; rw [decide_eq_true_eq]
    exact fun j hj => HI.out j (by omega) hj
   go_wp2
   go_ret
   exact ⟨ret_bool e.out, q, HQ.out⟩
  ·obtain ⟨t, ht⟩ : ∃ t, i = t + 1 := ⟨i - 1, by omega⟩
   have HT := hide ht
   have c1 := HZr.out t (by omega)
   have c2 := HZr.out i (by omega)
   have hp : (0 : Int) < i := by omega
   have hn1 : (t : Int) < n := by omega
   have hn2 : (i : Int) < n := by omega
   have hw1 : IntKind.i64.wrap ((i : Int) - 1) = t := by rw [IntKind.wrap_i64]; omega
   clear ht h0
   have HL : Hid (∀ w', Calls Tryz.prog 102 #[.int .i64 (Z i), .int .i64 (Z t)] w' fun e w2 => e = .returned (.bool (decide (Z i < Z t))) ∧ w2 = w') := fun w' => iLess_any _ _ w'
   by_cases hlt : Z i < Z t
   ·have hd : decide (Z i < Z t) = true := by simpa using hlt
    have e : Hid (false = rises n Z) := by
     show _ = _
     symm; unfold rises; rw [decide_eq_false_iff_not]
     intro h
     have := h t (by have := HT.out; omega)
     rw [← HT.out] at this
     omega
    go_wp2
    go_quiet ((go_at_call 102; exact Calls.quiet_of_same (HL.out _)))
    go_wp2
    go_ret
    exact ⟨ret_bool e.out, by rw [HQ.out]; exact dr2 _ _ _⟩
   ·have hd : decide (Z i < Z t) = false := by simpa using hlt
    go_wp2
    go_quiet ((go_at_call 102; exact Calls.quiet_of_same (HL.out _)))
    go_wp2
    go_roundw
    case rel =>
     have ht := HT.out
     refine ⟨t, _, by omega, by go_num, by rw [HQ.out, World.drewN_drewN], fun j h1 h2 => ?_⟩
     by_cases e : j = t
     ·subst e; rw [← ht]; omega
     ·exact HI.out j (by omega) h2
    case measure => have ht := HT.out; simp [intOf]; omega
end Go.Proofs.YtoohanojfoichaaGreatDoor
namespace Go.Proofs.YtoohanojfoichaaGreatDoor
open Go.RowKit Go.Maps
open Sup
def sbv (s : Sb) : Array Value := #[.int .i64 s.size, .int .i64 s.inodes, .int .i64 s.inodeAt, .int .i64 s.dirAt, .int .i64 s.fragAt, .int .i64 s.idAt, .int .i64 s.xattrAt, .int .i64 s.ids, .int .i64 s.frags, .int .i64 s.root]
def pl (s : Sb) : Nat → Int
 | 0 => 64
 | 1 => s.inodeAt
 | 2 => s.dirAt
 | 3 => s.fragAt
 | 4 => s.idAt
 | 5 => s.xattrAt
 | 6 => s.size
 | _ => 1048576
theorem rises_pl (s : Sb) : rises 8 (pl s) = s.srt := by
 unfold rises Sb.srt
 rw [decide_eq_decide]
 constructor
 ·intro h
  exact ⟨h 0 (by omega), h 1 (by omega), h 2 (by omega), h 3 (by omega), h 4 (by omega), h 5 (by omega), h 6 (by omega)⟩
 ·rintro ⟨h0, h1, h2, h3, h4, h5, h6⟩ i hi
  match i, hi with
  | 0, _ => exact h0
  | 1, _ => exact h1
  | 2, _ => exact h2
  | 3, _ => exact h3
  | 4, _ => exact h4
  | 5, _ => exact h5
  | 6, _ => exact h6
theorem sorted_at (q : Bool) (b c : Nat) (s : Sb) (w : World) (t : TypeId) (hq : s.srt = q) (hb : b = w.heap.size) :
  Calls Tryz.prog 60 #[.slice (some ⟨b, 0, none⟩) 8 c] (w.alloc (.cells #[.int .i64 64, .int .i64 s.inodeAt, .int .i64 s.dirAt, .int .i64 s.fragAt, .int .i64 s.idAt, .int .i64 s.xattrAt, .int .i64 s.size, .int .i64 1048576] t)) fun e w' => e = .returned (.bool q) ∧ ∃ n, w' = (w.alloc (.cells #[.int .i64 64, .int .i64 s.inodeAt, .int .i64 s.dirAt, .int .i64 s.fragAt, .int .i64 s.idAt, .int .i64 s.xattrAt, .int .i64 s.size, .int .i64 1048576] t)).drewN n := by
 subst hq hb
 rw [← rises_pl]
 refine IsSorted_any w.heap.size 8 c (pl s) _ (fun i hi => ?_) (by omega) (by omega)
 rw [cell_of_row _ w.heap.size i _ _ _ (heap_alloc_new _ _)]
 match i, hi with
 | 0, _ => rfl
 | 1, _ => rfl
 | 2, _ => rfl
 | 3, _ => rfl
 | 4, _ => rfl
 | 5, _ => rfl
 | 6, _ => rfl
 | 7, _ => rfl
set_option maxRecDepth 100000 in
set_option maxHeartbeats 4000000 in
theorem sMay_any (s : Sb) (w : World) : Calls Tryz.prog 23 #[.agg (sbv s)] w fun e w' => e = .returned (.bool s.may) ∧ Below w.heap.size w w' := by
 unfold sbv
 have HB : Hid (∀ (o o' : Obj) (n : Nat), Below w.heap.size w (((w.alloc o).alloc o').drewN n)) := fun o o' n => below_drewN (((Below.refl _ _).alloc (Nat.le_refl _) _).alloc (by simp) _) n
 cases h0 : s.srt with
 | false =>
  have HM : Hid (s.may = false) := by show _ = _; unfold Sb.may; rw [h0]; rfl
  have H0 := hide h0
  clear h0
  go_enter Tryz.func23, Tryz.ntmps23
  go_wp2_with (first
   | (go_at_call 61; refine (sWithin_any _ _ _ _).mono ?_; rintro e w1 ⟨rfl, rfl⟩)
   | (go_at_call 60; refine (sorted_at _ (w.heap.size + 1) 8 s _ _ H0.out (by simp)).mono ?_; rintro e w1 ⟨rfl, n, rfl⟩))
  go_ret
  exact ⟨ret_bool HM.out.symm, HB.out _ _ _⟩
 | true =>
  have H0 := hide h0
  cases h1 : inn s.inodes 1 1024 with
  | false =>
   have HM : Hid (s.may = false) := by show _ = _; unfold Sb.may; rw [h0, h1]; rfl
   clear h0
   go_enter Tryz.func23, Tryz.ntmps23
   go_wp2_with (first
    | (go_at_call 61; refine (sWithin_any _ _ _ _).mono ?_; rintro e w1 ⟨rfl, rfl⟩)
    | (go_at_call 60; refine (sorted_at _ (w.heap.size + 1) 8 s _ _ H0.out (by simp)).mono ?_; rintro e w1 ⟨rfl, n, rfl⟩))
   go_ret
   exact ⟨ret_bool HM.out.symm, HB.out _ _ _⟩
  | true =>
   cases h2 : inn s.ids 1 2048 with
   | false =>
    have HM : Hid (s.may = false) := by show _ = _; unfold Sb.may; rw [h0, h1, h2]; rfl
    clear h0
    go_enter Tryz.func23, Tryz.ntmps23
    go_wp2_with (first
     | (go_at_call 61; refine (sWithin_any _ _ _ _).mono ?_; rintro e w1 ⟨rfl, rfl⟩)
     | (go_at_call 60; refine (sorted_at _ (w.heap.size + 1) 8 s _ _ H0.out (by simp)).mono ?_; rintro e w1 ⟨rfl, n, rfl⟩))
    go_ret
    exact ⟨ret_bool HM.out.symm, HB.out _ _ _⟩
   | true =>
    cases h3 : inn s.frags 0 1024 with
    | false =>
     have HM : Hid (s.may = false) := by show _ = _; unfold Sb.may; rw [h0, h1, h2, h3]; rfl
     clear h0
     go_enter Tryz.func23, Tryz.ntmps23
     go_wp2_with (first
      | (go_at_call 61; refine (sWithin_any _ _ _ _).mono ?_; rintro e w1 ⟨rfl, rfl⟩)
      | (go_at_call 60; refine (sorted_at _ (w.heap.size + 1) 8 s _ _ H0.out (by simp)).mono ?_; rintro e w1 ⟨rfl, n, rfl⟩))
     go_ret
     exact ⟨ret_bool HM.out.symm, HB.out _ _ _⟩
    | true =>
     have HM : Hid (s.may = inn s.root 0 4294967295) := by show _ = _; unfold Sb.may; rw [h0, h1, h2, h3]; rfl
     clear h0
     go_enter Tryz.func23, Tryz.ntmps23
     go_wp2_with (first
      | (go_at_call 61; refine (sWithin_any _ _ _ _).mono ?_; rintro e w1 ⟨rfl, rfl⟩)
      | (go_at_call 60; refine (sorted_at _ (w.heap.size + 1) 8 s _ _ H0.out (by simp)).mono ?_; rintro e w1 ⟨rfl, n, rfl⟩))
     go_ret
     exact ⟨ret_bool HM.out.symm, HB.out _ _ _⟩
end Go.Proofs.YtoohanojfoichaaGreatDoor
namespace Go.Proofs.YtoohanojfoichaaGreatDoor
open Go.RowKit Go.Maps
open Lz (g)
open Crc (ent more)
open Cur
open Sup
def wdv : Array Value := #[.int .i64 4, .int .i64 4, .int .i64 4, .int .i64 4, .int .i64 4, .int .i64 4, .int .i64 4, .int .i64 2, .int .i64 2, .int .i64 2]
def Wid (w : World) : Prop := ∃ t fz, w.heap[0]? = some (.cells wdv t fz)
theorem Wid.below {w w' : World} {B : Nat} (h : Wid w) (hb : Below B w w') (hB : 0 < B) : Wid w' := by
 obtain ⟨t, fz, h⟩ := h
 exact ⟨t, fz, (hb.block 0 hB).trans h⟩
theorem Wid.pos {w : World} (h : Wid w) : 0 < w.heap.size := by
 obtain ⟨t, fz, h⟩ := h
 exact heap_lt h
theorem Wid.cell {w : World} (h : Wid w) (i : Nat) (hi : i < 10) : w.cell? ⟨0, i, none⟩ = some (.int .i64 (wd i)) := by
 obtain ⟨t, fz, h⟩ := h
 rw [cell_of_row w 0 i _ _ _ h]
 match i, hi with
 | 0, _ => rfl
 | 1, _ => rfl
 | 2, _ => rfl
 | 3, _ => rfl
 | 4, _ => rfl
 | 5, _ => rfl
 | 6, _ => rfl
 | 7, _ => rfl
 | 8, _ => rfl
 | 9, _ => rfl
def nv (s : Sb) : Array Value := #[.int .i64 s.size, .int .i64 s.inodeAt, .int .i64 s.dirAt, .int .i64 s.fragAt, .int .i64 s.idAt, .int .i64 s.xattrAt, .int .i64 s.root, .int .i64 s.inodes, .int .i64 s.ids, .int .i64 s.frags]
theorem nv_at (s : Sb) (i : Nat) (hi : i < 10) : (nv s)[i]? = some (.int .i64 (s.n i)) := by
 match i, hi with
 | 0, _ => rfl
 | 1, _ => rfl
 | 2, _ => rfl
 | 3, _ => rfl
 | 4, _ => rfl
 | 5, _ => rfl
 | 6, _ => rfl
 | 7, _ => rfl
 | 8, _ => rfl
 | 9, _ => rfl
theorem infoSuper : (Tryz.prog.info? 35).map (·.size) = some 10 := by kernel_rfl
theorem infoNums : (Tryz.prog.info? 113).map (·.size) = some 10 := by kernel_rfl
theorem infoBlock : (Tryz.prog.info? 69).map (·.size) = some 64 := by kernel_rfl
set_option maxRecDepth 100000 in
theorem numbersOf_any (s : Sb) (w : World) : Calls Tryz.prog 63 #[.agg (sbv s)] w fun e w' => e = .returned (.agg (nv s)) ∧ Below w.heap.size w w' := by
 unfold sbv
 go_enter Tryz.func63, Tryz.ntmps63
 go_wp2
 refine bodyPost_ret (v := .agg (nv s)) ?_ rfl ⟨rfl, ((Below.refl _ _).alloc (Nat.le_refl _) _).alloc (by simp) _⟩
 exact results_cell_row rfl _ _ (w.heap.size + 1) 113 (nv s) (0, 0) _ rfl (heap_new (by simp)) Tryz.underlying113 rfl infoNums
def bl (zs : List Int) : Array Value := (bv zs).toArray
theorem zero64 : (Tryz.prog.info? 69).map (fun i => (i.zero, i.size)) = some (some (.agg (Array.replicate 64 (.int .u8 0))), 64) := by kernel_rfl
theorem run_index_int {t : TypeId} {n : Nat} (w : World) (C : Array Value) (i : Nat) (x : Int) (ht : Tryz.prog.underlying t = some (.array n 3)) (hi : i < n) (hC : C[i]? = some (.int .i64 x)) : (Instr.index t (.agg C) (.int .i64 i)).run Tryz.prog w = .ok (.int .i64 x) w := by
 simp [Instr.index, run_underlying ht, run_underlying Tryz.underlying3, asIntOf, part, isAgg, hC, go_sem]
 intro h; omega
theorem wNum_pre {s : Sb} (h : s.ok) (i : Nat) (hi : i < 10) : wNum (s.n i) (wd i) (pre s i, 0) = (pre s (i + 1), 0) := by
 have h1 := ok_fits h i hi
 have h2 := wd_fit i
 unfold wNum wByt
 rw [if_pos ⟨by omega, by omega, h1.1, by simpa using h1.2⟩, if_pos rfl, pre_succ]
 simp
theorem n_64 {s : Sb} (h : s.ok) (i : Nat) (hi : i < 10) : -9223372036854775808 ≤ s.n i ∧ s.n i ≤ 9223372036854775807 := by
 have h1 := ok_fits h i hi
 have h2 := pow256 (wd_fit i).2
 omega
theorem bl_size (T : Nat → Nat) (s : Sb) : (bl (put T s)).size = 64 := by simp [bl, bv, put_length]
theorem bl_one (zs : List Int) : (bl zs).all (·.oneCell') = true := by
 rw [Array.all_eq_true]
 intro i hi
 exact bv_one zs _ (by simp [bl])
theorem splice_full {T : Nat → Nat} {s : Sb} {F : List Int} (hF : F.length = 42) (hB : F ++ List.replicate 22 0 = put T s) : (splice (List.replicate 64 (Value.int .u8 0)) 0 (bv F)).toArray = bl (put T s) := by
 rw [← hB]
 unfold splice bl
 rw [bv_append, bv_length, hF]
 congr 1
theorem ssrc_of {w : World} {ao : Option Addr} {n : Nat} {zs : List Int} (h : Bs w ao n zs) (hn : n ≠ 0) : ∃ ad, ao = some ad ∧ ∀ j v, (bv zs)[j]? = some v → w.cell? (ad.add j) = some v := by
 obtain ⟨hz, hby, h0 | ⟨b, off, rfl, hb, hs⟩⟩ := h
 ·omega
 ·refine ⟨_, rfl, ?_⟩
  have := news_seg hs n
  rw [List.take_of_length_le (by omega)] at this
  exact this
set_option maxRecDepth 100000 in
set_option maxHeartbeats 4000000 in
theorem blockOf_any (tb : Nat) (T : Nat → Nat) (s : Sb) (w : World) (hs : s.ok) (hS : Small T) (hT : Tb w tb T) (htb : tb < w.heap.size) (hW : Wid w) :
  Calls Tryz.prog 24 #[.pointer (some ⟨tb, 0, none⟩), .agg (sbv s)] w fun e w' => e = .returned (.agg (bl (put T s))) ∧ Below w.heap.size w w' := by
 have kc : ∀ (o1 o2 o3 : Obj) (C : Array Value) (n c : Nat), (convert 25 25 (.slice (some ⟨w.heap.size + 1 + 1 + 1, 0, none⟩) n c)).run Tryz.prog ((((w.alloc o1).alloc o2).alloc o3).alloc (.cells C 5)) = .ok (.slice (some ⟨w.heap.size + 1 + 1 + 1, 0, none⟩) n c) ((((w.alloc o1).alloc o2).alloc o3).alloc (.cells C 5 (C.size, C.size + 1))) := fun o1 o2 o3 C n c => by
  have := Lib.run_convert_bytes_const (P := Tryz.prog) (((w.alloc o1).alloc o2).alloc o3) 25 5 C n c Tryz.underlying25 Tryz.underlying5
  have e : (((w.alloc o1).alloc o2).alloc o3).heap.size = w.heap.size + 1 + 1 + 1 := by simp
  rw [e] at this
  exact this
 obtain ⟨hz, hi'⟩ := zero_of_info zero64
 have HT := hide hT
 have HW := hide hW
 have HS := hide hs
 clear hT hW hs
 obtain ⟨W2, hW2⟩ : ∃ W2, W2 = (w.alloc (.cells (sbv s) 35)).alloc (.cells (Array.replicate 64 (.int .u8 0)) 69) := ⟨_, rfl⟩
 obtain ⟨W3, hW3⟩ : ∃ W3, W3 = W2.alloc (.cells #[.slice none 0 0, .int .i64 0] 120) := ⟨_, rfl⟩
 obtain ⟨W4, hW4⟩ : ∃ W4, W4 = W3.alloc (.cells #[.int .u8 76, .int .u8 77, .int .u8 76, .int .u8 65] 5 (4, 5)) := ⟨_, rfl⟩
 have s2 : W2.heap.size = w.heap.size + 1 + 1 := by rw [hW2]; simp
 have s3 : W3.heap.size = w.heap.size + 1 + 1 + 1 := by rw [hW3]; simp [s2]
 have s4 : W4.heap.size = w.heap.size + 1 + 1 + 1 + 1 := by rw [hW4]; simp [s3]
 have s3' : W3.heap.size = W2.heap.size + 1 := by rw [s3, s2]
 have b2 : Below w.heap.size w W2 := by rw [hW2]; exact ((Below.refl _ _).alloc (Nat.le_refl _) _).alloc (by simp) _
 have b4 : Below W2.heap.size W2 W4 := by rw [hW4, hW3]; exact ((Below.refl _ _).alloc (Nat.le_refl _) _).alloc (by simp) _
 have HR0 : Hid (W2.heap[w.heap.size + 1]? = some (.cells (Array.replicate 64 (.int .u8 0)) 69 (0, 0))) := by rw [hW2]; exact heap_new (by simp)
 have HB0 : Hid (W2.heap[w.heap.size]? = some (.cells (sbv s) 35 (0, 0))) := by
  rw [hW2]; exact (Below.heap_alloc _ _ _ (by simp)).trans (heap_new rfl)
 have HP4 : Hid (WrP W4 W2.heap.size W3.heap.size (.slice none 0 0) ([], 0)) := by
  have h := WrP.new W2 W3.heap.size
  rw [← hW3] at h
  rw [hW4]; exact h.below ((Below.refl _ _).alloc (Nat.le_refl _) _)
 have HL4 : Hid (Bs W4 (some ⟨W3.heap.size, 0, none⟩) 4 [76, 77, 76, 65]) := by
  rw [hW4]; exact bs_new W3 (4, 5) [76, 77, 76, 65] (pre_bytes s 0)
 have HW2 := hide hW2
 have HW3 := hide hW3
 have HW4 := hide hW4
 have HB2 := hide b2
 have HB4 := hide b4
 clear hW2 hW3 hW4 b2 b4
 unfold sbv at HW2
 unfold sbv
 go_enter Tryz.func24, Tryz.ntmps24
 go_wp2_with fail
 rw [← HW2.out, ← HW3.out, ← HW4.out, ← s2, ← s3']
 refine (wBytes_any W2.heap.size W3.heap.size 4 4 (some ⟨W3.heap.size, 0, none⟩) (.slice none 0 0) [76, 77, 76, 65] ([], 0) W4 HP4.out (by omega) HL4.out (fun h => by simp at h) (by simp)).mono ?_
 rintro r w5 ⟨rfl, v5, h5, f5, l5⟩
 have b5 : Below W2.heap.size W2 w5 := HB4.out.trans ((f5.two_below (by omega) (Nat.le_refl _) (fun k hk => by simp [Value.ownBlock] at hk)))
 have hb5 : w5.heap[w.heap.size]? = some (.cells (sbv s) 35 (0, 0)) := (b5.block _ (by omega)).trans HB0.out
 have HP5 : Hid (WrP w5 W2.heap.size W3.heap.size v5 (pre s 0, 0)) := h5
 have HB5 := hide b5
 have HS2 := hide s2
 have HS3 := hide s3
 have hw2 : w.heap.size + 2 ≤ W2.heap.size := by omega
 have hw3 : W2.heap.size < W3.heap.size := by omega
 have hw5 : W3.heap.size ≤ w5.heap.size := by have := f5.size; omega
 clear h5 f5 l5 HP4 HL4 b5 s2 s3 s4 s3' HB4 kc
 go_wp2_with (refine wpList_load_row rfl _ _ rfl w.heap.size rfl 35 (sbv s) (0, 0) _ hb5 Tryz.underlying35 rfl infoSuper ?_)
 refine (numbersOf_any s w5).mono ?_
 rintro r w6 ⟨rfl, b6⟩
 have HB6 : Hid (Below W2.heap.size W2 w6) := HB5.out.trans (b6.mono HB5.out.size)
 have HP6 := hide (HP5.out.below b6)
 have hw6 : W3.heap.size ≤ w6.heap.size := Nat.le_trans hw5 b6.size
 obtain ⟨C, hC⟩ : ∃ C, C = nv s := ⟨_, rfl⟩
 rw [← hC]
 have HC := hide hC
 clear hC b6 hb5 HB5 HP5 hw5
 go_wp2
 go_loopw [14] (fun s14 wr => ∃ (i : Nat) (v : Value), s14 = .int .i64 i ∧ i ≤ 10 ∧ WrP wr W2.heap.size W3.heap.size v (pre s i, 0) ∧ Below W2.heap.size W2 wr ∧ W3.heap.size ≤ wr.heap.size) (fun s14 _ => 10 - (intOf s14).toNat)
 case atStart => exact ⟨0, v5, rfl, by omega, HP6.out, HB6.out, hw6⟩
 case round =>
  obtain ⟨i, v, rfl, hi, hP, hB, hsz⟩ := hrel
  have HP := hide hP
  have HB := hide hB
  clear hP hB HP6 HB6 hw6
  by_cases hlt : i < 10
  ·have hlt' : (i : Int) < 10 := by omega
   have hcn : C[i]? = some (.int .i64 (s.n i)) := by rw [HC.out]; exact nv_at s i hlt
   have hcw : wr.cell? ⟨0, i, none⟩ = some (.int .i64 (wd i)) := ((HW.out.below HB2.out HW.out.pos).below HB.out (by omega)).cell i hlt
   have hix : ∀ w', (Instr.index 113 (.agg C) (.int .i64 i)).run Tryz.prog w' = .ok (.int .i64 (s.n i)) w' := fun w' => run_index_int w' C i _ Tryz.underlying113 hlt hcn
   have HN := hide (wNum_any W2.heap.size W3.heap.size v (s.n i) (wd i) (pre s i, 0) wr HP.out hsz (by have := pre_length s i; have := spot_le i hlt; simp only [*]; omega) (n_64 HS.out i hlt) (by have := wd_fit i; omega))
   clear hcn
   go_wp2_with fail
   refine HN.out.mono ?_
   rintro r w7 ⟨rfl, hD⟩
   rw [wNum_pre HS.out i hlt] at hD
   obtain ⟨v7, h7, f7, l7⟩ := hD
   have HP7 := hide h7
   have HB7 : Hid (Below W2.heap.size W2 w7) := HB.out.trans (f7.two_below (by omega) (Nat.le_refl _) (fun k hk => Nat.le_trans (Nat.le_of_lt hw3) (HP.out.base k hk)))
   have hw7 : W3.heap.size ≤ w7.heap.size := Nat.le_trans hsz f7.size
   clear h7 f7 l7 HN hix
   go_wp2
   go_roundw
   case rel => exact ⟨i + 1, v7, by go_num, by omega, HP7.out, HB7.out, hw7⟩
   case measure => simp [intOf]; omega
  ·obtain rfl : i = 10 := by omega
   have HP' : Hid (WrP wr W2.heap.size W3.heap.size v (body s, 0)) := HP.out
   have hbl := body_length s
   have HTr : Hid (Tb wr tb T) := (HT.out.below HB2.out htb).below HB.out (by omega)
   clear HP
   go_wp2_with fail
   refine (Done_any W2.heap.size W3.heap.size v (body s, 0) wr HP'.out (by simp only [hbl]; omega)).mono ?_
   rintro r w7 ⟨ao7, c7, rfl, B7, hc7, hm7, nil7, b7⟩
   obtain ⟨S, hS'⟩ : ∃ S, S = more T 0 (body s) := ⟨_, rfl⟩
   have hSl : S < 4294967296 := by rw [hS']; exact Crc.more_lt hS _ (by omega)
   have HS7 : Hid (Calls Tryz.prog 65 #[.pointer (some ⟨tb, 0, none⟩), .slice ao7 38 c7] w7 fun e w' => e = .returned (.int .u32 S) ∧ w' = w7) := by
    have := Sum_any tb (body s).length c7 T ao7 (body s) w7 (HTr.out.below b7 (by omega)) hS B7 (by omega)
    rw [hbl, ← hS'] at this
    exact this
   have HP7 := hide (HP'.out.below b7)
   have HB7 : Hid (Below W2.heap.size W2 w7) := HB.out.trans (b7.mono HB.out.size)
   have hw7 : W3.heap.size ≤ w7.heap.size := Nat.le_trans hsz b7.size
   have HSm := hide hS'
   have HN8 := hide (wNum_any W2.heap.size W3.heap.size v S 4 (body s, 0) w7 HP7.out hw7 (by simp only [hbl]; omega) (by omega) (by omega))
   have HE8 : Hid (wNum S 4 (body s, 0) = (body s ++ by' 4 S, 0)) := by
    show _ = _
    unfold wNum wByt
    rw [if_pos ⟨by omega, by omega, by omega, by show (S : Int) < 256 ^ 4; omega⟩, if_pos rfl]; rfl
   clear B7 nil7 b7 HP' HTr HB hS'
   go_wp2_with fail
   refine HS7.out.mono ?_
   rintro r w8 ⟨rfl, hw8⟩
   obtain rfl := hw8.symm
   clear hw8 HS7
   go_wp2_with fail
   refine HN8.out.mono ?_
   rintro r w8 ⟨rfl, hD⟩
   rw [HE8.out] at hD
   obtain ⟨v8, h8, f8, l8⟩ := hD
   have HP8 := hide h8
   have HB8 : Hid (Below W2.heap.size W2 w8) := HB7.out.trans (f8.two_below (by omega) (Nat.le_refl _) (fun k hk => Nat.le_trans (Nat.le_of_lt hw3) (HP7.out.base k hk)))
   have hw8 : W3.heap.size ≤ w8.heap.size := Nat.le_trans hw7 f8.size
   clear h8 f8 l8 HN8 HE8 HP7 HB7
   go_wp2_with fail
   obtain ⟨w9, hw9⟩ : ∃ w9, w9 = w8.alloc (.cells (Array.replicate 64 (.int .u8 0)) 69) := ⟨_, rfl⟩
   rw [← hw9]
   have b89 : Below w8.heap.size w8 w9 := by rw [hw9]; exact (Below.refl _ _).alloc (Nat.le_refl _) _
   have z9 : w9.heap[w8.heap.size]? = some (.cells (List.replicate 64 (Value.int .u8 0)).toArray 69 (0, 0)) := by rw [hw9, List.toArray_replicate]; exact heap_new rfl
   have hlt9 : w8.heap.size < w9.heap.size := heap_lt z9
   obtain ⟨F, hF⟩ : ∃ F, F = body s ++ by' 4 S := ⟨_, rfl⟩
   have hFl : F.length = 42 := by rw [hF]; simp [hbl, by_length]
   rw [← hF] at HP8
   have HD : Hid (Calls Tryz.prog 66 #[.pointer (some ⟨W2.heap.size, 0, none⟩)] w9.drew fun r w' => ∃ ao c, r = .returned (.slice ao 42 c) ∧ Bs w' ao 42 F ∧ Below w9.heap.size w9 w') := by
    have hp : WrP w9.drew W2.heap.size W3.heap.size v8 (F, 0) := HP8.out.below (b89.trans ((Below.refl _ w9).drew.mono b89.size))
    refine (Done_any W2.heap.size W3.heap.size v8 (F, 0) w9.drew hp (by simp only [hFl]; omega)).mono ?_
    rintro r w' ⟨ao, c, rfl, h1, h2, h3, h4, h5⟩
    rw [hFl] at h1
    exact ⟨ao, c, by rw [hFl], h1, ⟨h5.os, h5.tape, h5.output, h5.size, h5.block⟩⟩
   have HF := hide hF
   have HZ9 := hide z9
   have HB9 : Hid (Below W2.heap.size W2 w9) := HB8.out.trans (b89.mono HB8.out.size)
   have hw98 : W2.heap.size ≤ w8.heap.size := by omega
   clear hw9 b89 z9 hF HP8 hbl hc7
   have hcs : (bv F).length = 42 := by rw [bv_length, hFl]
   go_region_law ((first
    | (go_simp; go_at_call 66; refine HD.out.mono ?_; rintro r wD ⟨aoD, cD, rfl, hBD, hbD⟩; have HBD := hide hBD; have HbD := hide hbD; clear hBD hbD; dsimp only)
    | (refine step_copy_splice (by rfl) (.tmp 29) (.tmp 30) 25 25 (by rfl) 5 Tryz.underlying25 (by kernel_rfl) _ _ 64 64 42 cD (by rfl) (by rfl) w8.heap.size 0 (List.replicate 64 (Value.int .u8 0)) 69 ((HbD.out.block _ hlt9).trans HZ9.out) (bv F) (by rw [hcs]; decide) (fun _ => ⟨rfl, ssrc_of HBD.out (by omega)⟩) (by rw [hcs]; simp) (bv_one F) w8.heap.size w9 (HbD.out.mono (Nat.le_of_lt hlt9)) (Nat.le_refl _) ?_; intro w10 hg10 hb10; have HB10 := hide hb10; clear hb10)))
   obtain ⟨X, hX⟩ : ∃ X, X = bl (put T s) := ⟨_, rfl⟩
   have hXs : X.size = 64 := by rw [hX, bl_size]
   have hX1 : X.all (·.oneCell') = true := by rw [hX]; exact bl_one _
   have h10 : w10.heap[w8.heap.size]? = some (.cells X 69 (0, 0)) := by
    rw [hg10.out, hX, splice_full (T := T) (s := s) hFl (by rw [HF.out, HSm.out]; simp [put])]
   have hB10 : Below W2.heap.size W2 w10 := HB9.out.trans (HB10.out.mono hw98)
   have hR10 : w10.heap[w.heap.size + 1]? = some (.cells (Array.replicate 64 (.int .u8 0)) 69 (0, 0)) := (hB10.block _ (by omega)).trans HR0.out
   have HBf : Hid (Below w.heap.size w (w10.setRow (w.heap.size + 1) X)) := below_setRow (HB2.out.trans (hB10.mono HB2.out.size)) (by omega) X
   have HX := hide hX
   clear hX hg10 hB10 HB9 HB10 HBD HbD HZ9 hcs HD
   go_wp2_with (first
    | refine wpList_load_row rfl _ _ rfl w8.heap.size rfl 69 X (0, 0) _ h10 Tryz.underlying69 rfl (by rw [hXs]; exact infoBlock) ?_
    | refine wpList_store_row rfl _ _ _ rfl (w.heap.size + 1) X rfl rfl 69 (Array.replicate 64 (.int .u8 0)) hR10 (by rw [hXs]; exact infoBlock) (by rw [hXs]; simp) hX1 ?_)
   refine bodyPost_ret (v := .agg X) ?_ rfl ⟨by rw [HX.out], HBf.out⟩
   exact results_cell_row rfl _ _ (w.heap.size + 1) 69 X (0, 0) _ rfl (setRow_heap _ _ _ _ _ _ hR10) Tryz.underlying69 rfl (by rw [hXs]; exact infoBlock)
end Go.Proofs.YtoohanojfoichaaGreatDoor
namespace Go.Proofs.YtoohanojfoichaaGreatDoor
open Go.RowKit Go.Maps
open Lz (g)
open Crc (ent more)
open Cur
open Sup
def SPutAns (T : Nat → Nat) (s : Sb) (w : World) (e : Ending) (w' : World) : Prop :=
 (s.ok ∧ ∃ b, e = .returned (.tuple #[.slice (some ⟨b, 0, none⟩) 64 64, .int .i64 0]) ∧ w.heap.size ≤ b ∧ w'.heap[b]? = some (.cells (bl (put T s)) 69 (0, 0))) ∨ (¬ s.ok ∧ e = .returned (.tuple #[.slice none 0 0, .int .i64 1]))
set_option maxRecDepth 100000 in
set_option maxHeartbeats 4000000 in
theorem sPut_any (tb : Nat) (T : Nat → Nat) (s : Sb) (w : World) (hS : Small T) (hT : Tb w tb T) (htb : tb < w.heap.size) (hW : Wid w) :
  Calls Tryz.prog 53 #[.pointer (some ⟨tb, 0, none⟩), .agg (sbv s)] w fun e w' => SPutAns T s w e w' ∧ Below w.heap.size w w' := by
 have HT := hide hT
 have HW := hide hW
 have hm := sMay_any s
 obtain ⟨hz, hi'⟩ := zero_of_info zero64
 clear hT hW
 obtain ⟨w1, hw1⟩ : ∃ w1, w1 = w.alloc (.cells (sbv s) 35) := ⟨_, rfl⟩
 have hb1 : w1.heap[w.heap.size]? = some (.cells (sbv s) 35 (0, 0)) := by rw [hw1]; exact heap_new rfl
 have b1 : Below w.heap.size w w1 := by rw [hw1]; exact (Below.refl _ _).alloc (Nat.le_refl _) _
 have hlt1 := heap_lt hb1
 have HW1 := hide hw1
 have HB1 := hide b1
 clear hw1 b1
 obtain ⟨C, hC⟩ : ∃ C, C = sbv s := ⟨_, rfl⟩
 have HC := hide hC
 rw [← hC]
 rw [← hC] at hb1 HW1 hm
 have HI : Hid ((Tryz.prog.info? 35).map (·.size) = some C.size) := by rw [hC]; exact infoSuper
 clear hC
 cases hq : s.may with
 | false =>
  rw [hq] at hm
  have HQ : Hid (¬ s.ok) := may_not.1 hq
  clear hq
  go_enter Tryz.func53, Tryz.ntmps53
  go_wp2_with (refine wpList_load_row rfl _ _ rfl w.heap.size rfl 35 C (0, 0) _ (heap_alloc_new w _) Tryz.underlying35 rfl HI.out ?_)
  rw [← HW1.out]
  refine (hm w1).mono ?_
  rintro r w2 ⟨rfl, b2⟩
  have HB2 : Hid (Below w.heap.size w w2) := HB1.out.trans (b2.mono HB1.out.size)
  clear b2
  go_wp2
  go_ret2
  exact ⟨.inr ⟨HQ.out, rfl⟩, HB2.out⟩
 | true =>
  rw [hq] at hm
  have HQ : Hid (s.ok) := may_iff.1 hq
  clear hq
  go_enter Tryz.func53, Tryz.ntmps53
  go_wp2_with (refine wpList_load_row rfl _ _ rfl w.heap.size rfl 35 C (0, 0) _ (heap_alloc_new w _) Tryz.underlying35 rfl HI.out ?_)
  rw [← HW1.out]
  refine (hm w1).mono ?_
  rintro r w2 ⟨rfl, b2⟩
  have HB2 : Hid (Below w.heap.size w w2) := HB1.out.trans (b2.mono HB1.out.size)
  have hb2 : w2.heap[w.heap.size]? = some (.cells C 35 (0, 0)) := (b2.block _ hlt1).trans hb1
  have hs2 := HB2.out.size
  have HK := hide (blockOf_any tb T s w2 HQ.out hS (HT.out.below HB2.out htb) (by omega) (HW.out.below HB2.out HW.out.pos))
  clear b2 hm
  rw [← HC.out] at HK
  go_wp2_with (refine wpList_load_row rfl _ _ rfl w.heap.size rfl 35 C (0, 0) _ hb2 Tryz.underlying35 rfl HI.out ?_)
  refine HK.out.mono ?_
  rintro r w3 ⟨rfl, b3⟩
  have HB3 : Hid (Below w.heap.size w w3) := HB2.out.trans (b3.mono HB2.out.size)
  obtain ⟨X, hX⟩ : ∃ X, X = bl (put T s) := ⟨_, rfl⟩
  have hXs : X.size = 64 := by rw [hX, bl_size]
  have hX1 : X.all (·.oneCell') = true := by rw [hX]; exact bl_one _
  rw [← hX]
  have HX := hide hX
  clear b3 hb2 hX HK
  go_wp2_with (refine wpList_store_row rfl _ _ _ rfl w3.heap.size X rfl rfl 69 (Array.replicate 64 (.int .u8 0)) (heap_alloc_new w3 _) (by rw [hXs]; exact infoBlock) (by rw [hXs]; simp) hX1 ?_; rw [World.setRow_alloc_new])
  go_ret2
  exact ⟨.inl ⟨HQ.out, w3.heap.size, rfl, HB3.out.size, by rw [← HX.out]; exact heap_new rfl⟩, HB3.out.alloc HB3.out.size _⟩
end Go.Proofs.YtoohanojfoichaaGreatDoor
namespace Go.Proofs.YtoohanojfoichaaGreatDoor
open Go.RowKit Go.Maps
open Lz (g)
open Crc (ent more)
open Cur
open Sup
set_option maxRecDepth 100000 in
theorem nsuper_any (s : Sb) (w : World) : Calls Tryz.prog 59 #[.agg (nv s)] w fun e w' => e = .returned (.agg (sbv s)) ∧ Below w.heap.size w w' := by
 unfold nv
 go_enter Tryz.func59, Tryz.ntmps59
 go_wp2
 refine bodyPost_ret (v := .agg (sbv s)) ?_ rfl ⟨rfl, ((Below.refl _ _).alloc (Nat.le_refl _) _).alloc (by simp) _⟩
 exact results_cell_row rfl _ _ (w.heap.size + 1) 35 (sbv s) (0, 0) _ rfl (heap_new (by simp)) Tryz.underlying35 rfl infoSuper
theorem sbv_one (s : Sb) : (sbv s).all (·.oneCell') = true := by simp [sbv, Value.oneCell']
def na (zs : List Int) (i : Nat) : Array Value := ((List.range 10).map fun j => Value.int .i64 (if j < i then rn zs j else 0)).toArray
theorem na_size (zs : List Int) (i : Nat) : (na zs i).size = 10 := by simp [na]
theorem na_zero (zs : List Int) : na zs 0 = Array.replicate 10 (.int .i64 0) := rfl
theorem na_full (zs : List Int) : na zs 10 = nv (sbOf zs) := rfl
theorem na_at (zs : List Int) (i j : Nat) (hj : j < 10) : (na zs i)[j]? = some (.int .i64 (if j < i then rn zs j else 0)) := by simp [na, hj]
theorem na_set (zs : List Int) (i : Nat) (hi : i < 10) : (na zs i).setIfInBounds i (.int .i64 (rn zs i)) = na zs (i + 1) := by
 apply Array.ext_getElem?
 intro j
 rw [Array.getElem?_setIfInBounds, na_size]
 by_cases hj : j < 10
 ·rw [na_at zs (i + 1) j hj, na_at zs i j hj]
  by_cases e : i = j
  ·subst e; rw [if_pos rfl, if_pos hi, if_pos (by omega)]
  ·rw [if_neg e]
   by_cases h : j < i
   ·rw [if_pos h, if_pos (by omega)]
   ·rw [if_neg h, if_neg (by omega)]
 ·rw [if_neg (by omega), Array.getElem?_eq_none (by rw [na_size]; omega), Array.getElem?_eq_none (by rw [na_size]; omega)]
theorem wdv_at (i : Nat) (hi : i < 10) : wdv[i]? = some (.int .i64 (wd i)) := by
 match i, hi with
 | 0, _ => rfl
 | 1, _ => rfl
 | 2, _ => rfl
 | 3, _ => rfl
 | 4, _ => rfl
 | 5, _ => rfl
 | 6, _ => rfl
 | 7, _ => rfl
 | 8, _ => rfl
 | 9, _ => rfl
theorem numA_rn {zs : List Int} (hz : zs.length = 64) (i : Nat) (hi : i < 10) : numA (wd i) (zs.drop (spot i), 0) = rn zs i := by
 have h1 := wd_fit i
 have h2 := spot_le i hi
 unfold numA pa rn
 rw [if_pos (by omega), if_neg (by simp; omega)]; simp
theorem numS_rn {zs : List Int} (hz : zs.length = 64) (i : Nat) (hi : i < 10) : numS (wd i) (zs.drop (spot i), 0) = (zs.drop (spot (i + 1)), 0) := by
 have h1 := wd_fit i
 have h2 := spot_le i hi
 unfold numS ps
 rw [if_pos (by omega), if_neg (by simp; omega)]
 simp [spot_succ, List.drop_drop]
def spz : Array Value := #[.int .i64 0, .int .i64 0, .int .i64 0, .int .i64 0, .int .i64 0, .int .i64 0, .int .i64 0, .int .i64 0, .int .i64 0, .int .i64 0]
theorem zero10 : (Tryz.prog.info? 113).map (fun i => (i.zero, i.size)) = some (some (.agg (Array.replicate 10 (.int .i64 0))), 10) := by kernel_rfl
theorem info65 : (Tryz.prog.info? 112).map (·.size) = some 10 := by kernel_rfl
set_option maxRecDepth 100000 in
set_option maxHeartbeats 4000000 in
theorem bsuper_any (zs : List Int) (w : World) (hz : zs.length = 64) (hb : Bytes zs) (hW : Wid w) :
  Calls Tryz.prog 22 #[.agg (bl zs)] w fun e w' => e = .returned (.agg (sbv (sbOf zs))) ∧ Below w.heap.size w w' := by
 obtain ⟨z1, i1⟩ := zero_of_info zero10
 obtain ⟨C, hC⟩ : ∃ C, C = bl zs := ⟨_, rfl⟩
 have hCs : C.size = 64 := by rw [hC]; simp [bl, bv, hz]
 rw [← hC]
 have HW := hide hW
 have HB := hide hb
 obtain ⟨W2, hW2⟩ : ∃ W2, W2 = (w.alloc (.cells C 69)).alloc (.cells spz 35) := ⟨_, rfl⟩
 have b2 : Below w.heap.size w W2 := by rw [hW2]; exact ((Below.refl _ _).alloc (Nat.le_refl _) _).alloc (by simp) _
 have HR : Hid (W2.heap[w.heap.size + 1]? = some (.cells spz 35 (0, 0))) := by rw [hW2]; exact heap_new (by simp)
 have s2 : W2.heap.size = w.heap.size + 2 := by rw [hW2]; simp
 have HS : Hid (Bs W2 (some ⟨w.heap.size, 4, none⟩) 60 (zs.drop 4)) := by
  have hc : W2.heap[w.heap.size]? = some (.cells (bl zs) 69 (0, 0)) := by
   rw [hW2, ← hC]; exact (Below.heap_alloc _ _ _ (by simp)).trans (heap_new rfl)
  refine ⟨by simp [hz], bytes_drop hb.g 4, .inr ⟨w.heap.size, 4, rfl, by omega, fun i hi => ?_⟩⟩
  rw [cell_of_row _ _ _ _ _ _ hc, Lz.g_drop]
  simp at hi
  have hi' : 4 + i < zs.length := by omega
  rw [Lz.g_lt _ _ hi']
  simp [bl, bv, hi']
 have HC := hide hC
 have HW2 := hide hW2
 have HB2 := hide b2
 have hs2 : w.heap.size + 2 ≤ W2.heap.size := by omega
 clear hC hb hW hW2 b2 s2
 unfold spz at HW2
 go_enter Tryz.func22, Tryz.ntmps22
 go_wp2_with fail
 rw [← HW2.out]
 refine (Read_any 60 60 (some ⟨w.heap.size, 4, none⟩) (zs.drop 4) W2 HS.out (by omega) (fun h => by simp at h) (by omega)).mono ?_
 rintro r w3 ⟨p, rfl, hp, hR3, b3⟩
 obtain ⟨t0, fz0, hwd⟩ := (HW.out.below HB2.out HW.out.pos).below b3 (by omega)
 obtain ⟨D, hD⟩ : ∃ D, D = wdv := ⟨_, rfl⟩
 rw [← hD] at hwd
 have hDs : D.size = 10 := by rw [hD]; rfl
 have HD := hide hD
 have hpl := hR3.lt
 have hs3 := b3.size
 obtain ⟨w4, hw4⟩ : ∃ w4, w4 = w3.alloc (.cells (na zs 0) 113) := ⟨_, rfl⟩
 have hwd4 : w4.heap[0]? = some (.cells D t0 fz0) := by rw [hw4]; exact (Below.heap_alloc _ _ _ (by omega)).trans hwd
 have HN4 : Hid (w4.heap[w3.heap.size]? = some (.cells (na zs 0) 113 (0, 0))) := by rw [hw4]; exact heap_new rfl
 have b34 : Below w3.heap.size w3 w4 := by rw [hw4]; exact (Below.refl _ _).alloc (Nat.le_refl _) _
 have HR4 : Hid (RdP w4 p w3.heap.size (zs.drop (spot 0), 0)) := hR3.below b34
 have HB4 : Hid (Below W2.heap.size W2 w4) := b3.trans (b34.mono b3.size)
 have HW4 := hide hw4
 rw [na_zero] at HW4
 clear hD b3 hR3 hwd hw4 b34 HS HW2
 go_wp2_with (refine wpList_load_row rfl _ _ rfl 0 rfl t0 D fz0 _ (by rw [← HW4.out]; exact hwd4) Tryz.underlying112 rfl (by rw [hDs]; exact info65) ?_)
 rw [← HW4.out]
 obtain ⟨N, hN⟩ : ∃ N, N = w3.heap.size := ⟨_, rfl⟩
 rw [← hN] at HN4 HR4 hpl hs3
 rw [← hN]
 clear hN HW4
 go_loopw [10] (fun s10 wr => ∃ i : Nat, s10 = .int .i64 i ∧ i ≤ 10 ∧ RdP wr p N (zs.drop (spot i), 0) ∧ wr.heap[N]? = some (.cells (na zs i) 113 (0, 0)) ∧ Below W2.heap.size W2 wr) (fun s10 _ => 10 - (intOf s10).toNat)
 case atStart => exact ⟨0, rfl, by omega, HR4.out, HN4.out, HB4.out⟩
 case round =>
  obtain ⟨i, rfl, hi, hR, hNr, hB⟩ := hrel
  have HRr := hide hR
  have HNr := hide hNr
  have HBr := hide hB
  clear hR hNr hB HR4 HN4 HB4 hwd4
  by_cases hlt : i < 10
  ·have hlt' : (i : Int) < 10 := by omega
   have hix : ∀ w', (Instr.index 112 (.agg D) (.int .i64 i)).run Tryz.prog w' = .ok (.int .i64 (wd i)) w' := fun w' => run_index_int w' D i _ Tryz.underlying112 hlt (by rw [HD.out]; exact wdv_at i hlt)
   have HNm := hide (Num_any p N (wd i) (zs.drop (spot i), 0) wr HRr.out (by have := wd_fit i; omega))
   rw [numA_rn hz i hlt, numS_rn hz i hlt] at HNm
   go_wp2_with fail
   refine HNm.out.mono ?_
   rintro r w5 ⟨rfl, hR5, hF5⟩
   have hN5 : w5.heap[N]? = some (.cells (na zs i) 113 (0, 0)) := (hF5.block N (heap_lt HNr.out) (by show ¬ N = p; omega)).trans HNr.out
   have c5 : w5.cell? ⟨N, i, none⟩ = some (.int .i64 0) := by rw [cell_of_row _ _ _ _ _ _ hN5, na_at zs i i hlt, if_neg (by omega)]
   have f5 : w5.frozen? ⟨N, i, none⟩ = false := by simp [World.frozen?, hN5]
   have HF : Hid (∃ i' : Nat, Value.int .i64 ((i : Int) + 1) = .int .i64 i' ∧ i' ≤ 10 ∧ RdP (w5.setCell ⟨N, i, none⟩ (.int .i64 (rn zs i))) p N (zs.drop (spot i'), 0) ∧ (w5.setCell ⟨N, i, none⟩ (.int .i64 (rn zs i))).heap[N]? = some (.cells (na zs i') 113 (0, 0)) ∧ Below W2.heap.size W2 (w5.setCell ⟨N, i, none⟩ (.int .i64 (rn zs i)))) := by
    have hset : Fr (One N) w5 (w5.setCell ⟨N, i, none⟩ (.int .i64 (rn zs i))) := (Fr.refl _ _).set _ (fun _ => rfl)
    have hb5 : Below W2.heap.size W2 w5 := HBr.out.trans (hF5.one_below HBr.out.size hp)
    refine ⟨i + 1, by go_num, by omega, hR5.above hset (fun k hk => by rw [show k = N from hk]; exact Nat.le_refl _) (by show ¬ p = N; omega), ?_, hb5.trans (hset.one_below hb5.size hs3)⟩
    rw [heap_setCell_self hN5, na_set zs i hlt]
   clear hR5 hF5 hN5 HNm
   go_wp2
   go_roundw
   case rel => exact HF.out
   case measure => simp [intOf]; omega
  ·obtain rfl : i = 10 := by omega
   have hNr := HNr.out
   rw [na_full] at hNr
   obtain ⟨E, hE⟩ : ∃ E, E = nv (sbOf zs) := ⟨_, rfl⟩
   rw [← hE] at hNr
   have HE := hide hE
   have HI : Hid ((Tryz.prog.info? 113).map (·.size) = some E.size) := by rw [hE]; exact infoNums
   have hm := nsuper_any (sbOf zs) wr
   obtain ⟨X, hX⟩ : ∃ X, X = sbv (sbOf zs) := ⟨_, rfl⟩
   rw [← hE, ← hX] at hm
   have HM := hide hm
   have HXs : Hid ((Tryz.prog.info? 35).map (·.size) = some X.size) := by rw [hX]; exact infoSuper
   have hX1 : X.all (·.oneCell') = true := by rw [hX]; exact sbv_one _
   have hXs : X.size = 10 := by rw [hX]; rfl
   have HX := hide hX
   have HR' : Hid (wr.heap[w.heap.size + 1]? = some (.cells spz 35 (0, 0))) := (HBr.out.block _ (by omega)).trans HR.out
   clear hE hm hX HNr HRr
   go_wp2_with (refine wpList_load_row rfl _ _ rfl N rfl 113 E (0, 0) _ hNr Tryz.underlying113 rfl HI.out ?_)
   refine HM.out.mono ?_
   rintro r w6 ⟨rfl, b6⟩
   have hR6 : w6.heap[w.heap.size + 1]? = some (.cells spz 35 (0, 0)) := (b6.block _ (heap_lt HR'.out)).trans HR'.out
   have HB6 : Hid (Below w.heap.size w (w6.setRow (w.heap.size + 1) X)) := by
    have h1 := HB2.out.trans (HBr.out.mono HB2.out.size)
    exact below_setRow (h1.trans (b6.mono h1.size)) (by omega) X
   clear b6 hNr HM
   go_wp2_with (refine wpList_store_row rfl _ _ _ rfl (w.heap.size + 1) X rfl rfl 35 spz hR6 HXs.out (by rw [hXs]; rfl) hX1 ?_)
   refine bodyPost_ret (v := .agg X) ?_ rfl ⟨by rw [HX.out], HB6.out⟩
   exact results_cell_row rfl _ _ (w.heap.size + 1) 35 X (0, 0) _ rfl (setRow_heap _ _ _ _ _ _ hR6) Tryz.underlying35 rfl HXs.out
end Go.Proofs.YtoohanojfoichaaGreatDoor

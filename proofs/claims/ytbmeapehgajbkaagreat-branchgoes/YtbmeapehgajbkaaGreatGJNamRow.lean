import Derived.Test.YtbmeapehgajbkaaGreatGNamVal
import Derived.Deep.Strs
import Derived.ProofKit
import Derived.Lib.OthersKept
set_option linter.unusedVariables false
namespace Go.Proofs.YtbmeapehgajbkaaGreat
open Go.RowKit Go.Maps Go.ChangeShapes Go.WideShapes Go.ChangeAt
def gs (l : List ByteArray) (i : Nat) : ByteArray := l.getD i ⟨#[]⟩
theorem gs_lt (l : List ByteArray) (i : Nat) (h : i < l.length) : gs l i = l[i] := by simp [gs, h]
theorem gs_take (l : List ByteArray) (k i : Nat) (h : i < k) : gs (l.take k) i = gs l i := by simp [gs, h]
def nm (l : List ByteArray) : List (List UInt8) := l.map ByteArray.toList
theorem nm_length (l : List ByteArray) : (nm l).length = l.length := by simp [nm]
theorem nm_append (l m : List ByteArray) : nm (l ++ m) = nm l ++ nm m := by simp [nm]
theorem nm_drop (l : List ByteArray) (i : Nat) (h : i < l.length) : (nm l).drop i = (gs l i).toList :: (nm l).drop (i + 1) := by
 rw [List.drop_eq_getElem_cons (by rw [nm_length]; exact h), gs_lt l i h]
 simp [nm]
theorem nm_inj {l m : List ByteArray} (h : nm l = nm m) : l = m := List.map_inj_right (fun _ _ e => toList_inj e) |>.1 h
def Rs (w : World) (ao : Option Addr) (n : Nat) (l : List ByteArray) : Prop :=
 l.length = n ∧ (n = 0 ∨ ∃ b off, ao = some ⟨b, off, none⟩ ∧ b < w.heap.size ∧ ∀ i, i < l.length → w.cell? ⟨b, off + i, none⟩ = some (.string (gs l i)))
theorem Rs.below {w w' : World} {ao : Option Addr} {n : Nat} {l : List ByteArray} (h : Rs w ao n l) (hb : Below w.heap.size w w') : Rs w' ao n l := by
 refine ⟨h.1, ?_⟩
 rcases h.2 with h0 | ⟨b, off, h1, h2, h3⟩
 ·exact .inl h0
 ·exact .inr ⟨b, off, h1, Nat.lt_of_lt_of_le h2 hb.size, fun i hi => (hb.cell (by exact h2)).trans (h3 i hi)⟩
theorem Rs.drewN {w : World} {ao : Option Addr} {n : Nat} {l : List ByteArray} (h : Rs w ao n l) (k : Nat) : Rs (w.drewN k) ao n l := by
 refine ⟨h.1, ?_⟩
 rcases h.2 with h0 | ⟨b, off, h1, h2, h3⟩
 ·exact .inl h0
 ·exact .inr ⟨b, off, h1, h2, fun i hi => by rw [← h3 i hi]; simp⟩
theorem Rs.take {w : World} {ao : Option Addr} {n : Nat} {l : List ByteArray} (h : Rs w ao n l) (k : Nat) (hk : k ≤ n) : Rs w ao k (l.take k) := by
 obtain ⟨hz, h0⟩ := h
 refine ⟨by simp; omega, ?_⟩
 rcases h0 with h0 | ⟨b, off, h1, h2, h3⟩
 ·exact .inl (by omega)
 ·refine .inr ⟨b, off, h1, h2, fun i hi => ?_⟩
  simp at hi
  rw [gs_take _ _ _ (by omega)]
  exact h3 i (by omega)
theorem Rs.nil (w : World) (ao : Option Addr) : Rs w ao 0 [] := ⟨rfl, .inl rfl⟩
theorem Rs.at {w : World} {ao : Option Addr} {n : Nat} {l : List ByteArray} (h : Rs w ao n l) (hn : 0 < n) : ∃ b off, ao = some ⟨b, off, none⟩ ∧ b < w.heap.size ∧ ∀ i, i < n → w.cell? ⟨b, off + i, none⟩ = some (.string (gs l i)) := by
 rcases h.2 with h0 | ⟨b, off, h1, h2, h3⟩
 ·omega
 ·exact ⟨b, off, h1, h2, fun i hi => h3 i (by rw [h.1]; exact hi)⟩
end Go.Proofs.YtbmeapehgajbkaaGreat
namespace Go.Proofs.YtbmeapehgajbkaaGreat
open Nam
structure Nod where
 names : List ByteArray
 ino : Int
 kind : Int
 mode : Int
 uid : Int
 gid : Int
 data : List Int
 target : ByteArray
 xs : List (ByteArray × List Int)
 opq : Bool
namespace Tre
def alike (a b : Nod) : Bool := decide (a.kind = b.kind ∧ (a.mode = b.mode ∧ a.uid = b.uid ∧ a.gid = b.gid) ∧ a.target = b.target ∧ a.opq = b.opq ∧ a.data = b.data ∧ a.xs = b.xs)
theorem alike_iff (a b : Nod) : alike a b = true ↔ (a.kind = b.kind ∧ (a.mode = b.mode ∧ a.uid = b.uid ∧ a.gid = b.gid) ∧ a.target = b.target ∧ a.opq = b.opq ∧ a.data = b.data ∧ a.xs = b.xs) := by
 unfold alike; exact decide_eq_true_iff
theorem alike_symm {a b : Nod} (h : alike a b = true) : alike b a = true := by
 obtain ⟨h1, ⟨h2, h3, h4⟩, h5, h6, h7, h8⟩ := (alike_iff a b).1 h
 exact (alike_iff b a).2 ⟨h1.symm, ⟨h2.symm, h3.symm, h4.symm⟩, h5.symm, h6.symm, h7.symm, h8.symm⟩
theorem alike_trans {a b c : Nod} (h : alike a b = true) (k : alike b c = true) : alike a c = true := by
 obtain ⟨h1, ⟨h2, h3, h4⟩, h5, h6, h7, h8⟩ := (alike_iff a b).1 h
 obtain ⟨k1, ⟨k2, k3, k4⟩, k5, k6, k7, k8⟩ := (alike_iff b c).1 k
 exact (alike_iff a c).2 ⟨h1.trans k1, ⟨h2.trans k2, h3.trans k3, h4.trans k4⟩, h5.trans k5, h6.trans k6, h7.trans k7, h8.trans k8⟩
def txt (s : List UInt8) (m : Nat) : Bool := decide (s ≠ []) && decide (s.length ≤ m) && !s.any (· == 0)
def xs1 : List UInt8 → List (ByteArray × List Int) → Bool
 | _, [] => true
 | a, x :: r => Op.bytesLess a x.1.toList && txt x.1.toList 40 && decide (x.2.length ≤ 200) && xs1 x.1.toList r
def xsOk (xs : List (ByteArray × List Int)) : Bool := decide (xs.length ≤ 8) && xs1 [] xs
def kdOk (n : Nod) : Bool :=
 if n.kind = 1 then decide (n.data.length = 0) && n.target.toList.isEmpty
 else if n.kind = 2 then decide (n.data.length ≤ 4096) && n.target.toList.isEmpty
 else if n.kind = 3 then decide (n.data.length = 0) && txt n.target.toList 200
 else false
def attrOk (n : Nod) : Bool := decide ((0 ≤ n.mode ∧ n.mode ≤ 511) ∧ (0 ≤ n.uid ∧ n.uid ≤ 65535) ∧ 0 ≤ n.gid ∧ n.gid ≤ 65535)
def may (n : Nod) : Bool := kdOk n && attrOk n && xsOk n.xs && !n.opq
def fv : List ByteArray → Int
 | [] => 0
 | s :: r => if valid s.toList = 0 then fv r else valid s.toList
def wrong : List Nod → Int
 | [] => 0
 | n :: r => if fv n.names = 0 then wrong r else fv n.names
theorem fv_zero : ∀ (l : List ByteArray), fv l = 0 → ∀ s ∈ l, valid s.toList = 0
 | [], _, s, hs => by simp at hs
 | a :: r, h, s, hs => by
  unfold fv at h
  by_cases e : valid a.toList = 0
  ·rw [if_pos e] at h
   rcases List.mem_cons.1 hs with rfl | hs
   ·exact e
   ·exact fv_zero r h s hs
  ·rw [if_neg e] at h; exact absurd h e
theorem wrong_zero : ∀ (l : List Nod), wrong l = 0 → ∀ n ∈ l, fv n.names = 0
 | [], _, n, hn => by simp at hn
 | a :: r, h, n, hn => by
  unfold wrong at h
  by_cases e : fv a.names = 0
  ·rw [if_pos e] at h
   rcases List.mem_cons.1 hn with rfl | hn
   ·exact e
   ·exact wrong_zero r h n hn
  ·rw [if_neg e] at h; exact absurd h e
def deep (n : Nod) : Bool := decide (16 < n.names.length)
def isDir (l : List Nod) (m : List ByteArray) : Bool :=
 match l.find? (fun n => decide (n.names = m)) with
 | some n => decide (n.kind = 1)
 | none => false
def inDir (l : List Nod) (n : Nod) : Bool := decide (n.names.length = 0) || isDir l n.names.dropLast
abbrev one (a b : Nod) : Prop := a.ino = b.ino → b.kind ≠ 1 ∧ alike a b = true
def check (l : List Nod) : Int :=
 if 1024 < l.length then 3
 else if wrong l ≠ 0 then wrong l
 else if l.any deep = true then 9
 else if ¬ (l.map Nod.names).Nodup then 6
 else if isDir l [] = false then 4
 else if l.all (inDir l) = false then 5
 else if l.all may = false then 7
 else if ¬ l.Pairwise one then 8
 else 0
theorem check_big {l : List Nod} (h : 1024 < l.length) : check l = 3 := by rw [check, if_pos h]
theorem check_name {l : List Nod} (h : ¬ 1024 < l.length) (k : wrong l ≠ 0) : check l = wrong l := by rw [check, if_neg h, if_pos k]
theorem check_deep {l : List Nod} (h : ¬ 1024 < l.length) (k : wrong l = 0) (d : l.any deep = true) : check l = 9 := by
 rw [check, if_neg h, if_neg (by rw [k]; simp), if_pos d]
theorem check_twice {l : List Nod} (h : ¬ 1024 < l.length) (k : wrong l = 0) (d : l.any deep = false) (t : ¬ (l.map Nod.names).Nodup) : check l = 6 := by
 rw [check, if_neg h, if_neg (by rw [k]; simp), if_neg (by rw [d]; simp), if_pos t]
theorem check_root {l : List Nod} (h : ¬ 1024 < l.length) (k : wrong l = 0) (d : l.any deep = false) (t : (l.map Nod.names).Nodup) (r : isDir l [] = false) : check l = 4 := by
 rw [check, if_neg h, if_neg (by rw [k]; simp), if_neg (by rw [d]; simp), if_neg (by simpa using t), if_pos r]
theorem check_parent {l : List Nod} (h : ¬ 1024 < l.length) (k : wrong l = 0) (d : l.any deep = false) (t : (l.map Nod.names).Nodup) (r : isDir l [] = true) (p : l.all (inDir l) = false) : check l = 5 := by
 rw [check, if_neg h, if_neg (by rw [k]; simp), if_neg (by rw [d]; simp), if_neg (by simpa using t), if_neg (by rw [r]; simp), if_pos p]
theorem check_kind {l : List Nod} (h : ¬ 1024 < l.length) (k : wrong l = 0) (d : l.any deep = false) (t : (l.map Nod.names).Nodup) (r : isDir l [] = true) (p : l.all (inDir l) = true) (m : l.all may = false) : check l = 7 := by
 rw [check, if_neg h, if_neg (by rw [k]; simp), if_neg (by rw [d]; simp), if_neg (by simpa using t), if_neg (by rw [r]; simp), if_neg (by rw [p]; simp), if_pos m]
theorem check_links {l : List Nod} (h : ¬ 1024 < l.length) (k : wrong l = 0) (d : l.any deep = false) (t : (l.map Nod.names).Nodup) (r : isDir l [] = true) (p : l.all (inDir l) = true) (m : l.all may = true) (o : ¬ l.Pairwise one) : check l = 8 := by
 rw [check, if_neg h, if_neg (by rw [k]; simp), if_neg (by rw [d]; simp), if_neg (by simpa using t), if_neg (by rw [r]; simp), if_neg (by rw [p]; simp), if_neg (by rw [m]; simp), if_pos o]
theorem check_ok {l : List Nod} (h : ¬ 1024 < l.length) (k : wrong l = 0) (d : l.any deep = false) (t : (l.map Nod.names).Nodup) (r : isDir l [] = true) (p : l.all (inDir l) = true) (m : l.all may = true) (o : l.Pairwise one) : check l = 0 := by
 rw [check, if_neg h, if_neg (by rw [k]; simp), if_neg (by rw [d]; simp), if_neg (by simpa using t), if_neg (by rw [r]; simp), if_neg (by rw [p]; simp), if_neg (by rw [m]; simp), if_neg (by simpa using o)]
theorem check_zero {l : List Nod} (h : check l = 0) : l.length ≤ 1024 ∧ wrong l = 0 ∧ l.any deep = false ∧ (l.map Nod.names).Nodup ∧ isDir l [] = true ∧ l.all (inDir l) = true ∧ l.all may = true ∧ l.Pairwise one := by
 by_cases h1 : 1024 < l.length
 ·rw [check_big h1] at h; cases h
 by_cases h2 : wrong l = 0
 ·cases h3 : l.any deep with
  | true => rw [check_deep h1 h2 h3] at h; cases h
  | false =>
   by_cases h4 : (l.map Nod.names).Nodup
   ·cases h5 : isDir l [] with
    | false => rw [check_root h1 h2 h3 h4 h5] at h; cases h
    | true =>
     cases h6 : l.all (inDir l) with
     | false => rw [check_parent h1 h2 h3 h4 h5 h6] at h; cases h
     | true =>
      cases h7 : l.all may with
      | false => rw [check_kind h1 h2 h3 h4 h5 h6 h7] at h; cases h
      | true =>
       by_cases h8 : l.Pairwise one
       ·exact ⟨by omega, h2, rfl, h4, rfl, rfl, rfl, h8⟩
       ·rw [check_links h1 h2 h3 h4 h5 h6 h7 h8] at h; cases h
   ·rw [check_twice h1 h2 h3 h4] at h; cases h
 ·rw [check_name h1 h2] at h; exact absurd h h2
end Tre
end Go.Proofs.YtbmeapehgajbkaaGreat
namespace Go.Proofs.YtbmeapehgajbkaaGreat
open Nam Tre
namespace Mrg
def mayB (n : Nod) : Bool :=
 if n.kind = 4 then decide ((n.mode = 0 ∧ n.uid = 0 ∧ n.gid = 0) ∧ n.data.length = 0 ∧ n.target.toList = [] ∧ n.xs.length = 0 ∧ n.opq = false)
 else if n.kind = 1 then may { n with opq := false }
 else may n
abbrev oneB (a b : Nod) : Prop := a.ino = b.ino → (b.kind ≠ 1 ∧ b.kind ≠ 4) ∧ alike a b = true
def checkB (l : List Nod) : Int :=
 if 1024 < l.length then 3
 else if wrong l ≠ 0 then wrong l
 else if l.any deep = true then 9
 else if ¬ (l.map Nod.names).Nodup then 6
 else if isDir l [] = false then 4
 else if l.all (inDir l) = false then 5
 else if l.all mayB = false then 7
 else if ¬ l.Pairwise oneB then 8
 else 0
end Mrg
end Go.Proofs.YtbmeapehgajbkaaGreat
namespace Go.Proofs.YtbmeapehgajbkaaGreat
open Nam Tre Mrg
namespace Brn
def isW (n : Nod) : Bool := alike n ⟨[], 0, 4, 0, 0, 0, [], ⟨#[]⟩, [], false⟩
def stand (n : Nod) : Nod := if isW n = true then { n with kind := 2 } else if n.kind = 1 then { n with opq := false } else n
theorem isW_iff (n : Nod) : isW n = true ↔ n.kind = 4 ∧ (n.mode = 0 ∧ n.uid = 0 ∧ n.gid = 0) ∧ n.target = ⟨#[]⟩ ∧ n.opq = false ∧ n.data = [] ∧ n.xs = [] := alike_iff _ _
theorem stand_names (n : Nod) : (stand n).names = n.names := by
 unfold stand; split
 ·rfl
 ·split <;> rfl
theorem stand_ino (n : Nod) : (stand n).ino = n.ino := by
 unfold stand; split
 ·rfl
 ·split <;> rfl
theorem stand_dir (n : Nod) : (stand n).kind = 1 ↔ n.kind = 1 := by
 unfold stand; split
 ·rename_i h
  have := ((isW_iff n).1 h).1
  show (2 : Int) = 1 ↔ _
  rw [this]; decide
 ·split <;> rfl
theorem stand_id {n : Nod} (h1 : n.kind ≠ 1) (h4 : n.kind ≠ 4) : stand n = n := by
 unfold stand
 rw [if_neg (fun h => h4 ((isW_iff n).1 h).1), if_neg h1]
theorem toList_empty (s : ByteArray) : s.toList = [] ↔ s = ⟨#[]⟩ := by
 constructor
 ·intro h
  have : (⟨#[]⟩ : ByteArray).toList = [] := toList_mk []
  exact toList_inj (h.trans this.symm)
 ·rintro rfl; exact toList_mk []
theorem stand_may (n : Nod) : may (stand n) = mayB n := by
 unfold stand mayB
 by_cases h4 : n.kind = 4
 ·rw [if_pos h4]
  by_cases hw : isW n = true
  ·obtain ⟨_, ⟨h1, h2, h3⟩, h5, h6, h7, h8⟩ := (isW_iff n).1 hw
   rw [if_pos hw, decide_eq_true (by rw [h7, h8, h5, h6]; exact ⟨⟨h1, h2, h3⟩, rfl, toList_mk [], rfl, rfl⟩)]
   simp [may, kdOk, attrOk, xsOk, xs1, h1, h2, h3, h5, h6, h7, h8]
  ·rw [if_neg hw, if_neg (by rw [h4]; decide)]
   have e1 : may n = false := by
    unfold may kdOk
    rw [if_neg (by rw [h4]; decide), if_neg (by rw [h4]; decide), if_neg (by rw [h4]; decide)]; rfl
   rw [e1]
   refine (decide_eq_false (fun h => hw ((isW_iff n).2 ?_))).symm
   obtain ⟨h1, h2, h3, h5, h6⟩ := h
   exact ⟨h4, h1, (toList_empty _).1 h3, h6, List.eq_nil_of_length_eq_zero h2, List.eq_nil_of_length_eq_zero h5⟩
 ·rw [if_neg h4, if_neg (fun h => h4 ((isW_iff n).1 h).1)]
  by_cases h1 : n.kind = 1
  ·rw [if_pos h1, if_pos h1]
  ·rw [if_neg h1, if_neg h1]
def cnt (l : List Nod) (z : Int) : Nat := l.countP (fun n => decide (n.ino = z))
def sgl (l : List Nod) : Bool := l.all (fun n => !(decide (n.kind = 4) && decide (1 < cnt l n.ino)))
theorem cnt_two {l : List Nod} {z : Int} : 1 < cnt l z ↔ ∃ i j : Nat, i < j ∧ ∃ (hi : i < l.length) (hj : j < l.length), l[i].ino = z ∧ l[j].ino = z := by
 induction l with
 | nil => simp [cnt]
 | cons a r ih =>
  have e : cnt (a :: r) z = cnt r z + if a.ino = z then 1 else 0 := by
   unfold cnt; rw [List.countP_cons]; simp
  constructor
  ·intro h
   by_cases ha : a.ino = z
   ·rw [e, if_pos ha] at h
    have h0 : 0 < cnt r z := by omega
    obtain ⟨b, hb, hbz⟩ := List.countP_pos_iff.1 h0
    obtain ⟨j, hj, rfl⟩ := List.getElem_of_mem hb
    exact ⟨0, j + 1, by omega, by simp, by simp; omega, by simpa using ha, by simpa using hbz⟩
   ·rw [e, if_neg ha] at h
    obtain ⟨i, j, hij, hi, hj, h1, h2⟩ := ih.1 (by omega)
    exact ⟨i + 1, j + 1, by omega, by simp; omega, by simp; omega, by simpa using h1, by simpa using h2⟩
  ·rintro ⟨i, j, hij, hi, hj, h1, h2⟩
   obtain ⟨j', rfl⟩ : ∃ j', j = j' + 1 := ⟨j - 1, by omega⟩
   simp only [List.getElem_cons_succ] at h2
   simp only [List.length_cons] at hi hj
   match i, hi, h1 with
   | 0, _, h1 =>
    simp only [List.getElem_cons_zero] at h1
    rw [e, if_pos h1]
    have : 0 < cnt r z := List.countP_pos_iff.2 ⟨r[j']'(by omega), List.getElem_mem _, by simpa using h2⟩
    omega
   | i' + 1, hi, h1 =>
    simp only [List.getElem_cons_succ] at h1
    have := ih.2 ⟨i', j', by omega, by omega, by omega, h1, h2⟩
    rw [e]; omega
theorem one_pair (l : List Nod) : l.Pairwise oneB ↔ (l.map stand).Pairwise Tre.one ∧ sgl l = true := by
 rw [List.pairwise_map, List.pairwise_iff_getElem, List.pairwise_iff_getElem]
 constructor
 ·intro h
  refine ⟨fun i j hi hj hij e => ?_, ?_⟩
  ·rw [stand_ino, stand_ino] at e
   obtain ⟨⟨q1, q4⟩, q2⟩ := h i j hi hj hij e
   have hk := ((alike_iff _ _).1 q2).1
   rw [stand_id q1 q4, stand_id (by rw [hk]; exact q1) (by rw [hk]; exact q4)]
   exact ⟨q1, q2⟩
  ·unfold sgl
   rw [List.all_eq_true]
   intro n hn
   cases hk : decide (n.kind = 4) with
   | false => rfl
   | true =>
    have hk := of_decide_eq_true hk
    rw [Bool.true_and, Bool.not_eq_true', decide_eq_false_iff_not]
    intro h2
    obtain ⟨t, ht, rfl⟩ := List.getElem_of_mem hn
    obtain ⟨i, j, hij, hi, hj, e1, e2⟩ := cnt_two.1 h2
    rcases Nat.lt_trichotomy t j with q | q | q
    ·obtain ⟨⟨_, q4⟩, q2⟩ := h t j ht hj q e2.symm
     exact q4 (((alike_iff _ _).1 q2).1.symm.trans hk)
    ·subst q
     exact (h i t hi ht hij e1).1.2 hk
    ·exact (h j t hj ht q e2).1.2 hk
 ·rintro ⟨h1, h2⟩ i j hi hj hij e
  unfold sgl at h2
  rw [List.all_eq_true] at h2
  have hc : ∀ z : Int, l[i].ino = z → 1 < cnt l z := fun z hz => cnt_two.2 ⟨i, j, hij, hi, hj, hz, e ▸ hz⟩
  have n4 : ∀ k (hk : k < l.length), l[k].ino = l[i].ino → l[k].kind ≠ 4 := fun k hk ek e4 => by
   have := h2 l[k] (List.getElem_mem hk)
   rw [decide_eq_true e4, decide_eq_true (hc _ ek.symm)] at this
   exact absurd this (by decide)
  obtain ⟨q1, q2⟩ := h1 i j hi hj hij (by rw [stand_ino, stand_ino]; exact e)
  have j4 := n4 j hj e.symm
  have i4 := n4 i hi rfl
  have j1 : l[j].kind ≠ 1 := fun h => q1 ((stand_dir _).2 h)
  have hk := ((alike_iff _ _).1 q2).1
  have i1 : l[i].kind ≠ 1 := fun h => q1 (by rw [← hk]; exact (stand_dir _).2 h)
  rw [stand_id i1 i4, stand_id j1 j4] at q2
  exact ⟨⟨j1, j4⟩, q2⟩
theorem wrong_stand : ∀ l : List Nod, wrong (l.map stand) = wrong l
 | [] => rfl
 | a :: r => by rw [List.map_cons, wrong, wrong, stand_names, wrong_stand r]
theorem deep_stand (l : List Nod) : (l.map stand).any deep = l.any deep := by
 rw [List.any_map]; congr 1; funext n; simp [deep, stand_names]
theorem names_stand (l : List Nod) : (l.map stand).map Nod.names = l.map Nod.names := by
 rw [List.map_map]; congr 1; funext n; exact stand_names n
theorem find_stand (m : List ByteArray) : ∀ l : List Nod, (l.map stand).find? (fun n => decide (n.names = m)) = (l.find? (fun n => decide (n.names = m))).map stand
 | [] => rfl
 | a :: r => by
  rw [List.map_cons, List.find?_cons, List.find?_cons, stand_names]
  cases decide (a.names = m) with
  | true => rfl
  | false => exact find_stand m r
theorem isDir_stand (l : List Nod) (m : List ByteArray) : isDir (l.map stand) m = isDir l m := by
 unfold isDir
 rw [find_stand]
 cases l.find? (fun n => decide (n.names = m)) with
 | none => rfl
 | some n => exact decide_eq_decide.2 (stand_dir n)
theorem inDir_stand (l : List Nod) : (l.map stand).all (inDir (l.map stand)) = l.all (inDir l) := by
 rw [List.all_map]; congr 1; funext n
 simp only [Function.comp, inDir, stand_names, isDir_stand]
theorem may_stand (l : List Nod) : (l.map stand).all may = l.all mayB := by
 rw [List.all_map]; congr 1; funext n; exact stand_may n
theorem check_stand (l : List Nod) : checkB l = if check (l.map stand) ≠ 0 then check (l.map stand) else if sgl l = true then 0 else 8 := by
 by_cases hc : check (l.map stand) = 0
 ·rw [if_neg (by simpa using hc)]
  obtain ⟨h1, h2, h3, h4, h5, h6, h7, h8⟩ := check_zero hc
  rw [wrong_stand] at h2
  rw [deep_stand] at h3
  rw [names_stand] at h4
  rw [isDir_stand] at h5
  rw [inDir_stand] at h6
  rw [may_stand] at h7
  rw [List.length_map] at h1
  unfold checkB
  rw [if_neg (by omega), if_neg (by rw [h2]; simp), if_neg (by rw [h3]; simp), if_neg (by simpa using h4), if_neg (by rw [h5]; simp), if_neg (by rw [h6]; simp), if_neg (by rw [h7]; simp)]
  by_cases hp : l.Pairwise oneB
  ·rw [if_neg (by simpa using hp), if_pos ((one_pair l).1 hp).2]
  ·rw [if_pos hp, if_neg (fun hs => hp ((one_pair l).2 ⟨h8, hs⟩))]
 ·rw [if_pos hc]
  unfold check checkB
  rw [List.length_map, wrong_stand, deep_stand, names_stand, isDir_stand, inDir_stand, may_stand]
  unfold check at hc
  rw [List.length_map, wrong_stand, deep_stand, names_stand, isDir_stand, inDir_stand, may_stand] at hc
  split
  ·rfl
  rename_i g1
  rw [if_neg g1] at hc
  split
  ·rfl
  rename_i g2
  rw [if_neg g2] at hc
  split
  ·rfl
  rename_i g3
  rw [if_neg g3] at hc
  split
  ·rfl
  rename_i g4
  rw [if_neg g4] at hc
  split
  ·rfl
  rename_i g5
  rw [if_neg g5] at hc
  split
  ·rfl
  rename_i g6
  rw [if_neg g6] at hc
  split
  ·rfl
  rename_i g7
  rw [if_neg g7] at hc
  by_cases h8 : (l.map stand).Pairwise Tre.one
  ·rw [if_neg (by simpa using h8)] at hc; exact absurd rfl hc
  ·rw [if_pos h8, if_pos (fun h => h8 ((one_pair l).1 h).1)]
end Brn
end Go.Proofs.YtbmeapehgajbkaaGreat
namespace Go.Proofs.YtbmeapehgajbkaaGreat
open Go.RowKit Go.Maps
open Nam
theorem isNaN_any (s : ByteArray) (w : World) : Calls Tryz.prog 70 #[.string s] w fun e w' => e = .returned (.bool false) ∧ w' = w := by
 go_enter Tryz.func70, Tryz.ntmps70
 go_wp2
 go_ret
 exact ⟨rfl, rfl⟩
theorem cmp_any (s t : ByteArray) (w : World) : Calls Tryz.prog 40 #[.string s, .string t] w fun e w' => e = .returned (.int .i64 (cmp1 s.toList t.toList)) ∧ w' = w := by
 go_enter Tryz.func40, Tryz.ntmps40
 go_wp2_with (go_at_call 70; refine (isNaN_any _ _).mono ?_; rintro e w' ⟨rfl, rfl⟩)
 ·have h : Op.bytesLess s.toList t.toList = true := by assumption
  go_ret
  exact ⟨ret_int (by rw [cmp1, if_pos h]), rfl⟩
 ·have h : Op.bytesLess s.toList t.toList = false := by assumption
  have k : (!s.toList == t.toList) = true := by assumption
  go_ret
  refine ⟨ret_int ?_, rfl⟩
  rw [cmp1, if_neg (by rw [h]; simp), if_neg]
  simpa using k
 ·have h : Op.bytesLess s.toList t.toList = false := by assumption
  have k : (!s.toList == t.toList) = false := by assumption
  go_ret
  refine ⟨ret_int ?_, rfl⟩
  rw [cmp1, if_neg (by rw [h]; simp), if_pos]
  simpa using k
end Go.Proofs.YtbmeapehgajbkaaGreat
namespace Go.Proofs.YtbmeapehgajbkaaGreat
open Go.RowKit Go.Maps Go.ChangeShapes Go.WideShapes Go.ChangeAt
open Nam Tre
open Lz (g)
structure Nv where
 na : Option Addr
 nn : Nat
 nc : Nat
 ino : Int
 kind : Int
 mode : Int
 uid : Int
 gid : Int
 da : Option Addr
 dn : Nat
 dc : Nat
 tg : ByteArray
 xa : Option Addr
 xn : Nat
 xc : Nat
 op : Bool
def nv0 : Nv := ⟨none, 0, 0, 0, 0, 0, 0, 0, none, 0, 0, ⟨#[]⟩, none, 0, 0, false⟩
def nod0 : Nod := ⟨[], 0, 0, 0, 0, 0, [], ⟨#[]⟩, [], false⟩
def Nv.cells (v : Nv) : Array Value := #[.slice v.na v.nn v.nc, .int .i64 v.ino, .int .i64 v.kind, .int .i64 v.mode, .int .i64 v.uid, .int .i64 v.gid, .slice v.da v.dn v.dc, .string v.tg, .slice v.xa v.xn v.xc, .bool v.op]
def XatAt (w : World) (b o : Nat) (x : ByteArray × List Int) : Prop :=
 w.cell? ⟨b, o, none⟩ = some (.string x.1) ∧ ∃ va vn vc, w.cell? ⟨b, o + 1, none⟩ = some (.slice va vn vc) ∧ Bs w va vn x.2 ∧ vn ≤ vc ∧ vc ≤ 9223372036854775807 ∧ (va = none → vc = 0) ∧ x.1.size ≤ 9223372036854775807
def gx (xs : List (ByteArray × List Int)) (i : Nat) : ByteArray × List Int := xs.getD i (⟨#[]⟩, [])
theorem gx_lt (xs : List (ByteArray × List Int)) (i : Nat) (h : i < xs.length) : gx xs i = xs[i] := by simp [gx, h]
def XsR (w : World) (ao : Option Addr) (n : Nat) (xs : List (ByteArray × List Int)) : Prop :=
 xs.length = n ∧ (n = 0 ∨ ∃ b off, ao = some ⟨b, off, none⟩ ∧ b < w.heap.size ∧ ∀ i, i < n → XatAt w b (off + i * 2) (gx xs i))
structure Rep (w : World) (v : Nv) (n : Nod) : Prop where
 names : Rs w v.na v.nn n.names
 nc : v.nn ≤ v.nc
 ncm : v.nc ≤ 9223372036854775807
 nnil : v.na = none → v.nc = 0
 ino : n.ino = v.ino
 in64 : (Lit.int .i64 v.ino).wf = true
 kind : n.kind = v.kind
 mode : n.mode = v.mode
 uid : n.uid = v.uid
 gid : n.gid = v.gid
 data : Bs w v.da v.dn n.data
 dc : v.dn ≤ v.dc
 dcm : v.dc ≤ 9223372036854775807
 dnil : v.da = none → v.dc = 0
 tg : n.target = v.tg
 tgm : v.tg.size ≤ 9223372036854775807
 xs : XsR w v.xa v.xn n.xs
 xc : v.xn ≤ v.xc
 xcm : v.xc ≤ 9223372036854775807
 xnil : v.xa = none → v.xc = 0
 op : n.opq = v.op
theorem XatAt.below {w w' : World} {b o : Nat} {x : ByteArray × List Int} (h : XatAt w b o x) (hb : Below w.heap.size w w') (hlt : b < w.heap.size) : XatAt w' b o x := by
 obtain ⟨h1, va, vn, vc, h2, h3, h4⟩ := h
 exact ⟨(hb.cell (by exact hlt)).trans h1, va, vn, vc, (hb.cell (by exact hlt)).trans h2, h3.below hb, h4⟩
theorem XsR.below {w w' : World} {ao : Option Addr} {n : Nat} {xs : List (ByteArray × List Int)} (h : XsR w ao n xs) (hb : Below w.heap.size w w') : XsR w' ao n xs := by
 refine ⟨h.1, ?_⟩
 rcases h.2 with h0 | ⟨b, off, h1, h2, h3⟩
 ·exact .inl h0
 ·exact .inr ⟨b, off, h1, Nat.lt_of_lt_of_le h2 hb.size, fun i hi => (h3 i hi).below hb h2⟩
theorem XsR.at {w : World} {ao : Option Addr} {n : Nat} {xs : List (ByteArray × List Int)} (h : XsR w ao n xs) (hn : 0 < n) : ∃ b off, ao = some ⟨b, off, none⟩ ∧ b < w.heap.size ∧ ∀ i, i < n → XatAt w b (off + i * 2) (gx xs i) := by
 rcases h.2 with h0 | h1
 ·omega
 ·exact h1
theorem XsR.nil (w : World) (ao : Option Addr) : XsR w ao 0 [] := ⟨rfl, .inl rfl⟩
theorem XsR.take {w : World} {ao : Option Addr} {n : Nat} {xs : List (ByteArray × List Int)} (h : XsR w ao n xs) (k : Nat) (hk : k ≤ n) : XsR w ao k (xs.take k) := by
 obtain ⟨hz, h0⟩ := h
 refine ⟨by simp; omega, ?_⟩
 by_cases e : k = 0
 ·exact .inl e
 ·rcases h0 with h0 | ⟨b, off, h1, h2, h3⟩
  ·omega
  ·refine .inr ⟨b, off, h1, h2, fun i hi => ?_⟩
   have : gx (xs.take k) i = gx xs i := by simp [gx, hi]
   rw [this]; exact h3 i (by omega)
theorem Rep.below {w w' : World} {v : Nv} {n : Nod} (h : Rep w v n) (hb : Below w.heap.size w w') : Rep w' v n :=
 { h with names := h.names.below hb, data := h.data.below hb, xs := h.xs.below hb }
structure NodAt (w : World) (b o : Nat) (v : Nv) : Prop where
 c0 : w.cell? ⟨b, o, none⟩ = some (.slice v.na v.nn v.nc)
 c1 : w.cell? ⟨b, o + 1, none⟩ = some (.int .i64 v.ino)
 c2 : w.cell? ⟨b, o + 2, none⟩ = some (.int .i64 v.kind)
 c3 : w.cell? ⟨b, o + 3, none⟩ = some (.int .i64 v.mode)
 c4 : w.cell? ⟨b, o + 4, none⟩ = some (.int .i64 v.uid)
 c5 : w.cell? ⟨b, o + 5, none⟩ = some (.int .i64 v.gid)
 c6 : w.cell? ⟨b, o + 6, none⟩ = some (.slice v.da v.dn v.dc)
 c7 : w.cell? ⟨b, o + 7, none⟩ = some (.string v.tg)
 c8 : w.cell? ⟨b, o + 8, none⟩ = some (.slice v.xa v.xn v.xc)
 c9 : w.cell? ⟨b, o + 9, none⟩ = some (.bool v.op)
theorem NodAt.same {w w' : World} {b o : Nat} {v : Nv} (h : NodAt w b o v) (hc : ∀ k, w'.cell? ⟨b, k, none⟩ = w.cell? ⟨b, k, none⟩) : NodAt w' b o v :=
 ⟨(hc _).trans h.c0, (hc _).trans h.c1, (hc _).trans h.c2, (hc _).trans h.c3, (hc _).trans h.c4, (hc _).trans h.c5, (hc _).trans h.c6, (hc _).trans h.c7, (hc _).trans h.c8, (hc _).trans h.c9⟩
theorem NodAt.below {w w' : World} {B b o : Nat} {v : Nv} (h : NodAt w b o v) (hb : Below B w w') (hlt : b < B) : NodAt w' b o v :=
 h.same (fun k => hb.cell (by exact hlt))
structure Boxed (w : World) (b : Nat) (v : Nv) : Prop where
 lt : b < w.heap.size
 c0 : w.cell? ⟨b, 0, none⟩ = some (.slice v.na v.nn v.nc)
 c1 : w.cell? ⟨b, 1, none⟩ = some (.int .i64 v.ino)
 c2 : w.cell? ⟨b, 2, none⟩ = some (.int .i64 v.kind)
 c3 : w.cell? ⟨b, 3, none⟩ = some (.int .i64 v.mode)
 c4 : w.cell? ⟨b, 4, none⟩ = some (.int .i64 v.uid)
 c5 : w.cell? ⟨b, 5, none⟩ = some (.int .i64 v.gid)
 c6 : w.cell? ⟨b, 6, none⟩ = some (.slice v.da v.dn v.dc)
 c7 : w.cell? ⟨b, 7, none⟩ = some (.string v.tg)
 c8 : w.cell? ⟨b, 8, none⟩ = some (.slice v.xa v.xn v.xc)
 c9 : w.cell? ⟨b, 9, none⟩ = some (.bool v.op)
theorem boxed (w : World) (v : Nv) : Boxed (w.alloc (.cells v.cells 44)) w.heap.size v := by
 constructor <;> simp [Nv.cells]
theorem Boxed.same {w w' : World} {b : Nat} {v : Nv} (h : Boxed w b v) (hs : w.heap.size ≤ w'.heap.size) (hc : ∀ k, w'.cell? ⟨b, k, none⟩ = w.cell? ⟨b, k, none⟩) : Boxed w' b v :=
 ⟨Nat.lt_of_lt_of_le h.lt hs, (hc _).trans h.c0, (hc _).trans h.c1, (hc _).trans h.c2, (hc _).trans h.c3, (hc _).trans h.c4, (hc _).trans h.c5, (hc _).trans h.c6, (hc _).trans h.c7, (hc _).trans h.c8, (hc _).trans h.c9⟩
theorem Boxed.below {w w' : World} {b : Nat} {v : Nv} (h : Boxed w b v) (hb : Below w.heap.size w w') : Boxed w' b v := h.same hb.size (fun k => hb.cell (by exact h.lt))
def gl (L : List (Nv × Nod)) (i : Nat) : Nv × Nod := L.getD i (nv0, nod0)
theorem gl_lt (L : List (Nv × Nod)) (i : Nat) (h : i < L.length) : gl L i = L[i] := by simp [gl, h]
theorem gl_mem (L : List (Nv × Nod)) (i : Nat) (h : i < L.length) : gl L i ∈ L := by rw [gl_lt L i h]; exact List.getElem_mem h
def nds (L : List (Nv × Nod)) : List Nod := L.map (·.2)
theorem nds_length (L : List (Nv × Nod)) : (nds L).length = L.length := by simp [nds]
theorem nds_drop (L : List (Nv × Nod)) (i : Nat) (h : i < L.length) : (nds L).drop i = (gl L i).2 :: (nds L).drop (i + 1) := by
 rw [List.drop_eq_getElem_cons (by rw [nds_length]; exact h), gl_lt L i h]
 simp [nds]
theorem nds_take (L : List (Nv × Nod)) (i : Nat) (h : i < L.length) : (nds L).take (i + 1) = (nds L).take i ++ [(gl L i).2] := by
 rw [List.take_succ_eq_append_getElem (by rw [nds_length]; exact h), gl_lt L i h]
 simp [nds]
def Ns (w : World) (ao : Option Addr) (n : Nat) (L : List (Nv × Nod)) : Prop :=
 L.length = n ∧ (∀ p ∈ L, Rep w p.1 p.2) ∧ (n = 0 ∨ ∃ b off, ao = some ⟨b, off, none⟩ ∧ b < w.heap.size ∧ ∀ i, i < n → NodAt w b (off + i * 10) (gl L i).1)
theorem Ns.below {w w' : World} {ao : Option Addr} {n : Nat} {L : List (Nv × Nod)} (h : Ns w ao n L) (hb : Below w.heap.size w w') : Ns w' ao n L := by
 refine ⟨h.1, fun p hp => (h.2.1 p hp).below hb, ?_⟩
 rcases h.2.2 with h0 | ⟨b, off, h1, h2, h3⟩
 ·exact .inl h0
 ·exact .inr ⟨b, off, h1, Nat.lt_of_lt_of_le h2 hb.size, fun i hi => (h3 i hi).below hb h2⟩
theorem Ns.at {w : World} {ao : Option Addr} {n : Nat} {L : List (Nv × Nod)} (h : Ns w ao n L) (hn : 0 < n) : ∃ b off, ao = some ⟨b, off, none⟩ ∧ b < w.heap.size ∧ ∀ i, i < n → NodAt w b (off + i * 10) (gl L i).1 := by
 rcases h.2.2 with h0 | h1
 ·omega
 ·exact h1
theorem Ns.rep {w : World} {ao : Option Addr} {n : Nat} {L : List (Nv × Nod)} (h : Ns w ao n L) (i : Nat) (hi : i < n) : Rep w (gl L i).1 (gl L i).2 :=
 h.2.1 _ (gl_mem L i (by rw [h.1]; exact hi))
theorem Ns.nil (w : World) (ao : Option Addr) : Ns w ao 0 [] := ⟨rfl, fun p hp => by simp at hp, .inl rfl⟩
theorem drewN_below {B : Nat} (w : World) (k : Nat) : Below B w (w.drewN k) := ⟨rfl, rfl, rfl, Nat.le_refl _, fun _ _ => rfl⟩
end Go.Proofs.YtbmeapehgajbkaaGreat
namespace Go.Proofs.YtbmeapehgajbkaaGreat
open Go.RowKit Go.Maps
open Nam Tre
namespace Tre
def mlast (ks : List Lit) : Nat → Lit → Option Nat
 | 0 => fun _ => none
 | i + 1 => upd (mlast ks i) (ks.getD i (.bool false)) i
def mcnt (ks : List Lit) : Nat → Nat
 | 0 => 0
 | i + 1 => if (mlast ks i (ks.getD i (.bool false))).isSome = true then mcnt ks i else mcnt ks i + 1
theorem mlast_some {ks : List Lit} (hk : ∀ k ∈ ks, WideAt.IsKeyLit k) : ∀ (i : Nat), i ≤ ks.length → ∀ k j, mlast ks i k = some j → j < i ∧ ks[j]? = some k
 | 0, _, k, j, h => by cases h
 | i + 1, hi, k, j, h => by
  have hg : ks.getD i (.bool false) = ks[i] := by simp [show i < ks.length by omega]
  by_cases e : k = ks.getD i (.bool false)
  ·rw [mlast, e, upd_same _ _ _ (by rw [hg]; exact hk _ (List.getElem_mem _))] at h
   cases h
   exact ⟨by omega, by rw [e, hg, List.getElem?_eq_getElem]⟩
  ·rw [mlast, upd_other _ _ e] at h
   obtain ⟨h1, h2⟩ := mlast_some hk i (by omega) k j h
   exact ⟨by omega, h2⟩
theorem mlast_mem {ks : List Lit} (hk : ∀ k ∈ ks, WideAt.IsKeyLit k) : ∀ (i : Nat), i ≤ ks.length → ∀ k, (mlast ks i k).isSome = true ↔ k ∈ ks.take i
 | 0, _, k => by simp [mlast]
 | i + 1, hi, k => by
  have hi' : i < ks.length := by omega
  have hg : ks.getD i (.bool false) = ks[i] := by simp [hi']
  rw [List.take_succ_eq_append_getElem hi', List.mem_append, List.mem_singleton]
  by_cases e : k = ks[i]
  ·rw [mlast, hg, e, upd_same _ _ _ (hk _ (List.getElem_mem _))]
   simp
  ·rw [mlast, hg, upd_other _ _ e, mlast_mem hk i (by omega) k]
   simp [e]
theorem mcnt_le {ks : List Lit} : ∀ (i : Nat), mcnt ks i ≤ i
 | 0 => Nat.le_refl _
 | i + 1 => by
  have := mcnt_le (ks := ks) i
  rw [mcnt]; split <;> omega
theorem mcnt_nodup {ks : List Lit} (hk : ∀ k ∈ ks, WideAt.IsKeyLit k) : ∀ (i : Nat), i ≤ ks.length → (mcnt ks i = i ↔ (ks.take i).Nodup)
 | 0, _ => by simp [mcnt]
 | i + 1, hi => by
  have hi' : i < ks.length := by omega
  have hg : ks.getD i (.bool false) = ks[i] := by simp [hi']
  have hm := mlast_mem hk i (by omega) ks[i]
  have ih := mcnt_nodup hk i (by omega)
  have hle := mcnt_le (ks := ks) i
  rw [mcnt, hg, List.take_succ_eq_append_getElem hi', List.nodup_append]
  by_cases e : (mlast ks i ks[i]).isSome = true
  ·rw [if_pos e]
   constructor
   ·intro h; omega
   ·intro h; exact absurd rfl (h.2.2 _ (hm.1 e) _ (List.mem_singleton.2 rfl))
  ·rw [if_neg e]
   constructor
   ·intro h
    refine ⟨ih.1 (by omega), by simp, fun a ha b hb => ?_⟩
    rw [List.mem_singleton] at hb
    intro eq
    rw [eq, hb] at ha
    exact e (hm.2 ha)
   ·intro h
    have := ih.2 h.1
    omega
end Tre
end Go.Proofs.YtbmeapehgajbkaaGreat
namespace Go.Proofs.YtbmeapehgajbkaaGreat
open Go.RowKit Go.Maps
open Nam Tre
def nvs (V : List Nv) : List Value := V.flatMap (fun v => v.cells.toList)
theorem nvs_append (V U : List Nv) : nvs (V ++ U) = nvs V ++ nvs U := by simp [nvs]
theorem cells_length (v : Nv) : v.cells.toList.length = 10 := rfl
theorem nvs_length (V : List Nv) : (nvs V).length = V.length * 10 := by
 induction V with
 | nil => rfl
 | cons v r ih =>
  have : nvs (v :: r) = v.cells.toList ++ nvs r := by simp [nvs]
  rw [this, List.length_append, cells_length, ih, List.length_cons]; omega
theorem nvs_get (V : List Nv) (i c : Nat) (h : i < V.length) (hc : c < 10) : (nvs V)[i * 10 + c]? = (V[i].cells.toList)[c]? := by
 induction V generalizing i with
 | nil => simp at h
 | cons v r ih =>
  have e : nvs (v :: r) = v.cells.toList ++ nvs r := by simp [nvs]
  rw [e]
  cases i with
  | zero => rw [Nat.zero_mul, Nat.zero_add, List.getElem?_append_left (by rw [cells_length]; exact hc)]; rfl
  | succ i =>
   rw [List.getElem?_append_right (by rw [cells_length]; omega), cells_length, show (i + 1) * 10 + c - 10 = i * 10 + c by omega, ih i (by simpa using h)]
   rfl
def gv (V : List Nv) (i : Nat) : Nv := V.getD i nv0
theorem gv_lt (V : List Nv) (i : Nat) (h : i < V.length) : gv V i = V[i] := by simp [gv, h]
def Sh (w : World) (ao : Option Addr) (n : Nat) (V : List Nv) : Prop :=
 V.length = n ∧ (n = 0 ∨ ∃ b off, ao = some ⟨b, off, none⟩ ∧ b < w.heap.size ∧ ∀ i, i < n → NodAt w b (off + i * 10) (gv V i))
theorem gv_map (L : List (Nv × Nod)) (i : Nat) (h : i < L.length) : gv (L.map (·.1)) i = (gl L i).1 := by
 rw [gv_lt _ _ (by simpa using h), gl_lt L i h]; simp
theorem Ns.sh {w : World} {ao : Option Addr} {n : Nat} {L : List (Nv × Nod)} (h : Ns w ao n L) : Sh w ao n (L.map (·.1)) := by
 refine ⟨by rw [List.length_map]; exact h.1, ?_⟩
 rcases h.2.2 with h0 | ⟨b, off, h1, h2, h3⟩
 ·exact .inl h0
 ·exact .inr ⟨b, off, h1, h2, fun i hi => by rw [gv_map L i (by rw [h.1]; exact hi)]; exact h3 i hi⟩
theorem Sh.ns {w : World} {ao : Option Addr} {n : Nat} {L : List (Nv × Nod)} (h : Sh w ao n (L.map (·.1))) (hr : ∀ p ∈ L, Rep w p.1 p.2) : Ns w ao n L := by
 have hl : L.length = n := by have := h.1; rw [List.length_map] at this; exact this
 refine ⟨hl, hr, ?_⟩
 rcases h.2 with h0 | ⟨b, off, h1, h2, h3⟩
 ·exact .inl h0
 ·exact .inr ⟨b, off, h1, h2, fun i hi => by rw [← gv_map L i (by rw [hl]; exact hi)]; exact h3 i hi⟩
theorem Sh.below {w w' : World} {ao : Option Addr} {n : Nat} {V : List Nv} (h : Sh w ao n V) (hb : Below w.heap.size w w') : Sh w' ao n V := by
 refine ⟨h.1, ?_⟩
 rcases h.2 with h0 | ⟨b, off, h1, h2, h3⟩
 ·exact .inl h0
 ·exact .inr ⟨b, off, h1, Nat.lt_of_lt_of_le h2 hb.size, fun i hi => (h3 i hi).below hb h2⟩
theorem Sh.at {w : World} {ao : Option Addr} {n : Nat} {V : List Nv} (h : Sh w ao n V) (hn : 0 < n) : ∃ b off, ao = some ⟨b, off, none⟩ ∧ b < w.heap.size ∧ ∀ i, i < n → NodAt w b (off + i * 10) (gv V i) := by
 rcases h.2 with h0 | h1
 ·omega
 ·exact h1
theorem NodAt.of {w : World} {b o : Nat} {v : Nv} (h : ∀ c, c < 10 → w.cell? ⟨b, o + c, none⟩ = (v.cells.toList)[c]?) : NodAt w b o v :=
 ⟨h 0 (by omega), h 1 (by omega), h 2 (by omega), h 3 (by omega), h 4 (by omega), h 5 (by omega), h 6 (by omega), h 7 (by omega), h 8 (by omega), h 9 (by omega)⟩
theorem NodAt.cell {w : World} {b o : Nat} {v : Nv} (h : NodAt w b o v) (c : Nat) (hc : c < 10) : w.cell? ⟨b, o + c, none⟩ = (v.cells.toList)[c]? := by
 match c, hc with
 | 0, _ => exact h.c0
 | 1, _ => exact h.c1
 | 2, _ => exact h.c2
 | 3, _ => exact h.c3
 | 4, _ => exact h.c4
 | 5, _ => exact h.c5
 | 6, _ => exact h.c6
 | 7, _ => exact h.c7
 | 8, _ => exact h.c8
 | 9, _ => exact h.c9
theorem sh_of_owns {w : World} {B n c : Nat} {ao : Option Addr} {V : List Nv} (h : w.ownsRow B 44 10 (.slice ao n c) n (nvs V)) : Sh w ao n V := by
 have hlen : V.length = n := by have := h.1; rw [nvs_length] at this; omega
 refine ⟨hlen, ?_⟩
 by_cases e : n = 0
 ·exact .inl e
 ·obtain ⟨gb, c', hv, _, hlt⟩ := h.form (by omega)
  obtain ⟨rfl, _, rfl⟩ : ao = some ⟨gb, 0, none⟩ ∧ n = n ∧ c = c' := by simpa using hv
  refine .inr ⟨gb, 0, rfl, hlt, fun i hi => NodAt.of fun k hk => ?_⟩
  rw [Nat.zero_add, h.cellAt _ (by omega), nvs_get V i k (by omega) hk, gv_lt V i (by omega)]
theorem cap_owns {w : World} {B n c size e : Nat} {ao : Option Addr} {xs : List Value} (h : w.ownsRow B e size (.slice ao n c) n xs) : n ≤ c ∧ c ≤ 9223372036854775807 ∧ (ao = none → c = 0) := by
 rcases h.2 with ⟨e, _⟩ | ⟨_, _, _, e, _, _, h1, h2, _⟩
 ·simp at e; obtain ⟨rfl, rfl, rfl⟩ := e; exact ⟨by omega, by omega, fun _ => rfl⟩
 ·simp at e; obtain ⟨rfl, rfl⟩ := e; unfold maxLen at h2; exact ⟨by omega, by omega, fun k => by simp at k⟩
theorem infoNode : (Tryz.prog.info? 44).map (fun i => (i.zero, i.size, i.bytes)) = some (some (.agg (Nv.cells nv0)), 10, 136) := by kernel_rfl
theorem emptyN {w : World} {B : Nat} (hB : B ≤ w.heap.size) : (w.alloc (.cells #[] 44)).ownsRow B 44 10 (.slice (some ⟨w.heap.size, 0, none⟩) 0 0) 0 (nvs []) :=
 ⟨rfl, .inr ⟨w.heap.size, 0, #[], rfl, hB, heap_alloc_new w _, Nat.le_refl _, by unfold maxLen; omega, rfl, rfl⟩⟩
theorem nilN (w : World) (B : Nat) : w.ownsRow B 44 10 (.slice none 0 0) 0 (nvs []) := ⟨rfl, .inl ⟨rfl, rfl⟩⟩
theorem nvs_one (V : List Nv) : ∀ u ∈ nvs V, u.oneCell' = true := by
 intro u hu
 simp only [nvs, List.mem_flatMap] at hu
 obtain ⟨v, _, hv⟩ := hu
 simp only [Nv.cells, List.mem_cons, List.not_mem_nil, or_false] at hv
 rcases hv with h | h | h | h | h | h | h | h | h | h <;> (rw [h]; rfl)
theorem wpList_append_nod (w : World) {ops : Array Oper} {rest : List Oper} {o : Oper} {a : Act} {Q : Exit → Act → World → Prop} (hgd : o.guard = none) (s x : Operand)
  (ho : o.op = .call { callee := .builtin .append, args := #[s, x], argTypes := #[22, 22] })
  (base : Nat) (vo : Option Addr) (n vc : Nat) (V : List Nv) (hs : a.eval s = .slice vo n vc) (hown : w.ownsRow base 44 10 (.slice vo n vc) n (nvs V))
  (ao : Option Addr) (m c : Nat) (U : List Nv) (hx : a.eval x = .slice ao m c) (hb : Sh w ao m U) (hnil : ao = none → c = 0)
  (hbd : n + m ≤ 1000000) (hbase : base ≤ w.heap.size)
  (h : ∀ ao' c' w', w'.ownsRow base 44 10 (.slice ao' (n + m) c') (n + m) (nvs (V ++ U)) → w.grownBy w' (Value.slice vo n vc).ownBlock → wpList Tryz.prog ops Q rest (a.put o.dst (.slice ao' (n + m) c')) w') :
  wpList Tryz.prog ops Q (o :: rest) a w := by
 obtain ⟨i0, hi, hz0, hz1, hz2⟩ := info_parts infoNode
 obtain ⟨hz, h0⟩ := hb
 cases ao with
 | none =>
  obtain rfl : c = 0 := hnil rfl
  obtain rfl : m = 0 := by
   rcases h0 with h0 | ⟨b, off, h1, _⟩
   ·exact h0
   ·simp at h1
  obtain rfl : U = [] := List.eq_nil_of_length_eq_zero hz
  refine wpList_append_own_none hgd s x _ ho base 44 i0 10 Tryz.underlying22 hi _ n (nvs V) hs hown hx ?_
  have := h vo vc w (by simpa using hown) (World.grownBy.refl _ _)
  simpa using this
 | some ad =>
  refine wpList_append_own w hgd s x _ ho base 44 i0 (.agg (Nv.cells nv0)) 10 136 Tryz.underlying22 hi hz0 hz1 hz2 rfl (by decide) _ n (nvs V) hs hown ad m c (nvs U) hx (by rw [nvs_length]; omega) ?_ (nvs_one _) (by unfold maxLen; omega) (by omega) hbase ?_
  ·rcases h0 with h0 | ⟨b, off, h1, _, hseg⟩
   ·have : U = [] := List.eq_nil_of_length_eq_zero (by omega)
    subst this
    intro j u hu; simp [nvs] at hu
   ·obtain rfl := Option.some.inj h1
    intro j u hu
    have hj : j < (nvs U).length := (List.getElem?_eq_some_iff.1 hu).1
    rw [nvs_length, hz] at hj
    have e : j = j / 10 * 10 + j % 10 := by omega
    have hq : j / 10 < m := by omega
    have hr : j % 10 < 10 := by omega
    rw [e, nvs_get U _ _ (by omega) hr] at hu
    rw [Addr.add_lit]
    have := (hseg (j / 10) hq).cell (j % 10) hr
    rw [gv_lt U _ (by omega)] at this
    rw [show off + j = off + j / 10 * 10 + j % 10 by omega, this]
    exact hu
  ·intro v' w' h2 h3 _
   obtain ⟨ao', c', rfl⟩ := owns_shape h2
   exact h ao' c' w' (by rw [nvs_append]; exact h2) h3
theorem sh_one (w : World) (v : Nv) : Sh (w.alloc (.cells v.cells 44)) (some ⟨w.heap.size, 0, none⟩) 1 [v] := by
 refine ⟨rfl, .inr ⟨w.heap.size, 0, rfl, by simp, fun i hi => ?_⟩⟩
 obtain rfl : i = 0 := by omega
 obtain ⟨_, b0, b1, b2, b3, b4, b5, b6, b7, b8, b9⟩ := boxed w v
 exact ⟨b0, b1, b2, b3, b4, b5, b6, b7, b8, b9⟩
def cells2 (v u : Nv) : Array Value := #[.slice v.na v.nn v.nc, .int .i64 v.ino, .int .i64 v.kind, .int .i64 v.mode, .int .i64 v.uid, .int .i64 v.gid, .slice v.da v.dn v.dc, .string v.tg, .slice v.xa v.xn v.xc, .bool v.op, .slice u.na u.nn u.nc, .int .i64 u.ino, .int .i64 u.kind, .int .i64 u.mode, .int .i64 u.uid, .int .i64 u.gid, .slice u.da u.dn u.dc, .string u.tg, .slice u.xa u.xn u.xc, .bool u.op]
theorem sh_two (w : World) (v u : Nv) : Sh (w.alloc (.cells (cells2 v u) 44)) (some ⟨w.heap.size, 0, none⟩) 2 [v, u] := by
 refine ⟨rfl, .inr ⟨w.heap.size, 0, rfl, by simp, fun i hi => ?_⟩⟩
 match i, hi with
 | 0, _ => constructor <;> simp [cells2, gv]
 | 1, _ => constructor <;> simp [cells2, gv]
theorem sh_one' {w : World} {v : Nv} {p : Nat} (hp : p = w.heap.size) : Sh (w.alloc (.cells v.cells 44)) (some ⟨p, 0, none⟩) 1 [v] := by
 subst hp; exact sh_one w v
theorem sh_two' {w : World} {v u : Nv} {p : Nat} (hp : p = w.heap.size) : Sh (w.alloc (.cells (cells2 v u) 44)) (some ⟨p, 0, none⟩) 2 [v, u] := by
 subst hp; exact sh_two w v u
end Go.Proofs.YtbmeapehgajbkaaGreat
namespace Go.Proofs.YtbmeapehgajbkaaGreat
open Nam Tre
namespace Upr
structure En where
 dir : Int
 nam : ByteArray
 ref : Int
structure Us where
 L : List Nod
 E : List En
 nx : Int
def nd (u : Us) (r : Int) : Option Nod := u.L.find? (fun n => decide (n.ino = r))
def en (u : Us) (d : Int) (s : ByteArray) : Option En := u.E.find? (fun e => decide (e.dir = d ∧ e.nam = s))
def cnt (u : Us) (r : Int) : Nat := u.E.countP (fun e => decide (e.ref = r))
def lks (u : Us) (r : Int) : Nat := if r = 1 then 1 else cnt u r
def kin (u : Us) (d : Int) : Nat := u.E.countP (fun e => decide (e.dir = d))
def knd (u : Us) (r : Int) : Int := ((nd u r).map Nod.kind).getD 0
def dirE (u : Us) (r : Int) : Int := match nd u r with
 | none => 1
 | some n => if n.kind = 1 then 0 else 24
def frs (u : Us) (d : Int) (s : ByteArray) : Int :=
 if dirE u d ≠ 0 then dirE u d
 else if valid s.toList ≠ 0 then valid s.toList
 else if (en u d s).isSome = true then 21
 else 0
def mayU (n : Nod) : Bool :=
 if n.kind = 4 then decide ((n.mode = 0 ∧ n.uid = 0 ∧ n.gid = 0) ∧ n.data.length = 0 ∧ n.target.toList = [] ∧ n.xs.length = 0)
 else may { n with opq := false }
def mk (u : Us) (d : Int) (s : ByteArray) (n : Nod) : (Int × Int) × Us :=
 if frs u d s ≠ 0 then ((0, frs u d s), u)
 else if mayU n = false then ((0, 1), u)
 else ((u.nx, 0), ⟨u.L ++ [{ n with names := [], opq := false, ino := u.nx }], u.E ++ [⟨d, s, u.nx⟩], u.nx + 1⟩)
def ln (u : Us) (d : Int) (s : ByteArray) (r : Int) : Int × Us :=
 if nd u d = none ∨ nd u r = none then (1, u)
 else if frs u d s ≠ 0 then (frs u d s, u)
 else if knd u r = 1 then (25, u)
 else (0, { u with E := u.E ++ [⟨d, s, r⟩] })
def less1 (E : List En) (d : Int) (s : ByteArray) : List En := E.filter (fun x => !decide (x.dir = d ∧ x.nam = s))
def drop (u : Us) (e : En) : Us :=
 if (less1 u.E e.dir e.nam).any (fun x => decide (x.ref = e.ref)) = true then { u with E := less1 u.E e.dir e.nam }
 else
  { u with
   L := u.L.filter (fun n => decide (n.ino = 1) || ((less1 u.E e.dir e.nam).filter (fun x => !decide (x.dir = e.ref))).any (fun x => decide (x.ref = n.ino)))
   E := (less1 u.E e.dir e.nam).filter (fun x => !decide (x.dir = e.ref)) }
def rm (u : Us) (d : Int) (s : ByteArray) : Int × Us :=
 if dirE u d ≠ 0 then (dirE u d, u)
 else match en u d s with
  | none => (20, u)
  | some e => if u.E.any (fun x => decide (x.dir = e.ref) && !decide (knd u x.ref = 4)) = true then (26, u) else (0, drop u e)
open Classical in
def filE (u : Us) (r : Int) : Int := match nd u r with
 | none => 1
 | some n => if n.kind = 1 then 25 else if n.kind ≠ 2 then 1 else 0
def trn (u : Us) (r : Int) (f : Nod → Nod) : Us := { u with L := u.L.map (fun n => if n.ino = r then f n else n) }
def sa (u : Us) (r mode uid gid : Int) : Int × Us :=
 if nd u r = none ∨ knd u r = 4 ∨ ¬ ((0 ≤ mode ∧ mode ≤ 511) ∧ (0 ≤ uid ∧ uid ≤ 65535) ∧ 0 ≤ gid ∧ gid ≤ 65535) then (1, u)
 else (0, trn u r (fun n => { n with mode := mode, uid := uid, gid := gid }))
def sx (u : Us) (r : Int) (xs : List (ByteArray × List Int)) : Int × Us :=
 if nd u r = none ∨ knd u r = 4 ∨ xsOk xs = false then (1, u)
 else (0, trn u r (fun n => { n with xs := xs }))
def so (u : Us) (r : Int) (on : Bool) : Int × Us :=
 if dirE u r ≠ 0 then (dirE u r, u) else (0, trn u r (fun n => { n with opq := on }))
def rd (l : List Int) (off n : Int) : List Int := if (l.length : Int) ≤ off then [] else (l.drop off.toNat).take n.toNat
def u0 : Us := ⟨[⟨[], 1, 1, 493, 0, 0, [], ⟨#[]⟩, [], false⟩], [], 2⟩
structure Wf (u : Us) : Prop where
 ino : (u.L.map Nod.ino).Nodup
 rng : ∀ n ∈ u.L, 1 ≤ n.ino ∧ n.ino < u.nx
 nms : ∀ n ∈ u.L, n.names = []
 may : ∀ n ∈ u.L, mayU n = true
 opq : ∀ n ∈ u.L, n.opq = true → n.kind = 1
 root : ∃ n ∈ u.L, n.ino = 1 ∧ n.kind = 1
 key : u.E.Pairwise (fun a b => ¬ (a.dir = b.dir ∧ a.nam = b.nam))
 dir : ∀ e ∈ u.E, ∃ n ∈ u.L, n.ino = e.dir ∧ n.kind = 1
 ref : ∀ e ∈ u.E, e.ref ≠ 1 ∧ ∃ n ∈ u.L, n.ino = e.ref
 has : ∀ n ∈ u.L, n.ino ≠ 1 → ∃ e ∈ u.E, e.ref = n.ino
 one : ∀ n ∈ u.L, n.kind = 1 → ∀ a ∈ u.E, ∀ b ∈ u.E, a.ref = n.ino → b.ref = n.ino → a = b
 nam : ∀ e ∈ u.E, valid e.nam.toList = 0
 top : ∃ rk : Int → Nat, ∀ e ∈ u.E, ∀ n ∈ u.L, n.ino = e.ref → n.kind = 1 → rk e.dir < rk e.ref
theorem inj {α β : Type} {f : α → β} : ∀ {l : List α}, (l.map f).Nodup → ∀ a ∈ l, ∀ b ∈ l, f a = f b → a = b
 | [], _, a, ha, _, _, _ => by simp at ha
 | n :: r, h, a, ha, b, hb, e => by
  rw [List.map_cons, List.nodup_cons] at h
  rcases List.mem_cons.1 ha with h1 | h1 <;> rcases List.mem_cons.1 hb with h2 | h2
  ·rw [h1, h2]
  ·exact absurd (List.mem_map.2 ⟨b, h2, by rw [← e, h1]⟩) h.1
  ·exact absurd (List.mem_map.2 ⟨a, h1, by rw [e, h2]⟩) h.1
  ·exact inj h.2 a h1 b h2 e
theorem nd_some {u : Us} {r : Int} {n : Nod} (h : nd u r = some n) : n ∈ u.L ∧ n.ino = r := ⟨List.mem_of_find?_eq_some h, by simpa using List.find?_some h⟩
theorem nd_none {u : Us} {r : Int} : nd u r = none ↔ ∀ n ∈ u.L, n.ino ≠ r := by
 unfold nd; rw [List.find?_eq_none]; simp
theorem nd_mem {u : Us} (h : (u.L.map Nod.ino).Nodup) {n : Nod} (hn : n ∈ u.L) : nd u n.ino = some n := by
 cases e : nd u n.ino with
 | none => exact absurd rfl (nd_none.1 e n hn)
 | some p =>
  obtain ⟨h1, h2⟩ := nd_some e
  rw [inj h p h1 n hn h2]
theorem en_some {u : Us} {d : Int} {s : ByteArray} {e : En} (h : en u d s = some e) : e ∈ u.E ∧ e.dir = d ∧ e.nam = s := ⟨List.mem_of_find?_eq_some h, by simpa using List.find?_some h⟩
theorem en_none {u : Us} {d : Int} {s : ByteArray} : en u d s = none ↔ ∀ e ∈ u.E, ¬ (e.dir = d ∧ e.nam = s) := by
 unfold en; rw [List.find?_eq_none]; simp
theorem key_inj : ∀ {l : List En}, l.Pairwise (fun a b => ¬ (a.dir = b.dir ∧ a.nam = b.nam)) → ∀ a ∈ l, ∀ b ∈ l, a.dir = b.dir → a.nam = b.nam → a = b
 | [], _, a, ha, _, _, _, _ => by simp at ha
 | n :: r, h, a, ha, b, hb, e, e' => by
  obtain ⟨h0, hr⟩ := List.pairwise_cons.1 h
  rcases List.mem_cons.1 ha with h1 | h1 <;> rcases List.mem_cons.1 hb with h2 | h2
  ·rw [h1, h2]
  ·exact absurd ⟨by rw [← h1]; exact e, by rw [← h1]; exact e'⟩ (h0 b h2)
  ·exact absurd ⟨by rw [← h2]; exact e.symm, by rw [← h2]; exact e'.symm⟩ (h0 a h1)
  ·exact key_inj hr a h1 b h2 e e'
theorem en_mem {u : Us} (h : u.E.Pairwise (fun a b => ¬ (a.dir = b.dir ∧ a.nam = b.nam))) {e : En} (he : e ∈ u.E) : en u e.dir e.nam = some e := by
 cases q : en u e.dir e.nam with
 | none => exact absurd ⟨rfl, rfl⟩ (en_none.1 q e he)
 | some p =>
  obtain ⟨h1, h2, h3⟩ := en_some q
  rw [key_inj h p h1 e he h2 h3]
theorem dirE_zero {u : Us} {r : Int} : dirE u r = 0 ↔ ∃ n, nd u r = some n ∧ n.kind = 1 := by
 unfold dirE
 cases h : nd u r with
 | none => simp
 | some n =>
  by_cases e : n.kind = 1
  ·simp [e]
  ·simp [e]
theorem frs_zero {u : Us} {d : Int} {s : ByteArray} (h : frs u d s = 0) : (∃ n, nd u d = some n ∧ n.kind = 1) ∧ valid s.toList = 0 ∧ en u d s = none := by
 unfold frs at h
 split at h
 ·rename_i q; exact absurd h q
 rename_i h1
 split at h
 ·rename_i q; exact absurd h q
 rename_i h2
 split at h
 ·cases h
 rename_i h3
 refine ⟨dirE_zero.1 (Decidable.not_not.1 h1), Decidable.not_not.1 h2, ?_⟩
 cases e : en u d s with
 | none => rfl
 | some x => rw [e] at h3; exact absurd rfl h3
theorem u0_wf : Wf u0 := by
 refine ⟨by simp [u0], ?_, ?_, ?_, ?_, ⟨_, List.mem_singleton.2 rfl, rfl, rfl⟩, List.Pairwise.nil, ?_, ?_, ?_, ?_, ?_, ⟨fun _ => 0, ?_⟩⟩
 ·intro n hn; rw [List.mem_singleton.1 hn]; exact ⟨by decide, by decide⟩
 ·intro n hn; rw [List.mem_singleton.1 hn]
 ·intro n hn; rw [List.mem_singleton.1 hn]; simp [mayU, may, kdOk, attrOk, xsOk, xs1]
 ·intro n hn; rw [List.mem_singleton.1 hn]; intro h; cases h
 ·intro e he; simp [u0] at he
 ·intro e he; simp [u0] at he
 ·intro n hn h1; rw [List.mem_singleton.1 hn] at h1; exact absurd rfl h1
 ·intro n hn _ a ha; simp [u0] at ha
 ·intro e he; simp [u0] at he
 ·intro e he; simp [u0] at he
theorem Wf.pos {u : Us} (h : Wf u) : 2 ≤ u.nx := by
 obtain ⟨n, h1, h2, _⟩ := h.root
 have := h.rng n h1
 omega
theorem Wf.ndd {u : Us} (h : Wf u) {e : En} (he : e ∈ u.E) : ∃ n, nd u e.dir = some n ∧ n.kind = 1 := by
 obtain ⟨n, h1, h2, h3⟩ := h.dir e he
 have := nd_mem h.ino h1
 rw [h2] at this
 exact ⟨n, this, h3⟩
theorem Wf.ndr {u : Us} (h : Wf u) {e : En} (he : e ∈ u.E) : ∃ n, nd u e.ref = some n := by
 obtain ⟨_, n, h1, h2⟩ := h.ref e he
 have := nd_mem h.ino h1
 rw [h2] at this
 exact ⟨n, this⟩
theorem mayU_set {n : Nod} (h : mayU n = true) (m : List ByteArray) (z : Int) (o : Bool) : mayU { n with names := m, ino := z, opq := o } = true := by
 unfold mayU at h ⊢
 exact h
theorem mk_wf {u : Us} (h : Wf u) (d : Int) (s : ByteArray) (n : Nod) : Wf (mk u d s n).2 := by
 unfold mk
 split
 ·exact h
 rename_i h1
 split
 ·exact h
 rename_i h2
 obtain ⟨⟨p, p1, p2⟩, f2, f3⟩ := frs_zero (Decidable.not_not.1 h1)
 obtain ⟨q1, q2⟩ := nd_some p1
 have hm : mayU n = true := by simpa using h2
 have fresh : ∀ x ∈ u.L, x.ino ≠ u.nx := fun x hx => by have := h.rng x hx; omega
 have old : ∀ e ∈ u.E, e.ref ≠ u.nx := fun e he => by
  obtain ⟨_, x, x1, x2⟩ := h.ref e he
  rw [← x2]; exact fresh x x1
 have mem : ∀ {x}, x ∈ u.L ++ [{ n with names := [], opq := false, ino := u.nx }] → x ∈ u.L ∨ x = { n with names := [], opq := false, ino := u.nx } := fun {x} hx => by
  rcases List.mem_append.1 hx with q | q
  ·exact .inl q
  ·exact .inr (List.mem_singleton.1 q)
 have meE : ∀ {x}, x ∈ u.E ++ [⟨d, s, u.nx⟩] → x ∈ u.E ∨ x = ⟨d, s, u.nx⟩ := fun {x} hx => by
  rcases List.mem_append.1 hx with q | q
  ·exact .inl q
  ·exact .inr (List.mem_singleton.1 q)
 refine ⟨?_, ?_, ?_, ?_, ?_, ?_, ?_, ?_, ?_, ?_, ?_, ?_, ?_⟩
 ·show ((u.L ++ [_]).map Nod.ino).Nodup
  rw [List.map_append, List.nodup_append]
  refine ⟨h.ino, by simp, fun a ha b hb e => ?_⟩
  obtain ⟨x, hx, rfl⟩ := List.mem_map.1 ha
  simp at hb
  exact fresh x hx (e.trans hb)
 ·intro x hx
  show 1 ≤ x.ino ∧ x.ino < u.nx + 1
  rcases mem hx with q | rfl
  ·have := h.rng x q; omega
  ·have := h.pos; exact ⟨by show 1 ≤ u.nx; omega, by show u.nx < u.nx + 1; omega⟩
 ·intro x hx
  rcases mem hx with q | rfl
  ·exact h.nms x q
  ·rfl
 ·intro x hx
  rcases mem hx with q | rfl
  ·exact h.may x q
  ·exact mayU_set hm _ _ _
 ·intro x hx ho
  rcases mem hx with q | rfl
  ·exact h.opq x q ho
  ·cases ho
 ·obtain ⟨x, x1, x2⟩ := h.root
  exact ⟨x, List.mem_append.2 (.inl x1), x2⟩
 ·refine List.pairwise_append.2 ⟨h.key, by simp, fun a ha b hb => ?_⟩
  rw [List.mem_singleton.1 hb]
  exact en_none.1 f3 a ha
 ·intro e he
  rcases meE he with q | rfl
  ·obtain ⟨x, x1, x2⟩ := h.dir e q
   exact ⟨x, List.mem_append.2 (.inl x1), x2⟩
  ·exact ⟨p, List.mem_append.2 (.inl q1), q2, p2⟩
 ·intro e he
  rcases meE he with q | rfl
  ·obtain ⟨e1, x, x1, x2⟩ := h.ref e q
   exact ⟨e1, x, List.mem_append.2 (.inl x1), x2⟩
  ·have := h.pos
   exact ⟨by show u.nx ≠ 1; omega, _, List.mem_append.2 (.inr (List.mem_singleton.2 rfl)), rfl⟩
 ·intro x hx h0
  rcases mem hx with q | rfl
  ·obtain ⟨e, e1, e2⟩ := h.has x q h0
   exact ⟨e, List.mem_append.2 (.inl e1), e2⟩
  ·exact ⟨⟨d, s, u.nx⟩, List.mem_append.2 (.inr (List.mem_singleton.2 rfl)), rfl⟩
 ·intro x hx hk a ha b hb ea eb
  rcases mem hx with q | rfl
  ·rcases meE ha with qa | rfl <;> rcases meE hb with qb | rfl
   ·exact h.one x q hk a qa b qb ea eb
   ·exact absurd eb.symm (fresh x q)
   ·exact absurd ea.symm (fresh x q)
   ·rfl
  ·rcases meE ha with qa | rfl <;> rcases meE hb with qb | rfl
   ·exact absurd ea (old a qa)
   ·exact absurd ea (old a qa)
   ·exact absurd eb (old b qb)
   ·rfl
 ·intro e he
  rcases meE he with q | rfl
  ·exact h.nam e q
  ·exact f2
 ·obtain ⟨rk, hr⟩ := h.top
  refine ⟨fun z => if z = u.nx then rk d + 1 else rk z, fun e he x hx ex hk => ?_⟩
  have hd : d ≠ u.nx := by rw [← q2]; exact fresh p q1
  show (if e.dir = u.nx then rk d + 1 else rk e.dir) < (if e.ref = u.nx then rk d + 1 else rk e.ref)
  rcases meE he with q | rfl
  ·have e1 : e.dir ≠ u.nx := by
    obtain ⟨y, y1, y2, _⟩ := h.dir e q
    rw [← y2]; exact fresh y y1
   rw [if_neg e1, if_neg (old e q)]
   rcases mem hx with qx | rfl
   ·exact hr e q x qx ex hk
   ·exact absurd ex.symm (old e q)
  ·show (if d = u.nx then rk d + 1 else rk d) < (if u.nx = u.nx then rk d + 1 else rk u.nx)
   rw [if_neg hd, if_pos rfl]; omega
theorem ln_wf {u : Us} (h : Wf u) (d : Int) (s : ByteArray) (r : Int) (hr1 : r ≠ 1 ∨ knd u 1 = 1) : Wf (ln u d s r).2 := by
 unfold ln
 split
 ·exact h
 rename_i h0
 split
 ·exact h
 rename_i h1
 split
 ·exact h
 rename_i h2
 obtain ⟨⟨p, p1, p2⟩, f2, f3⟩ := frs_zero (Decidable.not_not.1 h1)
 obtain ⟨q1, q2⟩ := nd_some p1
 obtain ⟨x, hx⟩ : ∃ x, nd u r = some x := by
  cases e : nd u r with
  | none => exact absurd (.inr e) h0
  | some x => exact ⟨x, rfl⟩
 obtain ⟨x1, x2⟩ := nd_some hx
 have xk : x.kind ≠ 1 := fun q => h2 (by unfold knd; rw [hx]; exact q)
 have meE : ∀ {y}, y ∈ u.E ++ [⟨d, s, r⟩] → y ∈ u.E ∨ y = ⟨d, s, r⟩ := fun {y} hy => by
  rcases List.mem_append.1 hy with q | q
  ·exact .inl q
  ·exact .inr (List.mem_singleton.1 q)
 have noD : ∀ n ∈ u.L, n.kind = 1 → n.ino ≠ r := fun n hn hk e => by
  have := inj h.ino n hn x x1 (e.trans x2.symm)
  rw [this] at hk; exact xk hk
 refine ⟨h.ino, h.rng, h.nms, h.may, h.opq, h.root, ?_, ?_, ?_, ?_, ?_, ?_, ?_⟩
 ·refine List.pairwise_append.2 ⟨h.key, by simp, fun a ha b hb => ?_⟩
  rw [List.mem_singleton.1 hb]
  exact en_none.1 f3 a ha
 ·intro e he
  rcases meE he with q | rfl
  ·exact h.dir e q
  ·exact ⟨p, q1, q2, p2⟩
 ·intro e he
  rcases meE he with q | rfl
  ·exact h.ref e q
  ·refine ⟨?_, x, x1, x2⟩
   intro e1
   obtain ⟨z, z1, z2, z3⟩ := h.root
   exact noD z z1 z3 (z2.trans e1.symm)
 ·intro n hn h1
  obtain ⟨e, e1, e2⟩ := h.has n hn h1
  exact ⟨e, List.mem_append.2 (.inl e1), e2⟩
 ·intro n hn hk a ha b hb ea eb
  rcases meE ha with qa | rfl
  ·rcases meE hb with qb | rfl
   ·exact h.one n hn hk a qa b qb ea eb
   ·exact absurd eb.symm (noD n hn hk)
  ·exact absurd ea.symm (noD n hn hk)
 ·intro e he
  rcases meE he with q | rfl
  ·exact h.nam e q
  ·exact f2
 ·obtain ⟨rk, hr⟩ := h.top
  refine ⟨rk, fun e he n hn en hk => ?_⟩
  rcases meE he with q | rfl
  ·exact hr e q n hn en hk
  ·exact absurd en (noD n hn hk)
theorem mem_less1 {E : List En} {d : Int} {s : ByteArray} {e : En} : e ∈ less1 E d s ↔ e ∈ E ∧ ¬ (e.dir = d ∧ e.nam = s) := by
 unfold less1; rw [List.mem_filter, Bool.not_eq_true', decide_eq_false_iff_not]
theorem drop_wf {u : Us} (h : Wf u) {e : En} (he : e ∈ u.E) (hw : ∀ x ∈ u.E, x.dir = e.ref → knd u x.ref = 4) : Wf (drop u e) := by
 have kept : ∀ x ∈ u.E, x ≠ e → x ∈ less1 u.E e.dir e.nam := fun x hx hne => mem_less1.2 ⟨hx, fun q => hne (key_inj h.key x hx e he q.1 q.2)⟩
 have gone : e ∉ less1 u.E e.dir e.nam := fun q => (mem_less1.1 q).2 ⟨rfl, rfl⟩
 unfold drop
 split
 ·rename_i hl
  obtain ⟨y, y1, y2⟩ := List.any_eq_true.1 hl
  have y2 : y.ref = e.ref := by simpa using y2
  obtain ⟨y3, _⟩ := mem_less1.1 y1
  have ne : y ≠ e := fun q => gone (q ▸ y1)
  refine ⟨h.ino, h.rng, h.nms, h.may, h.opq, h.root, h.key.filter _, fun x hx => h.dir x (mem_less1.1 hx).1, fun x hx => h.ref x (mem_less1.1 hx).1, ?_, fun n hn hk a ha b hb => h.one n hn hk a (mem_less1.1 ha).1 b (mem_less1.1 hb).1, fun x hx => h.nam x (mem_less1.1 hx).1, ?_⟩
  ·intro n hn h1
   obtain ⟨x, x1, x2⟩ := h.has n hn h1
   by_cases q : x = e
   ·exact ⟨y, y1, by rw [y2, ← q]; exact x2⟩
   ·exact ⟨x, kept x x1 q, x2⟩
  ·obtain ⟨rk, hr⟩ := h.top
   exact ⟨rk, fun x hx n hn => hr x (mem_less1.1 hx).1 n hn⟩
 ·rename_i hl
  have none : ∀ x ∈ u.E, x.ref = e.ref → x = e := fun x hx q => Classical.byContradiction fun hne => hl (List.any_eq_true.2 ⟨x, kept x hx hne, by simpa using q⟩)
  have meE : ∀ {x}, x ∈ (less1 u.E e.dir e.nam).filter (fun x => !decide (x.dir = e.ref)) ↔ x ∈ u.E ∧ x ≠ e ∧ x.dir ≠ e.ref := fun {x} => by
   rw [List.mem_filter, mem_less1]
   constructor
   ·rintro ⟨⟨q1, q2⟩, q3⟩
    exact ⟨q1, fun q => q2 (by rw [q]; exact ⟨rfl, rfl⟩), by simpa using q3⟩
   ·rintro ⟨q1, q2, q3⟩
    exact ⟨⟨q1, fun q => q2 (key_inj h.key x q1 e he q.1 q.2)⟩, by simpa using q3⟩
  have meL : ∀ {n}, n ∈ u.L.filter (fun n => decide (n.ino = 1) || ((less1 u.E e.dir e.nam).filter (fun x => !decide (x.dir = e.ref))).any (fun x => decide (x.ref = n.ino))) ↔ n ∈ u.L ∧ (n.ino = 1 ∨ ∃ x ∈ u.E, x ≠ e ∧ x.dir ≠ e.ref ∧ x.ref = n.ino) := fun {n} => by
   rw [List.mem_filter, Bool.or_eq_true, List.any_eq_true]
   constructor
   ·rintro ⟨q1, q | ⟨x, x1, x2⟩⟩
    ·exact ⟨q1, .inl (by simpa using q)⟩
    ·obtain ⟨a, b, c⟩ := meE.1 x1
     exact ⟨q1, .inr ⟨x, a, b, c, by simpa using x2⟩⟩
   ·rintro ⟨q1, q | ⟨x, a, b, c, d⟩⟩
    ·exact ⟨q1, .inl (by simpa using q)⟩
    ·exact ⟨q1, .inr ⟨x, meE.2 ⟨a, b, c⟩, by simpa using d⟩⟩
  have dirs : ∀ n ∈ u.L, n.kind = 1 → n.ino ≠ e.ref → n.ino = 1 ∨ ∃ x ∈ u.E, x ≠ e ∧ x.dir ≠ e.ref ∧ x.ref = n.ino := fun n hn hk hne => by
   by_cases q : n.ino = 1
   ·exact .inl q
   obtain ⟨x, x1, x2⟩ := h.has n hn q
   refine .inr ⟨x, x1, fun z => hne (by rw [← x2, z]), fun z => ?_, x2⟩
   have := hw x x1 z
   rw [x2, knd, nd_mem h.ino hn] at this
   simp at this
   rw [hk] at this; cases this
  refine ⟨(List.filter_sublist.map Nod.ino).nodup h.ino, fun n hn => h.rng n (meL.1 hn).1, fun n hn => h.nms n (meL.1 hn).1, fun n hn => h.may n (meL.1 hn).1, fun n hn => h.opq n (meL.1 hn).1, ?_, (h.key.filter _).filter _, ?_, ?_, ?_, fun n hn hk a ha b hb => h.one n (meL.1 hn).1 hk a (meE.1 ha).1 b (meE.1 hb).1, fun x hx => h.nam x (meE.1 hx).1, ?_⟩
  ·obtain ⟨z, z1, z2, z3⟩ := h.root
   exact ⟨z, meL.2 ⟨z1, .inl z2⟩, z2, z3⟩
  ·intro x hx
   obtain ⟨a, b, c⟩ := meE.1 hx
   obtain ⟨n, n1, n2, n3⟩ := h.dir x a
   exact ⟨n, meL.2 ⟨n1, dirs n n1 n3 (by rw [n2]; exact c)⟩, n2, n3⟩
  ·intro x hx
   obtain ⟨a, b, c⟩ := meE.1 hx
   obtain ⟨e1, n, n1, n2⟩ := h.ref x a
   exact ⟨e1, n, meL.2 ⟨n1, .inr ⟨x, a, b, c, n2.symm⟩⟩, n2⟩
  ·intro n hn h1
   obtain ⟨n1, q | ⟨x, a, b, c, d⟩⟩ := meL.1 hn
   ·exact absurd q h1
   ·exact ⟨x, meE.2 ⟨a, b, c⟩, d⟩
  ·obtain ⟨rk, hr⟩ := h.top
   exact ⟨rk, fun x hx n hn => hr x (meE.1 hx).1 n (meL.1 hn).1⟩
theorem rm_wf {u : Us} (h : Wf u) (d : Int) (s : ByteArray) : Wf (rm u d s).2 := by
 unfold rm
 split
 ·exact h
 ·split
  ·exact h
  ·rename_i e he
   split
   ·exact h
   ·rename_i hn
    refine drop_wf h (en_some he).1 fun x hx q => Classical.byContradiction fun hk => hn (List.any_eq_true.2 ⟨x, hx, ?_⟩)
    simp [q, hk]
theorem trn_wf {u : Us} (h : Wf u) {r : Int} {f : Nod → Nod} (hf : ∀ n ∈ u.L, n.ino = r → (f n).ino = n.ino ∧ (f n).kind = n.kind ∧ (f n).names = n.names ∧ mayU (f n) = true ∧ ((f n).opq = true → n.kind = 1)) : Wf (trn u r f) := by
 have e1 : ∀ n ∈ u.L, (if n.ino = r then f n else n).ino = n.ino ∧ (if n.ino = r then f n else n).kind = n.kind ∧ (if n.ino = r then f n else n).names = n.names := fun n hn => by
  split
  ·rename_i q; exact ⟨(hf n hn q).1, (hf n hn q).2.1, (hf n hn q).2.2.1⟩
  ·exact ⟨rfl, rfl, rfl⟩
 have mem : ∀ {x}, x ∈ (trn u r f).L → ∃ n ∈ u.L, x = (if n.ino = r then f n else n) ∧ x.ino = n.ino ∧ x.kind = n.kind ∧ x.names = n.names := fun {x} hx => by
  obtain ⟨n, hn, rfl⟩ := List.mem_map.1 hx
  exact ⟨n, hn, rfl, e1 n hn⟩
 have put : ∀ n ∈ u.L, ∃ x ∈ (trn u r f).L, x.ino = n.ino ∧ x.kind = n.kind := fun n hn => ⟨_, List.mem_map_of_mem hn, (e1 n hn).1, (e1 n hn).2.1⟩
 refine ⟨?_, fun x hx => ?_, fun x hx => ?_, fun x hx => ?_, fun x hx => ?_, ?_, h.key, fun e he => ?_, fun e he => ?_, fun x hx h1 => ?_, fun x hx hk a ha b hb => ?_, h.nam, ?_⟩
 ·show ((u.L.map _).map Nod.ino).Nodup
  rw [List.map_map, show u.L.map (Nod.ino ∘ fun n => if n.ino = r then f n else n) = u.L.map Nod.ino from List.map_congr_left fun n hn => (e1 n hn).1]
  exact h.ino
 ·obtain ⟨n, hn, _, q, _⟩ := mem hx
  show 1 ≤ x.ino ∧ x.ino < u.nx
  rw [q]; exact h.rng n hn
 ·obtain ⟨n, hn, _, _, _, q⟩ := mem hx
  rw [q]; exact h.nms n hn
 ·obtain ⟨n, hn, q, _⟩ := mem hx
  rw [q]
  split
  ·rename_i z; exact (hf n hn z).2.2.2.1
  ·exact h.may n hn
 ·obtain ⟨n, hn, q, _, k, _⟩ := mem hx
  intro ho
  rw [k]
  rw [q] at ho
  split at ho
  ·rename_i z; exact (hf n hn z).2.2.2.2 ho
  ·exact h.opq n hn ho
 ·obtain ⟨n, n1, n2, n3⟩ := h.root
  obtain ⟨x, x1, x2, x3⟩ := put n n1
  exact ⟨x, x1, x2.trans n2, x3.trans n3⟩
 ·obtain ⟨n, n1, n2, n3⟩ := h.dir e he
  obtain ⟨x, x1, x2, x3⟩ := put n n1
  exact ⟨x, x1, x2.trans n2, x3.trans n3⟩
 ·obtain ⟨q, n, n1, n2⟩ := h.ref e he
  obtain ⟨x, x1, x2, x3⟩ := put n n1
  exact ⟨q, x, x1, x2.trans n2⟩
 ·obtain ⟨n, hn, _, q, _⟩ := mem hx
  obtain ⟨e, e1, e2⟩ := h.has n hn (by rw [← q]; exact h1)
  exact ⟨e, e1, e2.trans q.symm⟩
 ·obtain ⟨n, hn, _, q, k, _⟩ := mem hx
  intro ea eb
  exact h.one n hn (k.symm.trans hk) a ha b hb (ea.trans q) (eb.trans q)
 ·obtain ⟨rk, hr⟩ := h.top
  refine ⟨rk, fun e he x hx ex hk => ?_⟩
  obtain ⟨n, hn, _, q, k, _⟩ := mem hx
  exact hr e he n hn (q.symm.trans ex) (k.symm.trans hk)
end Upr
end Go.Proofs.YtbmeapehgajbkaaGreat
namespace Go.Proofs.YtbmeapehgajbkaaGreat
open Go.RowKit Go.Maps
open Nam Tre
open Lz (g)
namespace Upr
structure Cl where
 k : Nat
 r : Int
def Cl.no : Cl := ⟨0, 0⟩
def Cl.up : Cl := ⟨1, 0⟩
def Cl.nds : Cl := ⟨2, 0⟩
def Cl.nod (r : Int) : Cl := ⟨3, r⟩
def Cl.ent (r : Int) : Cl := ⟨4, r⟩
def Cl.dat : Cl := ⟨5, 0⟩
def XatC (c : Nat → Cl) (w : World) (b o : Nat) (x : ByteArray × List Int) : Prop :=
 w.cell? ⟨b, o, none⟩ = some (.string x.1) ∧ ∃ va vn vc, w.cell? ⟨b, o + 1, none⟩ = some (.slice va vn vc) ∧ Bs w va vn x.2 ∧ (∀ a, va = some a → 0 < vn → c a.block = .dat) ∧ vn ≤ vc ∧ vc ≤ 9223372036854775807 ∧ (va = none → vc = 0) ∧ x.1.size ≤ 9223372036854775807
def XsC (c : Nat → Cl) (w : World) (ao : Option Addr) (n : Nat) (xs : List (ByteArray × List Int)) : Prop :=
 xs.length = n ∧ (n = 0 ∨ ∃ b off, ao = some ⟨b, off, none⟩ ∧ b < w.heap.size ∧ c b = .dat ∧ ∀ i, i < n → XatC c w b (off + i * 2) (gx xs i))
structure Pv where
 da : Option Addr
 dn : Nat
 dc : Nat
 xa : Option Addr
 xn : Nat
 xc : Nat
def ncs (n : Nod) (v : Pv) (lk : Int) (em : Value) (pr : Int) : Array Value :=
 #[.slice none 0 0, .int .i64 0, .int .i64 n.kind, .int .i64 n.mode, .int .i64 n.uid, .int .i64 n.gid, .slice v.da v.dn v.dc, .string n.target, .slice v.xa v.xn v.xc, .bool n.opq, .int .i64 lk, em, .int .i64 pr]
structure NB (c : Nat → Cl) (w : World) (b : Nat) (n : Nod) (v : Pv) (lk : Int) (em : Value) (pr : Int) : Prop where
 box : w.heap[b]? = some (.cells (ncs n v lk em pr) 73 (0, 0))
 data : Bs w v.da v.dn n.data
 dcol : ∀ a, v.da = some a → 0 < v.dn → c a.block = .dat
 dc : v.dn ≤ v.dc
 dcm : v.dc ≤ 9223372036854775807
 dnil : v.da = none → v.dc = 0
 xs : XsC c w v.xa v.xn n.xs
 xc : v.xn ≤ v.xc
 xcm : v.xc ≤ 9223372036854775807
 xnil : v.xa = none → v.xc = 0
def ndF (u : Us) (nb : Int → Nat) (r : Int) : Option Value := (nd u r).map (fun _ => .pointer (some ⟨nb r, 0, none⟩))
def enF (u : Us) (d : Int) (s : ByteArray) : Option Value := (en u d s).map (fun e => .int .i64 e.ref)
def Sm (u : Us) : Prop := u.L.length ≤ 100000 ∧ u.E.length ≤ 100000 ∧ u.nx ≤ 100000
structure UB (w : World) (p : Nat) (c : Nat → Cl) (q : Int × Int × Int) (u : Us) (lk pr : Int → Int) (m : Nat) (nb eb : Int → Nat) : Prop where
 box : w.heap[p]? = some (.cells #[.int .i64 q.1, .int .i64 q.2.1, .map (some m), .int .i64 q.2.2] 65 (0, 0))
 cp : c p = .up
 cm : c m = .nds
 map : MpI w m u.L.length (ndF u nb)
 nod : ∀ n ∈ u.L, ∃ v, NB c w (nb n.ino) n v (lk n.ino) (.map (if n.kind = 1 then some (eb n.ino) else none)) (if n.kind = 1 then pr n.ino else 0)
 cn : ∀ n ∈ u.L, c (nb n.ino) = .nod n.ino
 ent : ∀ n ∈ u.L, n.kind = 1 → MpS w (eb n.ino) (kin u n.ino) (enF u n.ino)
 ce : ∀ n ∈ u.L, n.kind = 1 → c (eb n.ino) = .ent n.ino
 low : ∀ b, c b ≠ .no → b < w.heap.size
 ino : (u.L.map Nod.ino).Nodup
 rng : ∀ n ∈ u.L, 1 ≤ n.ino ∧ n.ino < u.nx
 key : u.E.Pairwise (fun a b => ¬ (a.dir = b.dir ∧ a.nam = b.nam))
 kd : ∀ n ∈ u.L, mayU n = true
section
variable {c c' : Nat → Cl} {w w' : World} {S : Nat → Prop}
theorem XatC.fr {b o : Nat} {x : ByteArray × List Int} (h : XatC c w b o x) (hf : Fr S w w') (hb : b < w.heap.size) (hn : ¬ S b) (hd : ∀ k, c k = .dat → ¬ S k) : XatC c w' b o x := by
 obtain ⟨h1, va, vn, vc, h2, h3, h4, h5⟩ := h
 exact ⟨(hf.cell (q := ⟨b, o, none⟩) hb hn).trans h1, va, vn, vc, (hf.cell (q := ⟨b, o + 1, none⟩) hb hn).trans h2, h3.fr hf (fun a ha h0 => hd _ (h4 a ha h0)), h4, h5⟩
theorem XsC.fr {ao : Option Addr} {n : Nat} {xs : List (ByteArray × List Int)} (h : XsC c w ao n xs) (hf : Fr S w w') (hd : ∀ k, c k = .dat → ¬ S k) : XsC c w' ao n xs := by
 refine ⟨h.1, ?_⟩
 rcases h.2 with h0 | ⟨b, off, h1, h2, h3, h4⟩
 ·exact .inl h0
 ·exact .inr ⟨b, off, h1, Nat.lt_of_lt_of_le h2 hf.size, h3, fun i hi => (h4 i hi).fr hf h2 (hd _ h3) hd⟩
theorem XatC.col {b o : Nat} {x : ByteArray × List Int} (h : XatC c w b o x) (hc : ∀ k, c k = .dat → c' k = .dat) : XatC c' w b o x := by
 obtain ⟨h1, va, vn, vc, h2, h3, h4, h5⟩ := h
 exact ⟨h1, va, vn, vc, h2, h3, fun a ha h0 => hc _ (h4 a ha h0), h5⟩
theorem XsC.col {ao : Option Addr} {n : Nat} {xs : List (ByteArray × List Int)} (h : XsC c w ao n xs) (hc : ∀ k, c k = .dat → c' k = .dat) : XsC c' w ao n xs := by
 refine ⟨h.1, ?_⟩
 rcases h.2 with h0 | ⟨b, off, h1, h2, h3, h4⟩
 ·exact .inl h0
 ·exact .inr ⟨b, off, h1, h2, hc _ h3, fun i hi => (h4 i hi).col hc⟩
theorem XsC.xsr {ao : Option Addr} {n : Nat} {xs : List (ByteArray × List Int)} (h : XsC c w ao n xs) : XsR w ao n xs := by
 refine ⟨h.1, ?_⟩
 rcases h.2 with h0 | ⟨b, off, h1, h2, h3, h4⟩
 ·exact .inl h0
 ·refine .inr ⟨b, off, h1, h2, fun i hi => ?_⟩
  obtain ⟨q1, va, vn, vc, q2, q3, _, q4⟩ := h4 i hi
  exact ⟨q1, va, vn, vc, q2, q3, q4⟩
theorem NB.fr {b : Nat} {n : Nod} {v : Pv} {lk : Int} {em : Value} {pr : Int} (h : NB c w b n v lk em pr) (hf : Fr S w w') (hb : ¬ S b) (hd : ∀ k, c k = .dat → ¬ S k) : NB c w' b n v lk em pr :=
 { h with box := (hf.block b (heap_lt h.box) hb).trans h.box, data := h.data.fr hf (fun a ha h0 => hd _ (h.dcol a ha h0)), xs := h.xs.fr hf hd }
theorem NB.col {b : Nat} {n : Nod} {v : Pv} {lk : Int} {em : Value} {pr : Int} (h : NB c w b n v lk em pr) (hc : ∀ k, c k = .dat → c' k = .dat) : NB c' w b n v lk em pr :=
 { h with dcol := fun a ha h0 => hc _ (h.dcol a ha h0), xs := h.xs.col hc }
end
section
variable {w w' : World} {p : Nat} {c : Nat → Cl} {q : Int × Int × Int} {u : Us} {lk pr : Int → Int} {m : Nat} {nb eb : Int → Nat}
theorem UB.fr {S : Nat → Prop} (h : UB w p c q u lk pr m nb eb) (hf : Fr S w w') (hs : ∀ k, c k ≠ .no → ¬ S k) : UB w' p c q u lk pr m nb eb := by
 have nn : ∀ {k x}, c k = x → x ≠ .no → ¬ S k := fun h1 h2 => hs _ (by rw [h1]; exact h2)
 refine { h with box := (hf.block p (heap_lt h.box) (nn h.cp (by intro e; cases e))).trans h.box, map := h.map.same (hf.block m h.map.lt (nn h.cm (by intro e; cases e))), nod := fun n hn => ?_, ent := fun n hn hk => ?_, low := fun b hb => Nat.lt_of_lt_of_le (h.low b hb) hf.size }
 ·obtain ⟨v, hv⟩ := h.nod n hn
  exact ⟨v, hv.fr hf (nn (h.cn n hn) (by intro e; cases e)) (fun k hk => nn hk (by intro e; cases e))⟩
 ·exact (h.ent n hn hk).same (hf.block _ (h.ent n hn hk).lt (nn (h.ce n hn hk) (by intro e; cases e)))
theorem UB.below (h : UB w p c q u lk pr m nb eb) (hb : Below w.heap.size w w') : UB w' p c q u lk pr m nb eb := h.fr (S := fun _ => False) (Fr.of_below hb) (fun _ _ h => h)
theorem UB.drewN (h : UB w p c q u lk pr m nb eb) (k : Nat) : UB (w.drewN k) p c q u lk pr m nb eb := h.below (drewN_below w k)
theorem UB.ndd (h : UB w p c q u lk pr m nb eb) {n : Nod} (hn : n ∈ u.L) : nd u n.ino = some n := nd_mem h.ino hn
theorem UB.c2 (h : UB w p c q u lk pr m nb eb) : w.cell? ⟨p, 2, none⟩ = some (.map (some m)) := by simp [World.cell?, h.box]
theorem UB.c3 (h : UB w p c q u lk pr m nb eb) : w.cell? ⟨p, 3, none⟩ = some (.int .i64 q.2.2) := by simp [World.cell?, h.box]
theorem UB.f3 (h : UB w p c q u lk pr m nb eb) (i : Nat) : w.frozen? ⟨p, i, none⟩ = false := by simp [World.frozen?, h.box]
theorem zeroPtr (w : World) : (zeroValue 66).run Tryz.prog w = .ok (.pointer none) w := by kernel_rfl
theorem zeroI (w : World) : (zeroValue 3).run Tryz.prog w = .ok (.int .i64 0) w := by kernel_rfl
theorem UB.look (h : UB w p c q u lk pr m nb eb) {r : Int} (hr : (Lit.int .i64 r).wf = true) :
  (Instr.lookup 63 (.map (some m)) (.int .i64 r) true).run Tryz.prog w = .ok (.tuple #[((nd u r).map (fun _ => Value.pointer (some ⟨nb r, 0, none⟩))).getD (.pointer none), .bool (nd u r).isSome]) w := by
 have := h.map.look Tryz.underlying63 (zeroPtr w) hr
 rw [this]
 unfold ndF
 cases nd u r <;> rfl
theorem UB.get (h : UB w p c q u lk pr m nb eb) {r : Int} (hr : (Lit.int .i64 r).wf = true) {n : Nod} (hn : nd u r = some n) :
  (Instr.lookup 63 (.map (some m)) (.int .i64 r) false).run Tryz.prog w = .ok (.pointer (some ⟨nb r, 0, none⟩)) w := by
 have := h.map.get Tryz.underlying63 (zeroPtr w) hr
 rw [this]
 unfold ndF
 rw [hn]; rfl
theorem UB.at (h : UB w p c q u lk pr m nb eb) {r : Int} {n : Nod} (hn : nd u r = some n) : n ∈ u.L ∧ n.ino = r ∧ ∃ v, NB c w (nb r) n v (lk r) (.map (if n.kind = 1 then some (eb r) else none)) (if n.kind = 1 then pr r else 0) := by
 obtain ⟨h1, h2⟩ := nd_some hn
 obtain ⟨v, hv⟩ := h.nod n h1
 rw [h2] at hv
 exact ⟨h1, h2, v, hv⟩
theorem UB.ents (h : UB w p c q u lk pr m nb eb) {r : Int} {n : Nod} (hn : nd u r = some n) (hk : n.kind = 1) : MpS w (eb r) (kin u r) (enF u r) := by
 obtain ⟨h1, h2⟩ := nd_some hn
 have := h.ent n h1 hk
 rw [h2] at this
 exact this
theorem UB.cnr (h : UB w p c q u lk pr m nb eb) {r : Int} {n : Nod} (hn : nd u r = some n) : c (nb r) = .nod r := by
 obtain ⟨h1, h2⟩ := nd_some hn
 have := h.cn n h1
 rw [h2] at this
 exact this
theorem UB.cer (h : UB w p c q u lk pr m nb eb) {r : Int} {n : Nod} (hn : nd u r = some n) (hk : n.kind = 1) : c (eb r) = .ent r := by
 obtain ⟨h1, h2⟩ := nd_some hn
 have := h.ce n h1 hk
 rw [h2] at this
 exact this
end
section
variable {c : Nat → Cl} {w : World} {b : Nat} {n : Nod} {v : Pv} {lk pr : Int} {em : Value}
theorem NB.k (h : NB c w b n v lk em pr) : w.cell? ⟨b, 2, none⟩ = some (.int .i64 n.kind) := by simp [World.cell?, h.box, ncs]
theorem NB.d (h : NB c w b n v lk em pr) : w.cell? ⟨b, 6, none⟩ = some (.slice v.da v.dn v.dc) := by simp [World.cell?, h.box, ncs]
theorem NB.x (h : NB c w b n v lk em pr) : w.cell? ⟨b, 8, none⟩ = some (.slice v.xa v.xn v.xc) := by simp [World.cell?, h.box, ncs]
theorem NB.l (h : NB c w b n v lk em pr) : w.cell? ⟨b, 10, none⟩ = some (.int .i64 lk) := by simp [World.cell?, h.box, ncs]
theorem NB.e (h : NB c w b n v lk em pr) : w.cell? ⟨b, 11, none⟩ = some em := by simp [World.cell?, h.box, ncs]
theorem NB.f (h : NB c w b n v lk em pr) (i : Nat) : w.frozen? ⟨b, i, none⟩ = false := by simp [World.frozen?, h.box]
end
end Upr
end Go.Proofs.YtbmeapehgajbkaaGreat
namespace Go.Proofs.YtbmeapehgajbkaaGreat
open Go.RowKit Go.Maps
open Nam Tre
open Lz (g)
namespace Upr
def ptrD (u : Us) (nb : Int → Nat) (r : Int) : Option Addr := if dirE u r = 0 then some ⟨nb r, 0, none⟩ else none
def ptrF (u : Us) (nb : Int → Nat) (r : Int) : Option Addr := if filE u r = 0 then some ⟨nb r, 0, none⟩ else none
section
variable {p : Nat} {c : Nat → Cl} {q : Int × Int × Int} {u : Us} {lk pr : Int → Int} {m : Nat} {nb eb : Int → Nat}
set_option maxRecDepth 100000 in
theorem udir_any (r : Int) (w : World) (hr : (Lit.int .i64 r).wf = true) (h : UB w p c q u lk pr m nb eb) :
  Calls Tryz.prog 23 #[.pointer (some ⟨p, 0, none⟩), .int .i64 r] w fun e w' => e = .returned (.tuple #[.pointer (ptrD u nb r), .int .i64 (dirE u r)]) ∧ w' = w := by
 have c2 := h.c2
 have hl := h.look hr
 cases hn : nd u r with
 | none =>
  have e1 : dirE u r = 1 := by unfold dirE; rw [hn]
  have e2 : ptrD u nb r = none := by unfold ptrD; rw [if_neg (by rw [e1]; decide)]
  rw [e1, e2]
  rw [hn] at hl
  simp only [Option.map_none, Option.getD_none, Option.isSome_none] at hl
  clear h e1 e2 hn
  go_enter Tryz.func23, Tryz.ntmps23
  go_wp2
  go_ret2
  exact ⟨rfl, rfl⟩
 | some n =>
  obtain ⟨_, _, v, hv⟩ := h.at hn
  have k2 := hv.k
  rw [hn] at hl
  simp only [Option.map_some, Option.getD_some, Option.isSome_some] at hl
  by_cases hk : n.kind = 1
  ·have e1 : dirE u r = 0 := by unfold dirE; rw [hn]; exact if_pos hk
   have e2 : ptrD u nb r = some ⟨nb r, 0, none⟩ := by unfold ptrD; rw [if_pos e1]
   rw [e1, e2]
   rw [hk] at k2
   clear h e1 e2 hn hv hk
   go_enter Tryz.func23, Tryz.ntmps23
   go_wp2
   go_ret2
   exact ⟨rfl, rfl⟩
  ·have e1 : dirE u r = 24 := by unfold dirE; rw [hn]; exact if_neg hk
   have e2 : ptrD u nb r = none := by unfold ptrD; rw [if_neg (by rw [e1]; decide)]
   rw [e1, e2]
   have k3 : (n.kind == 1) = false := by simpa using hk
   clear h e1 e2 hn hv hk
   go_enter Tryz.func23, Tryz.ntmps23
   go_wp2
   go_ret2
   exact ⟨rfl, rfl⟩
set_option maxRecDepth 100000 in
theorem ufile_any (r : Int) (w : World) (hr : (Lit.int .i64 r).wf = true) (h : UB w p c q u lk pr m nb eb) :
  Calls Tryz.prog 28 #[.pointer (some ⟨p, 0, none⟩), .int .i64 r] w fun e w' => e = .returned (.tuple #[.pointer (ptrF u nb r), .int .i64 (filE u r)]) ∧ w' = w := by
 have c2 := h.c2
 have hl := h.look hr
 cases hn : nd u r with
 | none =>
  have e1 : filE u r = 1 := by unfold filE; rw [hn]
  have e2 : ptrF u nb r = none := by unfold ptrF; rw [if_neg (by rw [e1]; decide)]
  rw [e1, e2]
  rw [hn] at hl
  simp only [Option.map_none, Option.getD_none, Option.isSome_none] at hl
  clear h e1 e2 hn
  go_enter Tryz.func28, Tryz.ntmps28
  go_wp2
  go_ret2
  exact ⟨rfl, rfl⟩
 | some n =>
  obtain ⟨_, _, v, hv⟩ := h.at hn
  have k2 := hv.k
  rw [hn] at hl
  simp only [Option.map_some, Option.getD_some, Option.isSome_some] at hl
  by_cases hk : n.kind = 1
  ·have e1 : filE u r = 25 := by unfold filE; rw [hn]; exact if_pos hk
   have e2 : ptrF u nb r = none := by unfold ptrF; rw [if_neg (by rw [e1]; decide)]
   rw [e1, e2]
   rw [hk] at k2
   clear h e1 e2 hn hv hk
   go_enter Tryz.func28, Tryz.ntmps28
   go_wp2
   go_ret2
   exact ⟨rfl, rfl⟩
  ·by_cases hk2 : n.kind = 2
   ·have e1 : filE u r = 0 := by unfold filE; rw [hn]; show (if n.kind = 1 then (25 : Int) else if n.kind ≠ 2 then 1 else 0) = 0; rw [if_neg hk, if_neg (by simpa using hk2)]
    have e2 : ptrF u nb r = some ⟨nb r, 0, none⟩ := by unfold ptrF; rw [if_pos e1]
    rw [e1, e2]
    rw [hk2] at k2
    clear h e1 e2 hn hv hk hk2
    go_enter Tryz.func28, Tryz.ntmps28
    go_wp2
    go_ret2
    exact ⟨rfl, rfl⟩
   ·have e1 : filE u r = 1 := by unfold filE; rw [hn]; show (if n.kind = 1 then (25 : Int) else if n.kind ≠ 2 then 1 else 0) = 1; rw [if_neg hk, if_pos hk2]
    have e2 : ptrF u nb r = none := by unfold ptrF; rw [if_neg (by rw [e1]; decide)]
    rw [e1, e2]
    have k3 : (n.kind == 1) = false := by simpa using hk
    have k4 : (n.kind == 2) = false := by simpa using hk2
    clear h e1 e2 hn hv hk hk2
    go_enter Tryz.func28, Tryz.ntmps28
    go_wp2
    go_ret2
    exact ⟨rfl, rfl⟩
end
end Upr
end Go.Proofs.YtbmeapehgajbkaaGreat
namespace Go.Proofs.YtbmeapehgajbkaaGreat
open Go.RowKit Go.Maps
open Nam Tre
open Lz (g)
namespace Upr
theorem en_snoc (u : Us) (d : Int) (s : ByteArray) (r d' : Int) (y : ByteArray) : en { u with E := u.E ++ [⟨d, s, r⟩] } d' y = (en u d' y).or (if d = d' ∧ s = y then some ⟨d, s, r⟩ else none) := by
 unfold en
 rw [List.find?_append]
 congr 1
 by_cases h : d = d' ∧ s = y
 ·rw [if_pos h, List.find?_cons_of_pos (by simpa using h)]
 ·rw [if_neg h, List.find?_cons_of_neg (by simpa using h)]; rfl
theorem kin_snoc (u : Us) (d : Int) (s : ByteArray) (r d' : Int) : kin { u with E := u.E ++ [⟨d, s, r⟩] } d' = kin u d' + if d = d' then 1 else 0 := by
 unfold kin
 rw [List.countP_append, List.countP_cons, List.countP_nil]
 by_cases h : d = d' <;> simp [h]
theorem en_less (u : Us) (d : Int) (s : ByteArray) (d' : Int) (y : ByteArray) : en { u with E := less1 u.E d s } d' y = if d' = d ∧ y = s then none else en u d' y := by
 unfold en less1
 rw [List.find?_filter]
 by_cases h : d' = d ∧ y = s
 ·rw [if_pos h, List.find?_eq_none]
  intro x _ q
  simp only [Bool.not_eq_true', decide_eq_true_eq, decide_eq_false_iff_not] at q
  exact q.1 ⟨q.2.1.trans h.1, q.2.2.trans h.2⟩
 ·rw [if_neg h]
  congr 1
  funext x
  rw [Bool.eq_iff_iff]
  simp only [Bool.not_eq_true', decide_eq_true_eq, decide_eq_false_iff_not]
  constructor
  ·exact fun q => q.2
  ·exact fun q => ⟨fun k => h ⟨q.1.symm.trans k.1, q.2.symm.trans k.2⟩, q⟩
theorem cnt_one {α : Type} {p : α → Bool} : ∀ {l : List α}, l.Pairwise (fun a b => ¬ (p a = true ∧ p b = true)) → l.countP p ≤ 1
 | [], _ => by simp
 | a :: r, h => by
  obtain ⟨h1, h2⟩ := List.pairwise_cons.1 h
  rw [List.countP_cons]
  by_cases e : p a = true
  ·rw [if_pos e, List.countP_eq_zero.2 (fun x hx hp => h1 x hx ⟨e, hp⟩)]
   omega
  ·rw [if_neg e]; exact cnt_one h2
theorem countP_split {α : Type} (p q : α → Bool) : ∀ l : List α, l.countP p = l.countP (fun e => p e && !q e) + l.countP (fun e => p e && q e)
 | [] => rfl
 | a :: r => by
  have e : ∀ b1 b2 : Bool, (if b1 = true then 1 else 0) = (if (b1 && !b2) = true then 1 else 0) + (if (b1 && b2) = true then 1 else 0) := by decide
  rw [List.countP_cons, List.countP_cons, List.countP_cons, countP_split p q r, e (p a) (q a)]
  omega
theorem find_congr {α : Type} {p q : α → Bool} : ∀ {l : List α}, (∀ x ∈ l, p x = q x) → l.find? p = l.find? q
 | [], _ => rfl
 | a :: r, h => by
  rw [List.find?_cons, List.find?_cons, h a (List.mem_cons_self ..), find_congr (fun x hx => h x (List.mem_cons_of_mem _ hx))]
theorem kin_less {u : Us} (hk : u.E.Pairwise (fun a b => ¬ (a.dir = b.dir ∧ a.nam = b.nam))) (d : Int) (s : ByteArray) (d' : Int) : kin { u with E := less1 u.E d s } d' = if d' = d ∧ (en u d s).isSome = true then kin u d' - 1 else kin u d' := by
 unfold kin less1
 rw [List.countP_filter]
 have split : u.E.countP (fun e => decide (e.dir = d')) = u.E.countP (fun e => decide (e.dir = d') && !decide (e.dir = d ∧ e.nam = s)) + u.E.countP (fun e => decide (e.dir = d') && decide (e.dir = d ∧ e.nam = s)) := by
  exact countP_split _ _ _
 have one : u.E.countP (fun e => decide (e.dir = d') && decide (e.dir = d ∧ e.nam = s)) = if d' = d ∧ (en u d s).isSome = true then 1 else 0 := by
  by_cases h : d' = d ∧ (en u d s).isSome = true
  ·rw [if_pos h]
   obtain ⟨rfl, h2⟩ := h
   obtain ⟨x, hx⟩ := Option.isSome_iff_exists.1 h2
   obtain ⟨x1, x2, x3⟩ := en_some hx
   have le := cnt_one (p := fun e : En => decide (e.dir = d') && decide (e.dir = d' ∧ e.nam = s)) (hk.imp (fun {a b} hab q => by
    simp only [Bool.and_eq_true, decide_eq_true_eq] at q
    exact hab ⟨q.1.1.trans q.2.1.symm, q.1.2.2.trans q.2.2.2.symm⟩))
   have pos : 0 < u.E.countP (fun e => decide (e.dir = d') && decide (e.dir = d' ∧ e.nam = s)) := List.countP_pos_iff.2 ⟨x, x1, by simp [x2, x3]⟩
   omega
  ·rw [if_neg h, List.countP_eq_zero]
   intro x hx q
   simp only [Bool.and_eq_true, decide_eq_true_eq] at q
   refine h ⟨q.1.symm.trans q.2.1, ?_⟩
   cases e : en u d s with
   | none => exact absurd q.2 (en_none.1 e x hx)
   | some y => rfl
 rw [one] at split
 by_cases h : d' = d ∧ (en u d s).isSome = true
 ·rw [if_pos h] at split ⊢; omega
 ·rw [if_neg h] at split ⊢; omega
section
variable {w w' : World} {p : Nat} {c : Nat → Cl} {q : Int × Int × Int} {u : Us} {lk pr : Int → Int} {m : Nat} {nb eb : Int → Nat}
theorem UB.recol (h : UB w p c q u lk pr m nb eb) {c' : Nat → Cl} (hc : ∀ k, c k ≠ .no → c' k = c k) (hl : ∀ b, c' b ≠ .no → b < w.heap.size) : UB w p c' q u lk pr m nb eb := by
 have nn : ∀ {k x}, c k = x → x ≠ .no → c' k = x := fun h1 h2 => (hc _ (by rw [h1]; exact h2)).trans h1
 refine { h with cp := nn h.cp (by intro e; cases e), cm := nn h.cm (by intro e; cases e), nod := fun n hn => ?_, cn := fun n hn => nn (h.cn n hn) (by intro e; cases e), ce := fun n hn hk => nn (h.ce n hn hk) (by intro e; cases e), low := hl }
 obtain ⟨v, hv⟩ := h.nod n hn
 exact ⟨v, hv.col (fun k hk => nn hk (by intro e; cases e))⟩
theorem UB.putE (h : UB w p c q u lk pr m nb eb) {d : Int} {s : ByteArray} {n : Nod} (hn : nd u d = some n) (hk : n.kind = 1) (hx : en u d s = none) (hs : s.size ≤ maxLen) (hE : u.E.length ≤ 100000) (r : Int) :
  ∃ w', (Instr.mapUpdate 71 (.map (some (eb d))) (.string s) (.int .i64 r)).run Tryz.prog w = .ok () w' ∧ UB w' p c q { u with E := u.E ++ [⟨d, s, r⟩] } lk pr m nb eb ∧ Fr (fun k => c k = .ent d) w w' := by
 have hm := h.ents hn hk
 obtain ⟨n1, n2⟩ := nd_some hn
 have hce := h.cer hn hk
 obtain ⟨w', q1, q2, q3⟩ := hm.store Tryz.underlying71 hs (by have : kin u d ≤ u.E.length := List.countP_le_length; omega) (.int .i64 r)
 have hf : Fr (fun k => c k = .ent d) w w' := Fr.of_grown q3 (fun k hk => by obtain rfl := Option.some.inj hk; exact hce)
 have e0 : enF u d s = none := by unfold enF; rw [hx]; rfl
 rw [e0] at q2
 refine ⟨w', q1, ?_, hf⟩
 have nn : ∀ {k x}, c k = x → x ≠ .ent d → ¬ c k = .ent d := fun h1 h2 h3 => h2 (h1.symm.trans h3)
 refine { h with box := (hf.block p (heap_lt h.box) (nn h.cp (by intro e; cases e))).trans h.box, map := h.map.same (hf.block m h.map.lt (nn h.cm (by intro e; cases e))), nod := fun k hk => ?_, ent := fun k hkm hkk => ?_, low := fun b hb => Nat.lt_of_lt_of_le (h.low b hb) hf.size, key := ?_ }
 ·obtain ⟨v, hv⟩ := h.nod k hk
  exact ⟨v, hv.fr hf (nn (h.cn k hk) (by intro e; cases e)) (fun k hk => nn hk (by intro e; cases e))⟩
 ·by_cases e : k.ino = d
  ·rw [e, kin_snoc, if_pos rfl]
   refine (show MpS w' (eb d) (kin u d + 1) _ from q2).of (fun y => ?_)
   unfold enF
   rw [en_snoc]
   by_cases ey : y = s
   ·subst ey
    rw [if_pos rfl, hx, if_pos ⟨rfl, rfl⟩]; rfl
   ·rw [if_neg ey, if_neg (fun z => ey z.2.symm)]; simp
  ·rw [kin_snoc, if_neg (fun z => e z.symm), Nat.add_zero]
   have := (h.ent k hkm hkk).same (hf.block _ (h.ent k hkm hkk).lt (nn (h.ce k hkm hkk) (by intro z; exact e (congrArg Cl.r z))))
   refine this.of (fun y => ?_)
   unfold enF
   rw [en_snoc, if_neg (fun z => e z.1.symm)]; simp
 ·refine List.pairwise_append.2 ⟨h.key, by simp, fun a ha b hb => ?_⟩
  rw [List.mem_singleton.1 hb]
  exact en_none.1 hx a ha
theorem UB.delE (h : UB w p c q u lk pr m nb eb) {d : Int} {n : Nod} (hn : nd u d = some n) (hk : n.kind = 1) (s : ByteArray) (hs : s.size ≤ maxLen) (ty : TypeId) :
  ∃ w', (Builtin.delete_ #[71, 9] ty #[.map (some (eb d)), .string s]).run Tryz.prog w = .ok (.tuple #[]) w' ∧ UB w' p c q { u with E := less1 u.E d s } lk pr m nb eb ∧ Fr (fun k => c k = .ent d) w w' ∧ w'.heap.size = w.heap.size := by
 have hm := h.ents hn hk
 obtain ⟨n1, n2⟩ := nd_some hn
 have hce := h.cer hn hk
 obtain ⟨w', q1, q2, q3, q4⟩ := hm.drop Tryz.underlying71 hs ty
 have hf : Fr (fun k => c k = .ent d) w w' := Fr.of_grown q3 (fun k hk => by obtain rfl := Option.some.inj hk; exact hce)
 refine ⟨w', q1, ?_, hf, q4⟩
 have nn : ∀ {k x}, c k = x → x ≠ .ent d → ¬ c k = .ent d := fun h1 h2 h3 => h2 (h1.symm.trans h3)
 refine { h with box := (hf.block p (heap_lt h.box) (nn h.cp (by intro e; cases e))).trans h.box, map := h.map.same (hf.block m h.map.lt (nn h.cm (by intro e; cases e))), nod := fun k hk => ?_, ent := fun k hkm hkk => ?_, low := fun b hb => Nat.lt_of_lt_of_le (h.low b hb) hf.size, key := h.key.filter _ }
 ·obtain ⟨v, hv⟩ := h.nod k hk
  exact ⟨v, hv.fr hf (nn (h.cn k hk) (by intro e; cases e)) (fun k hk => nn hk (by intro e; cases e))⟩
 ·rw [kin_less h.key]
  by_cases e : k.ino = d
  ·rw [e]
   have e1 : (enF u d s).isSome = (en u d s).isSome := by unfold enF; simp
   rw [e1] at q2
   have e2 : (if d = d ∧ (en u d s).isSome = true then kin u d - 1 else kin u d) = if (en u d s).isSome = true then kin u d - 1 else kin u d := by simp
   rw [e2]
   refine q2.of (fun y => ?_)
   unfold enF
   rw [en_less]
   by_cases ey : y = s
   ·rw [if_pos ⟨rfl, ey⟩, if_pos ey]; rfl
   ·rw [if_neg (fun z => ey z.2), if_neg ey]
  ·rw [if_neg (fun z => e z.1)]
   have := (h.ent k hkm hkk).same (hf.block _ (h.ent k hkm hkk).lt (nn (h.ce k hkm hkk) (by intro z; exact e (congrArg Cl.r z))))
   refine this.of (fun y => ?_)
   unfold enF
   rw [en_less, if_neg (fun z => e z.1)]
theorem nd_trn {u : Us} {r : Int} {f : Nod → Nod} (hf : ∀ n ∈ u.L, n.ino = r → (f n).ino = n.ino) (x : Int) : nd (trn u r f) x = (nd u x).map (fun n => if n.ino = r then f n else n) := by
 unfold nd trn
 show (u.L.map _).find? _ = _
 rw [List.find?_map]
 congr 1
 apply find_congr
 intro n hn
 show decide ((if n.ino = r then f n else n).ino = x) = decide (n.ino = x)
 by_cases e : n.ino = r
 ·rw [if_pos e, hf n hn e]
 ·rw [if_neg e]
theorem UB.nodeC (h : UB w p c q u lk pr m nb eb) {c' : Nat → Cl} (hcc : ∀ k, c k ≠ .no → c' k = c k) (hll : ∀ b, c' b ≠ .no → b < w'.heap.size) {r : Int} {n : Nod} (hn : nd u r = some n) (f : Nod → Nod) (hi : (f n).ino = n.ino) (hkd : (f n).kind = n.kind) (hmy : mayU (f n) = true) (hf : Fr (fun k => c k = .nod r) w w') (l' p' : Int) (v : Pv)
  (hb : NB c' w' (nb r) (f n) v l' (.map (if n.kind = 1 then some (eb r) else none)) (if n.kind = 1 then p' else 0)) : UB w' p c' q (trn u r f) (fun x => if x = r then l' else lk x) (fun x => if x = r then p' else pr x) m nb eb := by
 obtain ⟨n1, n2⟩ := nd_some hn
 have nc : ∀ {k x}, c k = x → x ≠ .no → c' k = x := fun h1 h2 => (hcc _ (by rw [h1]; exact h2)).trans h1
 have only : ∀ k ∈ u.L, k.ino = r → k = n := fun k hk e => inj h.ino k hk n n1 (e.trans n2.symm)
 have hfi : ∀ k ∈ u.L, k.ino = r → (f k).ino = k.ino := fun k hk e => by rw [only k hk e]; exact hi
 have nn : ∀ {k x}, c k = x → x ≠ .nod r → ¬ c k = .nod r := fun h1 h2 h3 => h2 (h1.symm.trans h3)
 have mem : ∀ {x}, x ∈ (trn u r f).L → (∃ k ∈ u.L, k.ino ≠ r ∧ x = k) ∨ x = f n := fun {x} hx => by
  obtain ⟨k, hk, rfl⟩ := List.mem_map.1 hx
  by_cases e : k.ino = r
  ·right; rw [if_pos e, only k hk e]
  ·left; exact ⟨k, hk, e, by rw [if_neg e]⟩
 have fin : (f n).ino = r := hi.trans n2
 refine { h with box := (hf.block p (heap_lt h.box) (nn h.cp (by intro e; cases e))).trans h.box, cp := nc h.cp (by intro e; cases e), cm := nc h.cm (by intro e; cases e), map := ?_, nod := fun x hx => ?_, cn := fun x hx => ?_, ent := fun x hx hk => ?_, ce := fun x hx hk => ?_, low := hll, ino := ?_, rng := fun x hx => ?_, kd := fun x hx => ?_ }
 ·have hl : (trn u r f).L.length = u.L.length := by simp [trn]
  rw [hl]
  refine (h.map.same (hf.block m h.map.lt (nn h.cm (by intro e; cases e)))).of (fun x => ?_)
  unfold ndF
  rw [nd_trn hfi]
  cases nd u x <;> rfl
 ·rcases mem hx with ⟨k, hk, e, rfl⟩ | rfl
  ·obtain ⟨v0, hv0⟩ := h.nod _ hk
   rw [if_neg e, if_neg e]
   exact ⟨v0, (hv0.fr hf (nn (h.cn _ hk) (by intro z; exact e (congrArg Cl.r z))) (fun k hk => nn hk (by intro e; cases e))).col (fun k hk => nc hk (by intro e; cases e))⟩
  ·rw [fin, if_pos rfl, if_pos rfl, hkd]
   exact ⟨v, hb⟩
 ·rcases mem hx with ⟨k, hk, e, rfl⟩ | rfl
  ·exact nc (h.cn _ hk) (by intro e; cases e)
  ·rw [fin, ← n2]; exact nc (h.cn n n1) (by intro e; cases e)
 ·rcases mem hx with ⟨k, hkm, e, rfl⟩ | rfl
  ·exact (h.ent _ hkm hk).same (hf.block _ (h.ent _ hkm hk).lt (nn (h.ce _ hkm hk) (by intro e; cases e)))
  ·rw [hkd] at hk
   rw [fin, ← n2]
   exact (h.ent n n1 hk).same (hf.block _ (h.ent n n1 hk).lt (nn (h.ce n n1 hk) (by intro e; cases e)))
 ·rcases mem hx with ⟨k, hkm, e, rfl⟩ | rfl
  ·exact nc (h.ce _ hkm hk) (by intro e; cases e)
  ·rw [hkd] at hk
   rw [fin, ← n2]; exact nc (h.ce n n1 hk) (by intro e; cases e)
 ·show ((u.L.map _).map Nod.ino).Nodup
  rw [List.map_map, show u.L.map (Nod.ino ∘ fun n => if n.ino = r then f n else n) = u.L.map Nod.ino from List.map_congr_left fun k hk => by
   show (if k.ino = r then f k else k).ino = k.ino
   by_cases e : k.ino = r
   ·rw [if_pos e, hfi k hk e]
   ·rw [if_neg e]]
  exact h.ino
 ·show 1 ≤ x.ino ∧ x.ino < u.nx
  rcases mem hx with ⟨k, hkm, e, rfl⟩ | rfl
  ·exact h.rng _ hkm
  ·rw [hi]; exact h.rng n n1
 ·rcases mem hx with ⟨k, hkm, e, rfl⟩ | rfl
  ·exact h.kd _ hkm
  ·exact hmy
theorem UB.node (h : UB w p c q u lk pr m nb eb) {r : Int} {n : Nod} (hn : nd u r = some n) (f : Nod → Nod) (hi : (f n).ino = n.ino) (hkd : (f n).kind = n.kind) (hmy : mayU (f n) = true) (hf : Fr (fun k => c k = .nod r) w w') (l' p' : Int) (v : Pv)
  (hb : NB c w' (nb r) (f n) v l' (.map (if n.kind = 1 then some (eb r) else none)) (if n.kind = 1 then p' else 0)) : UB w' p c q (trn u r f) (fun x => if x = r then l' else lk x) (fun x => if x = r then p' else pr x) m nb eb :=
 h.nodeC (fun _ _ => rfl) (fun b hb => Nat.lt_of_lt_of_le (h.low b hb) hf.size) hn f hi hkd hmy hf l' p' v hb
theorem UB.addN (h : UB w p c q u lk pr m nb eb) {n : Nod} {b e0 : Nat} {v : Pv} {d : Int} (hi : n.ino = u.nx) (hmy : mayU n = true) (hL : u.L.length ≤ 100000) (hw : (Lit.int .i64 u.nx).wf = true) (hpos : 1 ≤ u.nx) (hcb : c b = .nod u.nx)
  (hb : NB c w b n v 1 (.map (if n.kind = 1 then some e0 else none)) (if n.kind = 1 then d else 0)) (he : n.kind = 1 → MpS w e0 0 (fun _ => none) ∧ c e0 = .ent u.nx) (hkin : kin u u.nx = 0) (hen : ∀ y, en u u.nx y = none) :
  ∃ w', (Instr.mapUpdate 63 (.map (some m)) (.int .i64 u.nx) (.pointer (some ⟨b, 0, none⟩))).run Tryz.prog w = .ok () w' ∧
   UB w' p c q ⟨u.L ++ [n], u.E, u.nx + 1⟩ (fun x => if x = u.nx then 1 else lk x) (fun x => if x = u.nx then d else pr x) m (fun x => if x = u.nx then b else nb x) (fun x => if x = u.nx then e0 else eb x) ∧ Fr (fun k => c k = .nds) w w' := by
 have hnew : nd u u.nx = none := nd_none.2 (fun k hk e => by have := h.rng k hk; omega)
 have hnew' : ∀ k ∈ u.L, k.ino ≠ u.nx := fun k hk e => by have := h.rng k hk; omega
 obtain ⟨w', q1, q2, q3⟩ := h.map.store Tryz.underlying63 hw (by omega) (.pointer (some ⟨b, 0, none⟩))
 have hf : Fr (fun k => c k = .nds) w w' := Fr.of_grown q3 (fun k hk => by obtain rfl := Option.some.inj hk; exact h.cm)
 have e0n : ndF u nb u.nx = none := by unfold ndF; rw [hnew]; rfl
 rw [e0n] at q2
 have nn : ∀ {k x}, c k = x → x ≠ .nds → ¬ c k = .nds := fun h1 h2 h3 => h2 (h1.symm.trans h3)
 have mem : ∀ {x}, x ∈ u.L ++ [n] → x ∈ u.L ∨ x = n := fun {x} hx => by
  rcases List.mem_append.1 hx with q | q
  ·exact .inl q
  ·exact .inr (List.mem_singleton.1 q)
 refine ⟨w', q1, ?_, hf⟩
 refine { h with box := (hf.block p (heap_lt h.box) (nn h.cp (by intro e; cases e))).trans h.box, map := ?_, nod := fun x hx => ?_, cn := fun x hx => ?_, ent := fun x hx hk => ?_, ce := fun x hx hk => ?_, low := fun b hb => Nat.lt_of_lt_of_le (h.low b hb) hf.size, ino := ?_, rng := fun x hx => ?_, kd := fun x hx => ?_ }
 ·show MpI w' m (u.L ++ [n]).length _
  rw [List.length_append]
  refine (show MpI w' m (u.L.length + 1) _ from q2).of (fun x => ?_)
  unfold ndF nd
  show ((u.L ++ [n]).find? _).map _ = _
  rw [List.find?_append]
  show Option.map (fun _ => Value.pointer (some ⟨if x = u.nx then b else nb x, 0, none⟩)) _ = _
  by_cases e : x = u.nx
  ·subst e
   rw [if_pos rfl, if_pos rfl]
   unfold nd at hnew
   rw [hnew, List.find?_cons_of_pos (by simpa using hi)]; rfl
  ·rw [if_neg e, if_neg e, List.find?_cons_of_neg (by simp [hi]; exact fun z => e z.symm)]
   simp
 ·rcases mem hx with hx | rfl
  ·have e := hnew' x hx
   rw [if_neg e, if_neg e, if_neg e, if_neg e]
   obtain ⟨v0, hv0⟩ := h.nod x hx
   exact ⟨v0, hv0.fr hf (nn (h.cn x hx) (by intro z; cases z)) (fun k hk => nn hk (by intro e; cases e))⟩
  ·rw [hi, if_pos rfl, if_pos rfl, if_pos rfl, if_pos rfl]
   exact ⟨v, hb.fr hf (nn hcb (by intro z; cases z)) (fun k hk => nn hk (by intro e; cases e))⟩
 ·rcases mem hx with hx | rfl
  ·rw [if_neg (hnew' x hx)]; exact h.cn x hx
  ·rw [hi, if_pos rfl]; exact hcb
 ·rcases mem hx with hx | rfl
  ·rw [if_neg (hnew' x hx)]
   exact (h.ent x hx hk).same (hf.block _ (h.ent x hx hk).lt (nn (h.ce x hx hk) (by intro z; cases z)))
  ·rw [hi, if_pos rfl]
   obtain ⟨m1, m2⟩ := he hk
   have := m1.same (hf.block _ m1.lt (nn m2 (by intro z; cases z)))
   show MpS w' e0 (kin u u.nx) _
   rw [hkin]
   refine this.of (fun y => ?_)
   show (en u u.nx y).map _ = _
   rw [hen y]; rfl
 ·rcases mem hx with hx | rfl
  ·rw [if_neg (hnew' x hx)]; exact h.ce x hx hk
  ·rw [hi, if_pos rfl]; exact (he hk).2
 ·show ((u.L ++ [n]).map Nod.ino).Nodup
  rw [List.map_append, List.nodup_append]
  refine ⟨h.ino, by simp, fun a ha b hb e => ?_⟩
  obtain ⟨x, hx, rfl⟩ := List.mem_map.1 ha
  simp at hb
  exact hnew' x hx (e.trans (hb.trans hi))
 ·show 1 ≤ x.ino ∧ x.ino < u.nx + 1
  rcases mem hx with hx | rfl
  ·have := h.rng x hx; omega
  ·rw [hi]; omega
 ·rcases mem hx with hx | rfl
  ·exact h.kd x hx
  ·exact hmy
theorem UB.delN (h : UB w p c q u lk pr m nb eb) {r : Int} {n : Nod} (hn : nd u r = some n) (hr : (Lit.int .i64 r).wf = true) (ty : TypeId) :
  ∃ w', (Builtin.delete_ #[63, 3] ty #[.map (some m), .int .i64 r]).run Tryz.prog w = .ok (.tuple #[]) w' ∧ UB w' p c q { u with L := u.L.filter (fun k => !decide (k.ino = r)) } lk pr m nb eb ∧ Fr (fun k => c k = .nds) w w' ∧ w'.heap.size = w.heap.size := by
 obtain ⟨n1, n2⟩ := nd_some hn
 obtain ⟨w', q1, q2, q3, q4⟩ := h.map.drop Tryz.underlying63 hr ty
 have hf : Fr (fun k => c k = .nds) w w' := Fr.of_grown q3 (fun k hk => by obtain rfl := Option.some.inj hk; exact h.cm)
 have e0n : (ndF u nb r).isSome = true := by unfold ndF; rw [hn]; rfl
 rw [if_pos e0n] at q2
 have nn : ∀ {k x}, c k = x → x ≠ .nds → ¬ c k = .nds := fun h1 h2 h3 => h2 (h1.symm.trans h3)
 have mem : ∀ {x}, x ∈ u.L.filter (fun k => !decide (k.ino = r)) → x ∈ u.L ∧ x.ino ≠ r := fun {x} hx => by
  obtain ⟨h1, h2⟩ := List.mem_filter.1 hx
  exact ⟨h1, by simpa using h2⟩
 refine ⟨w', q1, ?_, hf, q4⟩
 refine { h with box := (hf.block p (heap_lt h.box) (nn h.cp (by intro e; cases e))).trans h.box, map := ?_, nod := fun x hx => ?_, cn := fun x hx => h.cn x (mem hx).1, ent := fun x hx hk => ?_, ce := fun x hx hk => h.ce x (mem hx).1 hk, low := fun b hb => Nat.lt_of_lt_of_le (h.low b hb) hf.size, ino := (List.filter_sublist.map Nod.ino).nodup h.ino, rng := fun x hx => h.rng x (mem hx).1, kd := fun x hx => h.kd x (mem hx).1 }
 ·have hlen : (u.L.filter (fun k => !decide (k.ino = r))).length = u.L.length - 1 := by
   have hh := h.ino
   clear h q2 mem hf q3
   have key : ∀ l : List Nod, (l.map Nod.ino).Nodup → n ∈ l → (l.filter (fun k => !decide (k.ino = r))).length + 1 = l.length := by
    intro l
    induction l with
    | nil => intro _ hm; simp at hm
    | cons a t ih =>
     intro hnd hm
     rw [List.map_cons, List.nodup_cons] at hnd
     by_cases e : a.ino = r
     ·rw [List.filter_cons_of_neg (by simpa using e)]
      have : t.filter (fun k => !decide (k.ino = r)) = t := List.filter_eq_self.2 (fun k hk => by
       simp only [Bool.not_eq_true', decide_eq_false_iff_not]
       intro z
       exact hnd.1 (List.mem_map.2 ⟨k, hk, z.trans e.symm⟩))
      rw [this, List.length_cons]
     ·rw [List.filter_cons_of_pos (by simpa using e), List.length_cons, List.length_cons]
      rcases List.mem_cons.1 hm with z | z
      ·exact absurd (by rw [← z]; exact n2) e
      ·rw [ih hnd.2 z]
   have := key u.L hh n1
   omega
  show MpI w' m (u.L.filter _).length _
  rw [hlen]
  refine q2.of (fun x => ?_)
  unfold ndF nd
  show ((u.L.filter _).find? _).map _ = _
  rw [List.find?_filter]
  by_cases e : x = r
  ·rw [if_pos e, List.find?_eq_none.2 (fun k hk z => by
    simp only [Bool.not_eq_true', decide_eq_true_eq, decide_eq_false_iff_not] at z
    exact z.1 (z.2.trans e))]; rfl
  ·rw [if_neg e]
   refine congrArg (Option.map _) (find_congr fun k hk => ?_)
   rw [Bool.eq_iff_iff]
   simp only [Bool.not_eq_true', decide_eq_true_eq, decide_eq_false_iff_not]
   exact ⟨fun z => z.2, fun z => ⟨fun z2 => e (z.symm.trans z2), z⟩⟩
 ·obtain ⟨v0, hv0⟩ := h.nod x (mem hx).1
  exact ⟨v0, hv0.fr hf (nn (h.cn x (mem hx).1) (by intro z; cases z)) (fun k hk => nn hk (by intro e; cases e))⟩
 ·exact (h.ent x (mem hx).1 hk).same (hf.block _ (h.ent x (mem hx).1 hk).lt (nn (h.ce x (mem hx).1 hk) (by intro z; cases z)))
end
end Upr
end Go.Proofs.YtbmeapehgajbkaaGreat
namespace Go.Proofs.YtbmeapehgajbkaaGreat
open Nam Tre
namespace Upr
theorem mk_ok {u : Us} {d : Int} {s : ByteArray} {n : Nod} (h1 : frs u d s = 0) (h2 : mayU n = true) : mk u d s n = ((u.nx, 0), ⟨u.L ++ [{ n with names := [], opq := false, ino := u.nx }], u.E ++ [⟨d, s, u.nx⟩], u.nx + 1⟩) := by
 unfold mk; rw [if_neg (by rw [h1]; simp), if_neg (by rw [h2]; simp)]
end Upr
end Go.Proofs.YtbmeapehgajbkaaGreat
namespace Go.Proofs.YtbmeapehgajbkaaGreat
open Nam Tre
namespace Upr
end Upr
end Go.Proofs.YtbmeapehgajbkaaGreat
namespace Go.Proofs.YtbmeapehgajbkaaGreat
open Go.RowKit Go.Maps
open Nam
theorem cmp_nil_left (k : List (List UInt8)) : cmp [] k = if 0 < k.length then -1 else 0 := by cases k <;> simp [cmp]
theorem drop_all {l : List ByteArray} {i : Nat} (h : l.length ≤ i) : (nm l).drop i = [] := List.drop_eq_nil_of_le (by rw [nm_length]; exact h)
set_option maxRecDepth 100000 in
theorem Compare_any (a b : Option Addr) (n c m d : Nat) (l k : List ByteArray) (w : World) (hl : Rs w a n l) (hk : Rs w b m k) (hn : n ≤ 1000000) (hm : m ≤ 1000000) :
  Calls Tryz.prog 20 #[.slice a n c, .slice b m d] w fun e w' => e = .returned (.int .i64 (cmp (nm l) (nm k))) ∧ ∃ q, w' = w.drewN q := by
 have HL := hide hl
 have HK := hide hk
 have hln := hl.1
 have hkn := hk.1
 have HLN := hide hln
 have HKN := hide hkn
 clear hl hk hln hkn
 go_enter Tryz.func20, Tryz.ntmps20
 go_wp2
 go_loopw [5, 6, 7, 8, 11] (fun _ _ _ _ r wr => ∃ i : Nat, wr = w ∧ r = .int .i64 i ∧ i ≤ n ∧ cmp (nm l) (nm k) = cmp ((nm l).drop i) ((nm k).drop i)) (fun _ _ _ _ r _ => n - (intOf r).toNat)
 case atStart => exact ⟨0, rfl, rfl, Nat.zero_le _, rfl⟩
 case round =>
  obtain ⟨i, rfl, rfl, hi0, hinv⟩ := hrel
  have HI := hide hinv
  clear hinv
  by_cases hp : i < n
  ·have hd : decide ((i : Int) < n) = true := by simpa using hp
   obtain ⟨ba, oa, rfl, hba, hca⟩ := HL.out.at (by omega)
   have c1 := hca i hp
   have e1 := nm_drop l i (by rw [HLN.out]; exact hp)
   have E1 := hide e1
   clear hca e1
   by_cases hq : i < m
   ·have hd2 : decide ((m : Int) ≤ i) = false := by simp; omega
    obtain ⟨bb, ob, rfl, hbb, hcb⟩ := HK.out.at (by omega)
    have c2 := hcb i hq
    have e2 := nm_drop k i (by rw [HKN.out]; exact hq)
    have E2 := hide e2
    clear hcb e2
    go_wp2_with (go_at_call 40; refine (cmp_any _ _ _).mono ?_; rintro e w' ⟨rfl, rfl⟩)
    ·have e : (cmp1 (gs l i).toList (gs k i).toList != 0) = true := by assumption
     go_ret
     refine ⟨ret_int ?_, 0, rfl⟩
     rw [HI.out, E1.out, E2.out, cmp, if_neg (by simpa using e)]
    ·have e : (cmp1 (gs l i).toList (gs k i).toList != 0) = false := by assumption
     refine ⟨⟨i + 1, trivial, by go_num, by omega, ?_⟩, by simp [intOf]; omega⟩
     rw [HI.out, E1.out, E2.out, cmp, if_pos (by simpa using e)]
   ·have hd2 : decide ((m : Int) ≤ i) = true := by simp; omega
    go_wp2
    go_ret
    refine ⟨ret_int ?_, 0, rfl⟩
    rw [HI.out, E1.out, drop_all (l := k) (by rw [HKN.out]; omega)]; rfl
  ·have hd : decide ((i : Int) < n) = false := by simpa using hp
   have e := cmp_nil_left ((nm k).drop i)
   rw [← drop_all (l := l) (i := i) (by rw [HLN.out]; omega), List.length_drop, nm_length, HKN.out] at e
   have E := hide e
   clear e
   go_wp2
   ·have h : n < m := by assumption
    go_ret
    refine ⟨ret_int ?_, 0, rfl⟩
    rw [HI.out, E.out, if_pos (by omega)]
   ·have h : ¬ n < m := by assumption
    go_ret
    refine ⟨ret_int ?_, 0, rfl⟩
    rw [HI.out, E.out, if_neg (by omega)]
end Go.Proofs.YtbmeapehgajbkaaGreat
namespace Go.Proofs.YtbmeapehgajbkaaGreat
set_option maxRecDepth 100000
open Go.RowKit Go.Maps
open Nam Tre
theorem neql_nil (w : World) (a : Option Addr) (n c : Nat) : (binOp .eql 22 (.slice a n c) (.slice none 0 0)).run Tryz.prog w = .ok (.bool a.isNone) w := by
 simp only [binOp]
 simp [run_equal_slice_nil w 22 44 a n c Tryz.underlying22]
theorem CloneNds_any (a : Option Addr) (n c : Nat) (L : List (Nv × Nod)) (w : World) (hl : Ns w a n L) (hc : n ≤ c) (hcm : c ≤ 9223372036854775807) (hnil : a = none → c = 0) (hn : n ≤ 100000) :
  Calls Tryz.prog 17 #[.slice a n c] w fun e w' => ∃ ao c', e = .returned (.slice ao n c') ∧ w'.ownsRow w.heap.size 44 10 (.slice ao n c') n (nvs (L.map (·.1))) ∧ Below w.heap.size w w' := by
 have HL := hide hl.sh
 have HLN := hide hl.1
 have HNI := hide hnil
 cases a with
 | none =>
  have hc0 := hnil rfl
  have hn0 : n = 0 := by omega
  subst hc0
  subst hn0
  have HE : Hid (L = []) := List.eq_nil_of_length_eq_zero HLN.out
  clear hl hnil
  have hq : ∀ w : World, (binOp .eql 22 (.slice none 0 0) (.slice none 0 0)).run Tryz.prog w = .ok (.bool true) w := fun w => neql_nil w none 0 0
  go_enter Tryz.func17, Tryz.ntmps17
  go_wp2
  go_ret
  exact ⟨none, 0, rfl, by rw [HE.out]; exact nilN _ _, Below.refl _ _⟩
 | some ad =>
  clear hl hnil
  have hq : ∀ w : World, (binOp .eql 22 (.slice (some ad) n c) (.slice none 0 0)).run Tryz.prog w = .ok (.bool false) w := fun w => neql_nil w (some ad) n c
  go_enter Tryz.func17, Tryz.ntmps17
  go_wp2_with (at_builtin; refine wpList_append_nod _ rfl _ _ rfl w.heap.size _ _ _ [] rfl (emptyN (Nat.le_refl _)) _ _ _ _ rfl (HL.out.below (below_one _ _)) (fun h => by cases h) (by omega) (by simp) ?_)
  intro ao2 k2 w2 ho hg
  have HB := hide ((below_one w (.cells #[] 44)).grown hg (by simp) (fun k e => by simp [Value.ownBlock] at e; omega))
  have HO := hide ho
  clear ho hg
  go_wp2
  go_ret
  exact ⟨_, _, rfl, HO.out, HB.out⟩
end Go.Proofs.YtbmeapehgajbkaaGreat
namespace Go.Proofs.YtbmeapehgajbkaaGreat
open Nam Tre Upr
namespace Brn
theorem nx_pos {u : Us} (h : Wf u) : 1 < u.nx := by
 obtain ⟨n, h1, h2, _⟩ := h.root
 have := (h.rng n h1).2
 omega
theorem en_out {u : Us} {d : Int} {s : ByteArray} (h : en u d s = none) : ∀ x ∈ u.E, ¬ (x.dir = d ∧ x.nam = s) := fun x hx => by
 unfold en at h
 rw [List.find?_eq_none] at h
 simpa using h x hx
theorem less_app {u : Us} {s : ByteArray} (h : en u 1 s = none) (r : Int) : less1 (u.E ++ [⟨1, s, r⟩]) 1 s = u.E := by
 unfold less1
 rw [List.filter_append, List.filter_eq_self.2 (fun x hx => by
  rw [Bool.not_eq_true', decide_eq_false_iff_not]
  exact en_out h x hx)]
 simp
theorem mk_rm {u : Us} (h : Wf u) {s : ByteArray} {n : Nod} (hf : frs u 1 s = 0) (hm : mayU n = true) : rm (mk u 1 s n).2 1 s = (0, ⟨u.L, u.E, u.nx + 1⟩) := by
 have hnx := nx_pos h
 rw [mk_ok hf hm]
 unfold frs at hf
 split at hf
 ·rename_i q; exact absurd hf q
 rename_i q1
 split at hf
 ·rename_i q; exact absurd hf q
 split at hf
 ·cases hf
 rename_i q3
 have hen : en u 1 s = none := by
  cases e : en u 1 s with
  | none => rfl
  | some x => exact absurd (by rw [e]; rfl) q3
 have hd0 : dirE u 1 = 0 := Decidable.not_not.1 q1
 obtain ⟨N, hN⟩ : ∃ N : Nod, N = { n with names := [], opq := false, ino := u.nx } := ⟨_, rfl⟩
 have hNi : N.ino = u.nx := by rw [hN]
 show rm ⟨u.L ++ [{ n with names := [], opq := false, ino := u.nx }], u.E ++ [⟨1, s, u.nx⟩], u.nx + 1⟩ 1 s = _
 rw [← hN]
 obtain ⟨u', hu'⟩ : ∃ u' : Us, u' = ⟨u.L ++ [N], u.E ++ [⟨1, s, u.nx⟩], u.nx + 1⟩ := ⟨_, rfl⟩
 rw [← hu']
 have hd : dirE u' 1 = 0 := by
  have e : nd u' 1 = nd u 1 := by
   rw [hu']
   unfold nd
   rw [List.find?_append]
   cases e : u.L.find? (fun n => decide (n.ino = 1)) with
   | some x => rfl
   | none =>
    obtain ⟨r, r1, r2, _⟩ := h.root
    exact absurd r2 (by have := List.find?_eq_none.1 e r r1; simpa using this)
  unfold dirE at hd0 ⊢
  rw [e]; exact hd0
 have he : en u' 1 s = some ⟨1, s, u.nx⟩ := by
  rw [hu']
  unfold en at hen ⊢
  rw [List.find?_append, hen]
  simp
 have hdir : ∀ x ∈ u.E, x.dir ≠ u.nx := fun x hx e => by
  obtain ⟨m, m1, m2, _⟩ := h.dir x hx
  have := (h.rng m m1).2
  omega
 have href : ∀ x ∈ u.E, x.ref ≠ u.nx := fun x hx e => by
  obtain ⟨_, m, m1, m2⟩ := h.ref x hx
  have := (h.rng m m1).2
  omega
 have hany : u'.E.any (fun x => decide (x.dir = u.nx) && !decide (knd u' x.ref = 4)) = false := by
  rw [List.any_eq_false]
  intro x hx
  rw [hu'] at hx
  rcases List.mem_append.1 hx with hx | hx
  ·simp [hdir x hx]
  ·rw [List.mem_singleton] at hx
   rw [hx]
   have : ¬ (1 : Int) = u.nx := by omega
   simp [this]
 unfold rm
 rw [if_neg (by rw [hd]; simp), he]
 simp only
 rw [hany, if_neg (by simp)]
 have hl : less1 u'.E 1 s = u.E := by rw [hu']; exact less_app hen _
 unfold drop
 simp only
 rw [hl, if_neg (by
  rw [Bool.not_eq_true, List.any_eq_false]
  intro x hx
  simpa using href x hx)]
 have hE : u.E.filter (fun x => !decide (x.dir = u.nx)) = u.E := List.filter_eq_self.2 (fun x hx => by simpa using hdir x hx)
 rw [hE]
 have hL : u'.L.filter (fun n => decide (n.ino = 1) || u.E.any (fun x => decide (x.ref = n.ino))) = u.L := by
  rw [hu']
  show (u.L ++ [N]).filter _ = _
  rw [List.filter_append, List.filter_eq_self.2 (fun m hm => ?_)]
  ·rw [List.filter_cons_of_neg ?_]
   ·simp
   ·rw [hNi]
    simp only [Bool.or_eq_true, decide_eq_true_eq, not_or]
    refine ⟨by omega, ?_⟩
    rw [Bool.not_eq_true, List.any_eq_false]
    intro x hx
    simpa using href x hx
  ·by_cases e : m.ino = 1
   ·simp [e]
   ·obtain ⟨x, x1, x2⟩ := h.has m hm e
    rw [Bool.or_eq_true]
    exact .inr (List.any_eq_true.2 ⟨x, x1, by simpa using x2⟩)
 rw [hL, hu']
theorem nd_new {u : Us} (h : Wf u) {N : Nod} (hN : N.ino = u.nx) (E : List En) (x : Int) : nd ⟨u.L ++ [N], E, x⟩ u.nx = some N := by
 unfold nd
 rw [List.find?_append]
 have : u.L.find? (fun n => decide (n.ino = u.nx)) = none := by
  rw [List.find?_eq_none]
  intro n hn
  have := (h.rng n hn).2
  simp
  omega
 rw [this]
 simp [hN]
theorem mk_cases (u : Us) (s : ByteArray) (n : Nod) : ((mk u 1 s n).1.2 ≠ 0 ∧ (mk u 1 s n).1.1 = 0 ∧ (mk u 1 s n).2 = u) ∨ (frs u 1 s = 0 ∧ mayU n = true ∧ (mk u 1 s n).1 = (u.nx, 0)) := by
 unfold mk
 by_cases h1 : frs u 1 s = 0
 ·rw [if_neg (by simpa using h1)]
  cases h2 : mayU n with
  | false => exact .inl ⟨by simp, by simp, by simp⟩
  | true => exact .inr ⟨h1, rfl, by simp⟩
 ·rw [if_pos h1]
  exact .inl ⟨h1, rfl, rfl⟩
theorem found_mk {u : Us} (h : Wf u) {s : ByteArray} {n : Nod} {e : En} (he : en u 1 s = some e) : (mk u 1 s n).1.2 = 21 ∧ (mk u 1 s n).2 = u := by
 have hd : dirE u 1 = 0 := by
  obtain ⟨r, r1, r2, r3⟩ := h.root
  have : nd u 1 = some r := by have := nd_mem h.ino r1; rw [r2] at this; exact this
  unfold dirE; rw [this]; simp [r3]
 have hv : valid s.toList = 0 := by
  unfold en at he
  have h1 := List.mem_of_find?_eq_some he
  have h2 := List.find?_some he
  have := h.nam e h1
  simp at h2
  rw [h2.2] at this; exact this
 have hfr : frs u 1 s = 21 := by unfold frs; rw [if_neg (by rw [hd]; simp), if_neg (by rw [hv]; simp), if_pos (by rw [he]; rfl)]
 unfold mk
 rw [if_pos (by rw [hfr]; simp), hfr]
 exact ⟨rfl, rfl⟩
end Brn
end Go.Proofs.YtbmeapehgajbkaaGreat
namespace Go.Proofs.YtbmeapehgajbkaaGreat
open Go.RowKit Go.Maps
open Nam Tre
namespace Tre
def cut18 (n : Nod) : Nod := { n with names := n.names.take 18, data := n.data.take 1500, xs := n.xs.take 10 }
end Tre
def cutv18 (v : Nv) : Nv := { v with nn := min v.nn 18, dn := min v.dn 1500, xn := min v.xn 10 }
theorem rep_cut18 {w : World} {v : Nv} {n : Nod} (h : Rep w v n) : Rep w (cutv18 v) (Tre.cut18 n) where
 names := by
  have := h.names.take (min v.nn 18) (by omega)
  have e : n.names.take (min v.nn 18) = n.names.take 18 := by rw [← h.names.1, Nat.min_comm, ← List.take_take, List.take_length]
  rw [e] at this; exact this
 nc := by have := h.nc; show min v.nn 18 ≤ v.nc; omega
 ncm := h.ncm
 nnil := h.nnil
 ino := h.ino
 in64 := h.in64
 kind := h.kind
 mode := h.mode
 uid := h.uid
 gid := h.gid
 data := by
  have := h.data.take (min v.dn 1500) (by omega)
  have e : n.data.take (min v.dn 1500) = n.data.take 1500 := by rw [← h.data.1, Nat.min_comm, ← List.take_take, List.take_length]
  rw [e] at this; exact this
 dc := by have := h.dc; show min v.dn 1500 ≤ v.dc; omega
 dcm := h.dcm
 dnil := h.dnil
 tg := h.tg
 tgm := h.tgm
 xs := by
  have := h.xs.take (min v.xn 10) (by omega)
  have e : n.xs.take (min v.xn 10) = n.xs.take 10 := by rw [← h.xs.1, Nat.min_comm, ← List.take_take, List.take_length]
  rw [e] at this; exact this
 xc := by have := h.xc; show min v.xn 10 ≤ v.xc; omega
 xcm := h.xcm
 xnil := h.xnil
 op := h.op
def fewL18 (L : List (Nv × Nod)) : List (Nv × Nod) := (L.take 40).map (fun p => (cutv18 p.1, Tre.cut18 p.2))
theorem fewL18_length (L : List (Nv × Nod)) : (fewL18 L).length = min 40 L.length := by simp [fewL18]
theorem fewL18_rep {w : World} {L : List (Nv × Nod)} (h : ∀ p ∈ L, Rep w p.1 p.2) : ∀ p ∈ fewL18 L, Rep w p.1 p.2 := by
 intro p hp
 simp only [fewL18, List.mem_map] at hp
 obtain ⟨q, hq, rfl⟩ := hp
 exact rep_cut18 (h q (List.mem_of_mem_take hq))
theorem fewL18_take (L : List (Nv × Nod)) (i : Nat) (h : i < L.length) (h2 : i < 40) : ((fewL18 L).take (i + 1)).map (·.1) = ((fewL18 L).take i).map (·.1) ++ [cutv18 (gl L i).1] := by
 rw [List.take_succ_eq_append_getElem (by rw [fewL18_length]; omega), List.map_append, gl_lt L i h]
 simp [fewL18]
set_option maxRecDepth 100000 in
set_option maxHeartbeats 1000000 in
theorem few18_any (a : Option Addr) (n c : Nat) (L : List (Nv × Nod)) (w : World) (hl : Ns w a n L) (hc : n ≤ c) (hcm : c ≤ 9223372036854775807) :
  Calls Tryz.prog 5 #[.slice a n c] w fun e w' => ∃ ao k c', e = .returned (.slice ao k c') ∧ k ≤ 40 ∧ w'.ownsRow w.heap.size 44 10 (.slice ao k c') k (nvs ((fewL18 L).map (·.1))) ∧ Ns w' ao k (fewL18 L) ∧ Below w.heap.size w w' := by
 have HL := hide hl
 have HLN := hide hl.1
 clear hl
 go_enter Tryz.func5, Tryz.ntmps5
 go_wp2
 go_loopw [3, 4, 5] (fun r3 r _ wr => ∃ (i : Nat) (ao : Option Addr) (c' : Nat), r3 = .slice ao i c' ∧ r = .int .i64 i ∧ i ≤ n ∧ i ≤ 40 ∧ w.heap.size < wr.heap.size ∧ wr.ownsRow w.heap.size 44 10 (.slice ao i c') i (nvs (((fewL18 L).take i).map (·.1))) ∧ Below w.heap.size w wr) (fun _ r _ _ => n - (intOf r).toNat)
 case atStart => exact ⟨0, _, _, rfl, rfl, Nat.zero_le _, by omega, by simp, emptyN (Nat.le_refl _), (Below.refl _ _).alloc (Nat.le_refl _) _⟩
 case round =>
  obtain ⟨i, ao, c', rfl, rfl, hi0, hi60, hsz, hown, hbel⟩ := hrel
  have HB := hide hbel
  have HO := hide hown
  by_cases hi : i < n
  ·have hd : decide ((i : Int) < n) = true := by simpa using hi
   by_cases h60 : i < 40
   ·have hd2 : decide ((i : Int) < 40) = true := by simp; omega
    obtain ⟨ba, oa, rfl, hba, hca⟩ := (HL.out.below hbel).at (by omega)
    obtain ⟨c0, c1, c2, c3, c4, c5, c6, c7, c8, c9⟩ := hca i hi
    have hr := HL.out.rep i hi
    have HT := hide (fewL18_take L i (by rw [HLN.out]; exact hi) h60)
    have x1 := hr.nc
    have x2 := hr.ncm
    have x3 := hr.dc
    have x4 := hr.dcm
    have x5 := hr.xc
    have x6 := hr.xcm
    generalize (gl L i).1 = v at *
    obtain ⟨V, hV⟩ : ∃ V, V = ((fewL18 L).take i).map (·.1) := ⟨_, rfl⟩
    rw [← hV] at hown HT
    have HO2 := hide hown
    clear hca hr hown hbel HO hV
    by_cases h1 : 18 < v.nn
    all_goals by_cases h2 : 1500 < v.dn
    all_goals by_cases h3 : 10 < v.xn
    ·have HCV : Hid (cutv18 v = ⟨v.na, 18, v.nc, v.ino, v.kind, v.mode, v.uid, v.gid, v.da, 1500, v.dc, v.tg, v.xa, 10, v.xc, v.op⟩) := by show _ = _; simp only [cutv18]; congr 1 <;> omega
     have g1 : (18 : Int) < v.nn := by omega
     have g2 : (1500 : Int) < v.dn := by omega
     have g3 : (10 : Int) < v.xn := by omega
     rw [HCV.out] at HT
     go_wp2_with (at_builtin; refine wpList_append_nod _ rfl _ _ rfl w.heap.size _ _ _ V rfl ((HO2.out.alloc _).alloc _) _ _ _ _ rfl (sh_one' (v := ⟨v.na, 18, v.nc, v.ino, v.kind, v.mode, v.uid, v.gid, v.da, 1500, v.dc, v.tg, v.xa, 10, v.xc, v.op⟩) (by simp)) (fun h => by cases h) (by omega) (by simp; omega) ?_)
     intro ao2 k2 w2 hown2 hg2
     rw [← HT.out] at hown2
     have e2 := hide (((HB.out.alloc (by omega) _).alloc (by simp; omega) _).grown hg2 (by simp; omega) (fun k e => (HO2.out.lt k e).1))
     have s2 := hg2.size
     simp only [World.size_alloc] at s2
     have HO3 := hide hown2
     clear hown2 hg2 HCV HT
     go_wp2
     exact ⟨⟨i + 1, ao2, k2, rfl, by go_num, by omega, by omega, by omega, HO3.out, e2.out⟩, by simp [intOf]; omega⟩
    ·have HCV : Hid (cutv18 v = ⟨v.na, 18, v.nc, v.ino, v.kind, v.mode, v.uid, v.gid, v.da, 1500, v.dc, v.tg, v.xa, v.xn, v.xc, v.op⟩) := by show _ = _; simp only [cutv18]; congr 1 <;> omega
     have g1 : (18 : Int) < v.nn := by omega
     have g2 : (1500 : Int) < v.dn := by omega
     have g3 : ¬ (10 : Int) < v.xn := by omega
     rw [HCV.out] at HT
     go_wp2_with (at_builtin; refine wpList_append_nod _ rfl _ _ rfl w.heap.size _ _ _ V rfl ((HO2.out.alloc _).alloc _) _ _ _ _ rfl (sh_one' (v := ⟨v.na, 18, v.nc, v.ino, v.kind, v.mode, v.uid, v.gid, v.da, 1500, v.dc, v.tg, v.xa, v.xn, v.xc, v.op⟩) (by simp)) (fun h => by cases h) (by omega) (by simp; omega) ?_)
     intro ao2 k2 w2 hown2 hg2
     rw [← HT.out] at hown2
     have e2 := hide (((HB.out.alloc (by omega) _).alloc (by simp; omega) _).grown hg2 (by simp; omega) (fun k e => (HO2.out.lt k e).1))
     have s2 := hg2.size
     simp only [World.size_alloc] at s2
     have HO3 := hide hown2
     clear hown2 hg2 HCV HT
     go_wp2
     exact ⟨⟨i + 1, ao2, k2, rfl, by go_num, by omega, by omega, by omega, HO3.out, e2.out⟩, by simp [intOf]; omega⟩
    ·have HCV : Hid (cutv18 v = ⟨v.na, 18, v.nc, v.ino, v.kind, v.mode, v.uid, v.gid, v.da, v.dn, v.dc, v.tg, v.xa, 10, v.xc, v.op⟩) := by show _ = _; simp only [cutv18]; congr 1 <;> omega
     have g1 : (18 : Int) < v.nn := by omega
     have g2 : ¬ (1500 : Int) < v.dn := by omega
     have g3 : (10 : Int) < v.xn := by omega
     rw [HCV.out] at HT
     go_wp2_with (at_builtin; refine wpList_append_nod _ rfl _ _ rfl w.heap.size _ _ _ V rfl ((HO2.out.alloc _).alloc _) _ _ _ _ rfl (sh_one' (v := ⟨v.na, 18, v.nc, v.ino, v.kind, v.mode, v.uid, v.gid, v.da, v.dn, v.dc, v.tg, v.xa, 10, v.xc, v.op⟩) (by simp)) (fun h => by cases h) (by omega) (by simp; omega) ?_)
     intro ao2 k2 w2 hown2 hg2
     rw [← HT.out] at hown2
     have e2 := hide (((HB.out.alloc (by omega) _).alloc (by simp; omega) _).grown hg2 (by simp; omega) (fun k e => (HO2.out.lt k e).1))
     have s2 := hg2.size
     simp only [World.size_alloc] at s2
     have HO3 := hide hown2
     clear hown2 hg2 HCV HT
     go_wp2
     exact ⟨⟨i + 1, ao2, k2, rfl, by go_num, by omega, by omega, by omega, HO3.out, e2.out⟩, by simp [intOf]; omega⟩
    ·have HCV : Hid (cutv18 v = ⟨v.na, 18, v.nc, v.ino, v.kind, v.mode, v.uid, v.gid, v.da, v.dn, v.dc, v.tg, v.xa, v.xn, v.xc, v.op⟩) := by show _ = _; simp only [cutv18]; congr 1 <;> omega
     have g1 : (18 : Int) < v.nn := by omega
     have g2 : ¬ (1500 : Int) < v.dn := by omega
     have g3 : ¬ (10 : Int) < v.xn := by omega
     rw [HCV.out] at HT
     go_wp2_with (at_builtin; refine wpList_append_nod _ rfl _ _ rfl w.heap.size _ _ _ V rfl ((HO2.out.alloc _).alloc _) _ _ _ _ rfl (sh_one' (v := ⟨v.na, 18, v.nc, v.ino, v.kind, v.mode, v.uid, v.gid, v.da, v.dn, v.dc, v.tg, v.xa, v.xn, v.xc, v.op⟩) (by simp)) (fun h => by cases h) (by omega) (by simp; omega) ?_)
     intro ao2 k2 w2 hown2 hg2
     rw [← HT.out] at hown2
     have e2 := hide (((HB.out.alloc (by omega) _).alloc (by simp; omega) _).grown hg2 (by simp; omega) (fun k e => (HO2.out.lt k e).1))
     have s2 := hg2.size
     simp only [World.size_alloc] at s2
     have HO3 := hide hown2
     clear hown2 hg2 HCV HT
     go_wp2
     exact ⟨⟨i + 1, ao2, k2, rfl, by go_num, by omega, by omega, by omega, HO3.out, e2.out⟩, by simp [intOf]; omega⟩
    ·have HCV : Hid (cutv18 v = ⟨v.na, v.nn, v.nc, v.ino, v.kind, v.mode, v.uid, v.gid, v.da, 1500, v.dc, v.tg, v.xa, 10, v.xc, v.op⟩) := by show _ = _; simp only [cutv18]; congr 1 <;> omega
     have g1 : ¬ (18 : Int) < v.nn := by omega
     have g2 : (1500 : Int) < v.dn := by omega
     have g3 : (10 : Int) < v.xn := by omega
     rw [HCV.out] at HT
     go_wp2_with (at_builtin; refine wpList_append_nod _ rfl _ _ rfl w.heap.size _ _ _ V rfl ((HO2.out.alloc _).alloc _) _ _ _ _ rfl (sh_one' (v := ⟨v.na, v.nn, v.nc, v.ino, v.kind, v.mode, v.uid, v.gid, v.da, 1500, v.dc, v.tg, v.xa, 10, v.xc, v.op⟩) (by simp)) (fun h => by cases h) (by omega) (by simp; omega) ?_)
     intro ao2 k2 w2 hown2 hg2
     rw [← HT.out] at hown2
     have e2 := hide (((HB.out.alloc (by omega) _).alloc (by simp; omega) _).grown hg2 (by simp; omega) (fun k e => (HO2.out.lt k e).1))
     have s2 := hg2.size
     simp only [World.size_alloc] at s2
     have HO3 := hide hown2
     clear hown2 hg2 HCV HT
     go_wp2
     exact ⟨⟨i + 1, ao2, k2, rfl, by go_num, by omega, by omega, by omega, HO3.out, e2.out⟩, by simp [intOf]; omega⟩
    ·have HCV : Hid (cutv18 v = ⟨v.na, v.nn, v.nc, v.ino, v.kind, v.mode, v.uid, v.gid, v.da, 1500, v.dc, v.tg, v.xa, v.xn, v.xc, v.op⟩) := by show _ = _; simp only [cutv18]; congr 1 <;> omega
     have g1 : ¬ (18 : Int) < v.nn := by omega
     have g2 : (1500 : Int) < v.dn := by omega
     have g3 : ¬ (10 : Int) < v.xn := by omega
     rw [HCV.out] at HT
     go_wp2_with (at_builtin; refine wpList_append_nod _ rfl _ _ rfl w.heap.size _ _ _ V rfl ((HO2.out.alloc _).alloc _) _ _ _ _ rfl (sh_one' (v := ⟨v.na, v.nn, v.nc, v.ino, v.kind, v.mode, v.uid, v.gid, v.da, 1500, v.dc, v.tg, v.xa, v.xn, v.xc, v.op⟩) (by simp)) (fun h => by cases h) (by omega) (by simp; omega) ?_)
     intro ao2 k2 w2 hown2 hg2
     rw [← HT.out] at hown2
     have e2 := hide (((HB.out.alloc (by omega) _).alloc (by simp; omega) _).grown hg2 (by simp; omega) (fun k e => (HO2.out.lt k e).1))
     have s2 := hg2.size
     simp only [World.size_alloc] at s2
     have HO3 := hide hown2
     clear hown2 hg2 HCV HT
     go_wp2
     exact ⟨⟨i + 1, ao2, k2, rfl, by go_num, by omega, by omega, by omega, HO3.out, e2.out⟩, by simp [intOf]; omega⟩
    ·have HCV : Hid (cutv18 v = ⟨v.na, v.nn, v.nc, v.ino, v.kind, v.mode, v.uid, v.gid, v.da, v.dn, v.dc, v.tg, v.xa, 10, v.xc, v.op⟩) := by show _ = _; simp only [cutv18]; congr 1 <;> omega
     have g1 : ¬ (18 : Int) < v.nn := by omega
     have g2 : ¬ (1500 : Int) < v.dn := by omega
     have g3 : (10 : Int) < v.xn := by omega
     rw [HCV.out] at HT
     go_wp2_with (at_builtin; refine wpList_append_nod _ rfl _ _ rfl w.heap.size _ _ _ V rfl ((HO2.out.alloc _).alloc _) _ _ _ _ rfl (sh_one' (v := ⟨v.na, v.nn, v.nc, v.ino, v.kind, v.mode, v.uid, v.gid, v.da, v.dn, v.dc, v.tg, v.xa, 10, v.xc, v.op⟩) (by simp)) (fun h => by cases h) (by omega) (by simp; omega) ?_)
     intro ao2 k2 w2 hown2 hg2
     rw [← HT.out] at hown2
     have e2 := hide (((HB.out.alloc (by omega) _).alloc (by simp; omega) _).grown hg2 (by simp; omega) (fun k e => (HO2.out.lt k e).1))
     have s2 := hg2.size
     simp only [World.size_alloc] at s2
     have HO3 := hide hown2
     clear hown2 hg2 HCV HT
     go_wp2
     exact ⟨⟨i + 1, ao2, k2, rfl, by go_num, by omega, by omega, by omega, HO3.out, e2.out⟩, by simp [intOf]; omega⟩
    ·have HCV : Hid (cutv18 v = ⟨v.na, v.nn, v.nc, v.ino, v.kind, v.mode, v.uid, v.gid, v.da, v.dn, v.dc, v.tg, v.xa, v.xn, v.xc, v.op⟩) := by show _ = _; simp only [cutv18]; congr 1 <;> omega
     have g1 : ¬ (18 : Int) < v.nn := by omega
     have g2 : ¬ (1500 : Int) < v.dn := by omega
     have g3 : ¬ (10 : Int) < v.xn := by omega
     rw [HCV.out] at HT
     go_wp2_with (at_builtin; refine wpList_append_nod _ rfl _ _ rfl w.heap.size _ _ _ V rfl ((HO2.out.alloc _).alloc _) _ _ _ _ rfl (sh_one' (v := ⟨v.na, v.nn, v.nc, v.ino, v.kind, v.mode, v.uid, v.gid, v.da, v.dn, v.dc, v.tg, v.xa, v.xn, v.xc, v.op⟩) (by simp)) (fun h => by cases h) (by omega) (by simp; omega) ?_)
     intro ao2 k2 w2 hown2 hg2
     rw [← HT.out] at hown2
     have e2 := hide (((HB.out.alloc (by omega) _).alloc (by simp; omega) _).grown hg2 (by simp; omega) (fun k e => (HO2.out.lt k e).1))
     have s2 := hg2.size
     simp only [World.size_alloc] at s2
     have HO3 := hide hown2
     clear hown2 hg2 HCV HT
     go_wp2
     exact ⟨⟨i + 1, ao2, k2, rfl, by go_num, by omega, by omega, by omega, HO3.out, e2.out⟩, by simp [intOf]; omega⟩
   ·have hd2 : decide ((i : Int) < 40) = false := by simp; omega
    have HF : Hid (i = 40) := by show _ = _; omega
    have HN : Hid (wr.ownsRow w.heap.size 44 10 (.slice ao i c') i (nvs ((fewL18 L).map (·.1))) ∧ Ns wr ao i (fewL18 L)) := by
     have e : (fewL18 L).take i = fewL18 L := List.take_of_length_le (by rw [fewL18_length]; omega)
     rw [e] at hown
     exact ⟨hown, (sh_of_owns hown).ns (fewL18_rep (HL.out.below hbel).2.1)⟩
    clear hown hbel HO
    go_wp2
    go_ret
    exact ⟨ao, i, c', rfl, by omega, HN.out.1, HN.out.2, HB.out⟩
  ·have hd : decide ((i : Int) < n) = false := by simpa using hi
   have HN : Hid (wr.ownsRow w.heap.size 44 10 (.slice ao i c') i (nvs ((fewL18 L).map (·.1))) ∧ Ns wr ao i (fewL18 L)) := by
    have e : (fewL18 L).take i = fewL18 L := List.take_of_length_le (by rw [fewL18_length, HLN.out]; omega)
    rw [e] at hown
    exact ⟨hown, (sh_of_owns hown).ns (fewL18_rep (HL.out.below hbel).2.1)⟩
   clear hown hbel HO
   go_wp2
   go_ret
   exact ⟨ao, i, c', rfl, by omega, HN.out.1, HN.out.2, HB.out⟩
end Go.Proofs.YtbmeapehgajbkaaGreat

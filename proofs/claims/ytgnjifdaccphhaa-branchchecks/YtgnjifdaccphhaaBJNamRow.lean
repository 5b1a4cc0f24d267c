import Derived.Test.YtgnjifdaccphhaaBNamVal
import Derived.Deep.Strs
import Derived.ProofKit
import Derived.Lib.OthersKept
set_option linter.unusedVariables false
namespace Go.Proofs.Ytgnjifdaccphhaa
open Go.RowKit Go.Maps Go.ChangeShapes Go.WideShapes Go.ChangeAt
def gs (l : List ByteArray) (i : Nat) : ByteArray := l.getD i ⟨#[]⟩
theorem gs_lt (l : List ByteArray) (i : Nat) (h : i < l.length) : gs l i = l[i] := by simp [gs, h]
theorem gs_take (l : List ByteArray) (k i : Nat) (h : i < k) : gs (l.take k) i = gs l i := by simp [gs, h]
def nm (l : List ByteArray) : List (List UInt8) := l.map ByteArray.toList
theorem nm_length (l : List ByteArray) : (nm l).length = l.length := by simp [nm]
theorem nm_append (l m : List ByteArray) : nm (l ++ m) = nm l ++ nm m := by simp [nm]
theorem nm_drop (l : List ByteArray) (i : Nat) (h : i < l.length) : (nm l).drop i = (gs l i).toList :: (nm l).drop (i + 1) := by
 rw [List.drop_eq_getElem_cons (by rw [nm_length]; exact h), gs_lt l i h]
 simp [nm]
theorem nm_inj {l m : List ByteArray} (h : nm l = nm m) : l = m := List.map_inj_right (fun _ _ e => toList_inj e) |>.1 h
def Rs (w : World) (ao : Option Addr) (n : Nat) (l : List ByteArray) : Prop :=
 l.length = n ∧ (n = 0 ∨ ∃ b off, ao = some ⟨b, off, none⟩ ∧ b < w.heap.size ∧ ∀ i, i < l.length → w.cell? ⟨b, off + i, none⟩ = some (.string (gs l i)))
theorem Rs.below {w w' : World} {ao : Option Addr} {n : Nat} {l : List ByteArray} (h : Rs w ao n l) (hb : Below w.heap.size w w') : Rs w' ao n l := by
 refine ⟨h.1, ?_⟩
 rcases h.2 with h0 | ⟨b, off, h1, h2, h3⟩
 ·exact .inl h0
 ·exact .inr ⟨b, off, h1, Nat.lt_of_lt_of_le h2 hb.size, fun i hi => (hb.cell (by exact h2)).trans (h3 i hi)⟩
theorem Rs.drewN {w : World} {ao : Option Addr} {n : Nat} {l : List ByteArray} (h : Rs w ao n l) (k : Nat) : Rs (w.drewN k) ao n l := by
 refine ⟨h.1, ?_⟩
 rcases h.2 with h0 | ⟨b, off, h1, h2, h3⟩
 ·exact .inl h0
 ·exact .inr ⟨b, off, h1, h2, fun i hi => by rw [← h3 i hi]; simp⟩
theorem Rs.take {w : World} {ao : Option Addr} {n : Nat} {l : List ByteArray} (h : Rs w ao n l) (k : Nat) (hk : k ≤ n) : Rs w ao k (l.take k) := by
 obtain ⟨hz, h0⟩ := h
 refine ⟨by simp; omega, ?_⟩
 rcases h0 with h0 | ⟨b, off, h1, h2, h3⟩
 ·exact .inl (by omega)
 ·refine .inr ⟨b, off, h1, h2, fun i hi => ?_⟩
  simp at hi
  rw [gs_take _ _ _ (by omega)]
  exact h3 i (by omega)
theorem Rs.nil (w : World) (ao : Option Addr) : Rs w ao 0 [] := ⟨rfl, .inl rfl⟩
theorem Rs.at {w : World} {ao : Option Addr} {n : Nat} {l : List ByteArray} (h : Rs w ao n l) (hn : 0 < n) : ∃ b off, ao = some ⟨b, off, none⟩ ∧ b < w.heap.size ∧ ∀ i, i < n → w.cell? ⟨b, off + i, none⟩ = some (.string (gs l i)) := by
 rcases h.2 with h0 | ⟨b, off, h1, h2, h3⟩
 ·omega
 ·exact ⟨b, off, h1, h2, fun i hi => h3 i (by rw [h.1]; exact hi)⟩
end Go.Proofs.Ytgnjifdaccphhaa
namespace Go.Proofs.Ytgnjifdaccphhaa
open Nam
structure Nod where
 names : List ByteArray
 ino : Int
 kind : Int
 mode : Int
 uid : Int
 gid : Int
 data : List Int
 target : ByteArray
 xs : List (ByteArray × List Int)
 opq : Bool
namespace Tre
def alike (a b : Nod) : Bool := decide (a.kind = b.kind ∧ (a.mode = b.mode ∧ a.uid = b.uid ∧ a.gid = b.gid) ∧ a.target = b.target ∧ a.opq = b.opq ∧ a.data = b.data ∧ a.xs = b.xs)
theorem alike_iff (a b : Nod) : alike a b = true ↔ (a.kind = b.kind ∧ (a.mode = b.mode ∧ a.uid = b.uid ∧ a.gid = b.gid) ∧ a.target = b.target ∧ a.opq = b.opq ∧ a.data = b.data ∧ a.xs = b.xs) := by
 unfold alike; exact decide_eq_true_iff
theorem alike_symm {a b : Nod} (h : alike a b = true) : alike b a = true := by
 obtain ⟨h1, ⟨h2, h3, h4⟩, h5, h6, h7, h8⟩ := (alike_iff a b).1 h
 exact (alike_iff b a).2 ⟨h1.symm, ⟨h2.symm, h3.symm, h4.symm⟩, h5.symm, h6.symm, h7.symm, h8.symm⟩
theorem alike_trans {a b c : Nod} (h : alike a b = true) (k : alike b c = true) : alike a c = true := by
 obtain ⟨h1, ⟨h2, h3, h4⟩, h5, h6, h7, h8⟩ := (alike_iff a b).1 h
 obtain ⟨k1, ⟨k2, k3, k4⟩, k5, k6, k7, k8⟩ := (alike_iff b c).1 k
 exact (alike_iff a c).2 ⟨h1.trans k1, ⟨h2.trans k2, h3.trans k3, h4.trans k4⟩, h5.trans k5, h6.trans k6, h7.trans k7, h8.trans k8⟩
theorem alike_comm (a b : Nod) : alike a b = alike b a := by
 rw [Bool.eq_iff_iff]; exact ⟨alike_symm, alike_symm⟩
def txt (s : List UInt8) (m : Nat) : Bool := decide (s ≠ []) && decide (s.length ≤ m) && !s.any (· == 0)
def xs1 : List UInt8 → List (ByteArray × List Int) → Bool
 | _, [] => true
 | a, x :: r => Op.bytesLess a x.1.toList && txt x.1.toList 40 && decide (x.2.length ≤ 200) && xs1 x.1.toList r
def xsOk (xs : List (ByteArray × List Int)) : Bool := decide (xs.length ≤ 8) && xs1 [] xs
def kdOk (n : Nod) : Bool :=
 if n.kind = 1 then decide (n.data.length = 0) && n.target.toList.isEmpty
 else if n.kind = 2 then decide (n.data.length ≤ 4096) && n.target.toList.isEmpty
 else if n.kind = 3 then decide (n.data.length = 0) && txt n.target.toList 200
 else false
def attrOk (n : Nod) : Bool := decide ((0 ≤ n.mode ∧ n.mode ≤ 511) ∧ (0 ≤ n.uid ∧ n.uid ≤ 65535) ∧ 0 ≤ n.gid ∧ n.gid ≤ 65535)
def may (n : Nod) : Bool := kdOk n && attrOk n && xsOk n.xs && !n.opq
def fv : List ByteArray → Int
 | [] => 0
 | s :: r => if valid s.toList = 0 then fv r else valid s.toList
def wrong : List Nod → Int
 | [] => 0
 | n :: r => if fv n.names = 0 then wrong r else fv n.names
theorem fv_zero : ∀ (l : List ByteArray), fv l = 0 → ∀ s ∈ l, valid s.toList = 0
 | [], _, s, hs => by simp at hs
 | a :: r, h, s, hs => by
  unfold fv at h
  by_cases e : valid a.toList = 0
  ·rw [if_pos e] at h
   rcases List.mem_cons.1 hs with rfl | hs
   ·exact e
   ·exact fv_zero r h s hs
  ·rw [if_neg e] at h; exact absurd h e
theorem wrong_zero : ∀ (l : List Nod), wrong l = 0 → ∀ n ∈ l, fv n.names = 0
 | [], _, n, hn => by simp at hn
 | a :: r, h, n, hn => by
  unfold wrong at h
  by_cases e : fv a.names = 0
  ·rw [if_pos e] at h
   rcases List.mem_cons.1 hn with rfl | hn
   ·exact e
   ·exact wrong_zero r h n hn
  ·rw [if_neg e] at h; exact absurd h e
def deep (n : Nod) : Bool := decide (16 < n.names.length)
def isDir (l : List Nod) (m : List ByteArray) : Bool :=
 match l.find? (fun n => decide (n.names = m)) with
 | some n => decide (n.kind = 1)
 | none => false
def inDir (l : List Nod) (n : Nod) : Bool := decide (n.names.length = 0) || isDir l n.names.dropLast
abbrev one (a b : Nod) : Prop := a.ino = b.ino → b.kind ≠ 1 ∧ alike a b = true
def check (l : List Nod) : Int :=
 if 1024 < l.length then 3
 else if wrong l ≠ 0 then wrong l
 else if l.any deep = true then 9
 else if ¬ (l.map Nod.names).Nodup then 6
 else if isDir l [] = false then 4
 else if l.all (inDir l) = false then 5
 else if l.all may = false then 7
 else if ¬ l.Pairwise one then 8
 else 0
theorem check_big {l : List Nod} (h : 1024 < l.length) : check l = 3 := by rw [check, if_pos h]
theorem check_name {l : List Nod} (h : ¬ 1024 < l.length) (k : wrong l ≠ 0) : check l = wrong l := by rw [check, if_neg h, if_pos k]
theorem check_deep {l : List Nod} (h : ¬ 1024 < l.length) (k : wrong l = 0) (d : l.any deep = true) : check l = 9 := by
 rw [check, if_neg h, if_neg (by rw [k]; simp), if_pos d]
theorem check_twice {l : List Nod} (h : ¬ 1024 < l.length) (k : wrong l = 0) (d : l.any deep = false) (t : ¬ (l.map Nod.names).Nodup) : check l = 6 := by
 rw [check, if_neg h, if_neg (by rw [k]; simp), if_neg (by rw [d]; simp), if_pos t]
theorem check_root {l : List Nod} (h : ¬ 1024 < l.length) (k : wrong l = 0) (d : l.any deep = false) (t : (l.map Nod.names).Nodup) (r : isDir l [] = false) : check l = 4 := by
 rw [check, if_neg h, if_neg (by rw [k]; simp), if_neg (by rw [d]; simp), if_neg (by simpa using t), if_pos r]
theorem check_parent {l : List Nod} (h : ¬ 1024 < l.length) (k : wrong l = 0) (d : l.any deep = false) (t : (l.map Nod.names).Nodup) (r : isDir l [] = true) (p : l.all (inDir l) = false) : check l = 5 := by
 rw [check, if_neg h, if_neg (by rw [k]; simp), if_neg (by rw [d]; simp), if_neg (by simpa using t), if_neg (by rw [r]; simp), if_pos p]
theorem check_kind {l : List Nod} (h : ¬ 1024 < l.length) (k : wrong l = 0) (d : l.any deep = false) (t : (l.map Nod.names).Nodup) (r : isDir l [] = true) (p : l.all (inDir l) = true) (m : l.all may = false) : check l = 7 := by
 rw [check, if_neg h, if_neg (by rw [k]; simp), if_neg (by rw [d]; simp), if_neg (by simpa using t), if_neg (by rw [r]; simp), if_neg (by rw [p]; simp), if_pos m]
theorem check_links {l : List Nod} (h : ¬ 1024 < l.length) (k : wrong l = 0) (d : l.any deep = false) (t : (l.map Nod.names).Nodup) (r : isDir l [] = true) (p : l.all (inDir l) = true) (m : l.all may = true) (o : ¬ l.Pairwise one) : check l = 8 := by
 rw [check, if_neg h, if_neg (by rw [k]; simp), if_neg (by rw [d]; simp), if_neg (by simpa using t), if_neg (by rw [r]; simp), if_neg (by rw [p]; simp), if_neg (by rw [m]; simp), if_pos o]
theorem check_ok {l : List Nod} (h : ¬ 1024 < l.length) (k : wrong l = 0) (d : l.any deep = false) (t : (l.map Nod.names).Nodup) (r : isDir l [] = true) (p : l.all (inDir l) = true) (m : l.all may = true) (o : l.Pairwise one) : check l = 0 := by
 rw [check, if_neg h, if_neg (by rw [k]; simp), if_neg (by rw [d]; simp), if_neg (by simpa using t), if_neg (by rw [r]; simp), if_neg (by rw [p]; simp), if_neg (by rw [m]; simp), if_neg (by simpa using o)]
theorem check_zero {l : List Nod} (h : check l = 0) : l.length ≤ 1024 ∧ wrong l = 0 ∧ l.any deep = false ∧ (l.map Nod.names).Nodup ∧ isDir l [] = true ∧ l.all (inDir l) = true ∧ l.all may = true ∧ l.Pairwise one := by
 by_cases h1 : 1024 < l.length
 ·rw [check_big h1] at h; cases h
 by_cases h2 : wrong l = 0
 ·cases h3 : l.any deep with
  | true => rw [check_deep h1 h2 h3] at h; cases h
  | false =>
   by_cases h4 : (l.map Nod.names).Nodup
   ·cases h5 : isDir l [] with
    | false => rw [check_root h1 h2 h3 h4 h5] at h; cases h
    | true =>
     cases h6 : l.all (inDir l) with
     | false => rw [check_parent h1 h2 h3 h4 h5 h6] at h; cases h
     | true =>
      cases h7 : l.all may with
      | false => rw [check_kind h1 h2 h3 h4 h5 h6 h7] at h; cases h
      | true =>
       by_cases h8 : l.Pairwise one
       ·exact ⟨by omega, h2, rfl, h4, rfl, rfl, rfl, h8⟩
       ·rw [check_links h1 h2 h3 h4 h5 h6 h7 h8] at h; cases h
   ·rw [check_twice h1 h2 h3 h4] at h; cases h
 ·rw [check_name h1 h2] at h; exact absurd h h2
end Tre
end Go.Proofs.Ytgnjifdaccphhaa
namespace Go.Proofs.Ytgnjifdaccphhaa
open Nam Tre
namespace Mrg
def mayB (n : Nod) : Bool :=
 if n.kind = 4 then decide ((n.mode = 0 ∧ n.uid = 0 ∧ n.gid = 0) ∧ n.data.length = 0 ∧ n.target.toList = [] ∧ n.xs.length = 0 ∧ n.opq = false)
 else if n.kind = 1 then may { n with opq := false }
 else may n
abbrev oneB (a b : Nod) : Prop := a.ino = b.ino → (b.kind ≠ 1 ∧ b.kind ≠ 4) ∧ alike a b = true
def checkB (l : List Nod) : Int :=
 if 1024 < l.length then 3
 else if wrong l ≠ 0 then wrong l
 else if l.any deep = true then 9
 else if ¬ (l.map Nod.names).Nodup then 6
 else if isDir l [] = false then 4
 else if l.all (inDir l) = false then 5
 else if l.all mayB = false then 7
 else if ¬ l.Pairwise oneB then 8
 else 0
end Mrg
end Go.Proofs.Ytgnjifdaccphhaa
namespace Go.Proofs.Ytgnjifdaccphhaa
open Nam Tre Mrg
namespace Brn
def isW (n : Nod) : Bool := alike n ⟨[], 0, 4, 0, 0, 0, [], ⟨#[]⟩, [], false⟩
def stand (n : Nod) : Nod := if isW n = true then { n with kind := 2 } else if n.kind = 1 then { n with opq := false } else n
theorem isW_iff (n : Nod) : isW n = true ↔ n.kind = 4 ∧ (n.mode = 0 ∧ n.uid = 0 ∧ n.gid = 0) ∧ n.target = ⟨#[]⟩ ∧ n.opq = false ∧ n.data = [] ∧ n.xs = [] := alike_iff _ _
theorem stand_names (n : Nod) : (stand n).names = n.names := by
 unfold stand; split
 ·rfl
 ·split <;> rfl
theorem stand_ino (n : Nod) : (stand n).ino = n.ino := by
 unfold stand; split
 ·rfl
 ·split <;> rfl
theorem stand_dir (n : Nod) : (stand n).kind = 1 ↔ n.kind = 1 := by
 unfold stand; split
 ·rename_i h
  have := ((isW_iff n).1 h).1
  show (2 : Int) = 1 ↔ _
  rw [this]; decide
 ·split <;> rfl
theorem stand_id {n : Nod} (h1 : n.kind ≠ 1) (h4 : n.kind ≠ 4) : stand n = n := by
 unfold stand
 rw [if_neg (fun h => h4 ((isW_iff n).1 h).1), if_neg h1]
theorem toList_empty (s : ByteArray) : s.toList = [] ↔ s = ⟨#[]⟩ := by
 constructor
 ·intro h
  have : (⟨#[]⟩ : ByteArray).toList = [] := toList_mk []
  exact toList_inj (h.trans this.symm)
 ·rintro rfl; exact toList_mk []
theorem stand_may (n : Nod) : may (stand n) = mayB n := by
 unfold stand mayB
 by_cases h4 : n.kind = 4
 ·rw [if_pos h4]
  by_cases hw : isW n = true
  ·obtain ⟨_, ⟨h1, h2, h3⟩, h5, h6, h7, h8⟩ := (isW_iff n).1 hw
   rw [if_pos hw, decide_eq_true (by rw [h7, h8, h5, h6]; exact ⟨⟨h1, h2, h3⟩, rfl, toList_mk [], rfl, rfl⟩)]
   simp [may, kdOk, attrOk, xsOk, xs1, h1, h2, h3, h5, h6, h7, h8]
  ·rw [if_neg hw, if_neg (by rw [h4]; decide)]
   have e1 : may n = false := by
    unfold may kdOk
    rw [if_neg (by rw [h4]; decide), if_neg (by rw [h4]; decide), if_neg (by rw [h4]; decide)]; rfl
   rw [e1]
   refine (decide_eq_false (fun h => hw ((isW_iff n).2 ?_))).symm
   obtain ⟨h1, h2, h3, h5, h6⟩ := h
   exact ⟨h4, h1, (toList_empty _).1 h3, h6, List.eq_nil_of_length_eq_zero h2, List.eq_nil_of_length_eq_zero h5⟩
 ·rw [if_neg h4, if_neg (fun h => h4 ((isW_iff n).1 h).1)]
  by_cases h1 : n.kind = 1
  ·rw [if_pos h1, if_pos h1]
  ·rw [if_neg h1, if_neg h1]
def cnt (l : List Nod) (z : Int) : Nat := l.countP (fun n => decide (n.ino = z))
def sgl (l : List Nod) : Bool := l.all (fun n => !(decide (n.kind = 4) && decide (1 < cnt l n.ino)))
theorem cnt_two {l : List Nod} {z : Int} : 1 < cnt l z ↔ ∃ i j : Nat, i < j ∧ ∃ (hi : i < l.length) (hj : j < l.length), l[i].ino = z ∧ l[j].ino = z := by
 induction l with
 | nil => simp [cnt]
 | cons a r ih =>
  have e : cnt (a :: r) z = cnt r z + if a.ino = z then 1 else 0 := by
   unfold cnt; rw [List.countP_cons]; simp
  constructor
  ·intro h
   by_cases ha : a.ino = z
   ·rw [e, if_pos ha] at h
    have h0 : 0 < cnt r z := by omega
    obtain ⟨b, hb, hbz⟩ := List.countP_pos_iff.1 h0
    obtain ⟨j, hj, rfl⟩ := List.getElem_of_mem hb
    exact ⟨0, j + 1, by omega, by simp, by simp; omega, by simpa using ha, by simpa using hbz⟩
   ·rw [e, if_neg ha] at h
    obtain ⟨i, j, hij, hi, hj, h1, h2⟩ := ih.1 (by omega)
    exact ⟨i + 1, j + 1, by omega, by simp; omega, by simp; omega, by simpa using h1, by simpa using h2⟩
  ·rintro ⟨i, j, hij, hi, hj, h1, h2⟩
   obtain ⟨j', rfl⟩ : ∃ j', j = j' + 1 := ⟨j - 1, by omega⟩
   simp only [List.getElem_cons_succ] at h2
   simp only [List.length_cons] at hi hj
   match i, hi, h1 with
   | 0, _, h1 =>
    simp only [List.getElem_cons_zero] at h1
    rw [e, if_pos h1]
    have : 0 < cnt r z := List.countP_pos_iff.2 ⟨r[j']'(by omega), List.getElem_mem _, by simpa using h2⟩
    omega
   | i' + 1, hi, h1 =>
    simp only [List.getElem_cons_succ] at h1
    have := ih.2 ⟨i', j', by omega, by omega, by omega, h1, h2⟩
    rw [e]; omega
theorem one_pair (l : List Nod) : l.Pairwise oneB ↔ (l.map stand).Pairwise Tre.one ∧ sgl l = true := by
 rw [List.pairwise_map, List.pairwise_iff_getElem, List.pairwise_iff_getElem]
 constructor
 ·intro h
  refine ⟨fun i j hi hj hij e => ?_, ?_⟩
  ·rw [stand_ino, stand_ino] at e
   obtain ⟨⟨q1, q4⟩, q2⟩ := h i j hi hj hij e
   have hk := ((alike_iff _ _).1 q2).1
   rw [stand_id q1 q4, stand_id (by rw [hk]; exact q1) (by rw [hk]; exact q4)]
   exact ⟨q1, q2⟩
  ·unfold sgl
   rw [List.all_eq_true]
   intro n hn
   cases hk : decide (n.kind = 4) with
   | false => rfl
   | true =>
    have hk := of_decide_eq_true hk
    rw [Bool.true_and, Bool.not_eq_true', decide_eq_false_iff_not]
    intro h2
    obtain ⟨t, ht, rfl⟩ := List.getElem_of_mem hn
    obtain ⟨i, j, hij, hi, hj, e1, e2⟩ := cnt_two.1 h2
    rcases Nat.lt_trichotomy t j with q | q | q
    ·obtain ⟨⟨_, q4⟩, q2⟩ := h t j ht hj q e2.symm
     exact q4 (((alike_iff _ _).1 q2).1.symm.trans hk)
    ·subst q
     exact (h i t hi ht hij e1).1.2 hk
    ·exact (h j t hj ht q e2).1.2 hk
 ·rintro ⟨h1, h2⟩ i j hi hj hij e
  unfold sgl at h2
  rw [List.all_eq_true] at h2
  have hc : ∀ z : Int, l[i].ino = z → 1 < cnt l z := fun z hz => cnt_two.2 ⟨i, j, hij, hi, hj, hz, e ▸ hz⟩
  have n4 : ∀ k (hk : k < l.length), l[k].ino = l[i].ino → l[k].kind ≠ 4 := fun k hk ek e4 => by
   have := h2 l[k] (List.getElem_mem hk)
   rw [decide_eq_true e4, decide_eq_true (hc _ ek.symm)] at this
   exact absurd this (by decide)
  obtain ⟨q1, q2⟩ := h1 i j hi hj hij (by rw [stand_ino, stand_ino]; exact e)
  have j4 := n4 j hj e.symm
  have i4 := n4 i hi rfl
  have j1 : l[j].kind ≠ 1 := fun h => q1 ((stand_dir _).2 h)
  have hk := ((alike_iff _ _).1 q2).1
  have i1 : l[i].kind ≠ 1 := fun h => q1 (by rw [← hk]; exact (stand_dir _).2 h)
  rw [stand_id i1 i4, stand_id j1 j4] at q2
  exact ⟨⟨j1, j4⟩, q2⟩
theorem wrong_stand : ∀ l : List Nod, wrong (l.map stand) = wrong l
 | [] => rfl
 | a :: r => by rw [List.map_cons, wrong, wrong, stand_names, wrong_stand r]
theorem deep_stand (l : List Nod) : (l.map stand).any deep = l.any deep := by
 rw [List.any_map]; congr 1; funext n; simp [deep, stand_names]
theorem names_stand (l : List Nod) : (l.map stand).map Nod.names = l.map Nod.names := by
 rw [List.map_map]; congr 1; funext n; exact stand_names n
theorem find_stand (m : List ByteArray) : ∀ l : List Nod, (l.map stand).find? (fun n => decide (n.names = m)) = (l.find? (fun n => decide (n.names = m))).map stand
 | [] => rfl
 | a :: r => by
  rw [List.map_cons, List.find?_cons, List.find?_cons, stand_names]
  cases decide (a.names = m) with
  | true => rfl
  | false => exact find_stand m r
theorem isDir_stand (l : List Nod) (m : List ByteArray) : isDir (l.map stand) m = isDir l m := by
 unfold isDir
 rw [find_stand]
 cases l.find? (fun n => decide (n.names = m)) with
 | none => rfl
 | some n => exact decide_eq_decide.2 (stand_dir n)
theorem inDir_stand (l : List Nod) : (l.map stand).all (inDir (l.map stand)) = l.all (inDir l) := by
 rw [List.all_map]; congr 1; funext n
 simp only [Function.comp, inDir, stand_names, isDir_stand]
theorem may_stand (l : List Nod) : (l.map stand).all may = l.all mayB := by
 rw [List.all_map]; congr 1; funext n; exact stand_may n
theorem check_stand (l : List Nod) : checkB l = if check (l.map stand) ≠ 0 then check (l.map stand) else if sgl l = true then 0 else 8 := by
 by_cases hc : check (l.map stand) = 0
 ·rw [if_neg (by simpa using hc)]
  obtain ⟨h1, h2, h3, h4, h5, h6, h7, h8⟩ := check_zero hc
  rw [wrong_stand] at h2
  rw [deep_stand] at h3
  rw [names_stand] at h4
  rw [isDir_stand] at h5
  rw [inDir_stand] at h6
  rw [may_stand] at h7
  rw [List.length_map] at h1
  unfold checkB
  rw [if_neg (by omega), if_neg (by rw [h2]; simp), if_neg (by rw [h3]; simp), if_neg (by simpa using h4), if_neg (by rw [h5]; simp), if_neg (by rw [h6]; simp), if_neg (by rw [h7]; simp)]
  by_cases hp : l.Pairwise oneB
  ·rw [if_neg (by simpa using hp), if_pos ((one_pair l).1 hp).2]
  ·rw [if_pos hp, if_neg (fun hs => hp ((one_pair l).2 ⟨h8, hs⟩))]
 ·rw [if_pos hc]
  unfold check checkB
  rw [List.length_map, wrong_stand, deep_stand, names_stand, isDir_stand, inDir_stand, may_stand]
  unfold check at hc
  rw [List.length_map, wrong_stand, deep_stand, names_stand, isDir_stand, inDir_stand, may_stand] at hc
  split
  ·rfl
  rename_i g1
  rw [if_neg g1] at hc
  split
  ·rfl
  rename_i g2
  rw [if_neg g2] at hc
  split
  ·rfl
  rename_i g3
  rw [if_neg g3] at hc
  split
  ·rfl
  rename_i g4
  rw [if_neg g4] at hc
  split
  ·rfl
  rename_i g5
  rw [if_neg g5] at hc
  split
  ·rfl
  rename_i g6
  rw [if_neg g6] at hc
  split
  ·rfl
  rename_i g7
  rw [if_neg g7] at hc
  by_cases h8 : (l.map stand).Pairwise Tre.one
  ·rw [if_neg (by simpa using h8)] at hc; exact absurd rfl hc
  ·rw [if_pos h8, if_pos (fun h => h8 ((one_pair l).1 h).1)]
end Brn
end Go.Proofs.Ytgnjifdaccphhaa
namespace Go.Proofs.Ytgnjifdaccphhaa
open Go.RowKit Go.Maps
open Nam
end Go.Proofs.Ytgnjifdaccphhaa
namespace Go.Proofs.Ytgnjifdaccphhaa
open Go.RowKit Go.Maps Go.ChangeShapes Go.WideShapes Go.ChangeAt
open Nam Tre
open Lz (g)
structure Nv where
 na : Option Addr
 nn : Nat
 nc : Nat
 ino : Int
 kind : Int
 mode : Int
 uid : Int
 gid : Int
 da : Option Addr
 dn : Nat
 dc : Nat
 tg : ByteArray
 xa : Option Addr
 xn : Nat
 xc : Nat
 op : Bool
def nv0 : Nv := ⟨none, 0, 0, 0, 0, 0, 0, 0, none, 0, 0, ⟨#[]⟩, none, 0, 0, false⟩
def nod0 : Nod := ⟨[], 0, 0, 0, 0, 0, [], ⟨#[]⟩, [], false⟩
def Nv.cells (v : Nv) : Array Value := #[.slice v.na v.nn v.nc, .int .i64 v.ino, .int .i64 v.kind, .int .i64 v.mode, .int .i64 v.uid, .int .i64 v.gid, .slice v.da v.dn v.dc, .string v.tg, .slice v.xa v.xn v.xc, .bool v.op]
def XatAt (w : World) (b o : Nat) (x : ByteArray × List Int) : Prop :=
 w.cell? ⟨b, o, none⟩ = some (.string x.1) ∧ ∃ va vn vc, w.cell? ⟨b, o + 1, none⟩ = some (.slice va vn vc) ∧ Bs w va vn x.2 ∧ vn ≤ vc ∧ vc ≤ 9223372036854775807 ∧ (va = none → vc = 0) ∧ x.1.size ≤ 9223372036854775807
def gx (xs : List (ByteArray × List Int)) (i : Nat) : ByteArray × List Int := xs.getD i (⟨#[]⟩, [])
theorem gx_lt (xs : List (ByteArray × List Int)) (i : Nat) (h : i < xs.length) : gx xs i = xs[i] := by simp [gx, h]
def XsR (w : World) (ao : Option Addr) (n : Nat) (xs : List (ByteArray × List Int)) : Prop :=
 xs.length = n ∧ (n = 0 ∨ ∃ b off, ao = some ⟨b, off, none⟩ ∧ b < w.heap.size ∧ ∀ i, i < n → XatAt w b (off + i * 2) (gx xs i))
structure Rep (w : World) (v : Nv) (n : Nod) : Prop where
 names : Rs w v.na v.nn n.names
 nc : v.nn ≤ v.nc
 ncm : v.nc ≤ 9223372036854775807
 nnil : v.na = none → v.nc = 0
 ino : n.ino = v.ino
 in64 : (Lit.int .i64 v.ino).wf = true
 kind : n.kind = v.kind
 mode : n.mode = v.mode
 uid : n.uid = v.uid
 gid : n.gid = v.gid
 data : Bs w v.da v.dn n.data
 dc : v.dn ≤ v.dc
 dcm : v.dc ≤ 9223372036854775807
 dnil : v.da = none → v.dc = 0
 tg : n.target = v.tg
 tgm : v.tg.size ≤ 9223372036854775807
 xs : XsR w v.xa v.xn n.xs
 xc : v.xn ≤ v.xc
 xcm : v.xc ≤ 9223372036854775807
 xnil : v.xa = none → v.xc = 0
 op : n.opq = v.op
theorem XatAt.below {w w' : World} {b o : Nat} {x : ByteArray × List Int} (h : XatAt w b o x) (hb : Below w.heap.size w w') (hlt : b < w.heap.size) : XatAt w' b o x := by
 obtain ⟨h1, va, vn, vc, h2, h3, h4⟩ := h
 exact ⟨(hb.cell (by exact hlt)).trans h1, va, vn, vc, (hb.cell (by exact hlt)).trans h2, h3.below hb, h4⟩
theorem XsR.below {w w' : World} {ao : Option Addr} {n : Nat} {xs : List (ByteArray × List Int)} (h : XsR w ao n xs) (hb : Below w.heap.size w w') : XsR w' ao n xs := by
 refine ⟨h.1, ?_⟩
 rcases h.2 with h0 | ⟨b, off, h1, h2, h3⟩
 ·exact .inl h0
 ·exact .inr ⟨b, off, h1, Nat.lt_of_lt_of_le h2 hb.size, fun i hi => (h3 i hi).below hb h2⟩
theorem XsR.at {w : World} {ao : Option Addr} {n : Nat} {xs : List (ByteArray × List Int)} (h : XsR w ao n xs) (hn : 0 < n) : ∃ b off, ao = some ⟨b, off, none⟩ ∧ b < w.heap.size ∧ ∀ i, i < n → XatAt w b (off + i * 2) (gx xs i) := by
 rcases h.2 with h0 | h1
 ·omega
 ·exact h1
theorem XsR.nil (w : World) (ao : Option Addr) : XsR w ao 0 [] := ⟨rfl, .inl rfl⟩
theorem XsR.take {w : World} {ao : Option Addr} {n : Nat} {xs : List (ByteArray × List Int)} (h : XsR w ao n xs) (k : Nat) (hk : k ≤ n) : XsR w ao k (xs.take k) := by
 obtain ⟨hz, h0⟩ := h
 refine ⟨by simp; omega, ?_⟩
 by_cases e : k = 0
 ·exact .inl e
 ·rcases h0 with h0 | ⟨b, off, h1, h2, h3⟩
  ·omega
  ·refine .inr ⟨b, off, h1, h2, fun i hi => ?_⟩
   have : gx (xs.take k) i = gx xs i := by simp [gx, hi]
   rw [this]; exact h3 i (by omega)
theorem Rep.below {w w' : World} {v : Nv} {n : Nod} (h : Rep w v n) (hb : Below w.heap.size w w') : Rep w' v n :=
 { h with names := h.names.below hb, data := h.data.below hb, xs := h.xs.below hb }
structure NodAt (w : World) (b o : Nat) (v : Nv) : Prop where
 c0 : w.cell? ⟨b, o, none⟩ = some (.slice v.na v.nn v.nc)
 c1 : w.cell? ⟨b, o + 1, none⟩ = some (.int .i64 v.ino)
 c2 : w.cell? ⟨b, o + 2, none⟩ = some (.int .i64 v.kind)
 c3 : w.cell? ⟨b, o + 3, none⟩ = some (.int .i64 v.mode)
 c4 : w.cell? ⟨b, o + 4, none⟩ = some (.int .i64 v.uid)
 c5 : w.cell? ⟨b, o + 5, none⟩ = some (.int .i64 v.gid)
 c6 : w.cell? ⟨b, o + 6, none⟩ = some (.slice v.da v.dn v.dc)
 c7 : w.cell? ⟨b, o + 7, none⟩ = some (.string v.tg)
 c8 : w.cell? ⟨b, o + 8, none⟩ = some (.slice v.xa v.xn v.xc)
 c9 : w.cell? ⟨b, o + 9, none⟩ = some (.bool v.op)
theorem NodAt.same {w w' : World} {b o : Nat} {v : Nv} (h : NodAt w b o v) (hc : ∀ k, w'.cell? ⟨b, k, none⟩ = w.cell? ⟨b, k, none⟩) : NodAt w' b o v :=
 ⟨(hc _).trans h.c0, (hc _).trans h.c1, (hc _).trans h.c2, (hc _).trans h.c3, (hc _).trans h.c4, (hc _).trans h.c5, (hc _).trans h.c6, (hc _).trans h.c7, (hc _).trans h.c8, (hc _).trans h.c9⟩
theorem NodAt.below {w w' : World} {B b o : Nat} {v : Nv} (h : NodAt w b o v) (hb : Below B w w') (hlt : b < B) : NodAt w' b o v :=
 h.same (fun k => hb.cell (by exact hlt))
structure Boxed (w : World) (b : Nat) (v : Nv) : Prop where
 lt : b < w.heap.size
 c0 : w.cell? ⟨b, 0, none⟩ = some (.slice v.na v.nn v.nc)
 c1 : w.cell? ⟨b, 1, none⟩ = some (.int .i64 v.ino)
 c2 : w.cell? ⟨b, 2, none⟩ = some (.int .i64 v.kind)
 c3 : w.cell? ⟨b, 3, none⟩ = some (.int .i64 v.mode)
 c4 : w.cell? ⟨b, 4, none⟩ = some (.int .i64 v.uid)
 c5 : w.cell? ⟨b, 5, none⟩ = some (.int .i64 v.gid)
 c6 : w.cell? ⟨b, 6, none⟩ = some (.slice v.da v.dn v.dc)
 c7 : w.cell? ⟨b, 7, none⟩ = some (.string v.tg)
 c8 : w.cell? ⟨b, 8, none⟩ = some (.slice v.xa v.xn v.xc)
 c9 : w.cell? ⟨b, 9, none⟩ = some (.bool v.op)
theorem boxed (w : World) (v : Nv) : Boxed (w.alloc (.cells v.cells 38)) w.heap.size v := by
 constructor <;> simp [Nv.cells]
theorem Boxed.same {w w' : World} {b : Nat} {v : Nv} (h : Boxed w b v) (hs : w.heap.size ≤ w'.heap.size) (hc : ∀ k, w'.cell? ⟨b, k, none⟩ = w.cell? ⟨b, k, none⟩) : Boxed w' b v :=
 ⟨Nat.lt_of_lt_of_le h.lt hs, (hc _).trans h.c0, (hc _).trans h.c1, (hc _).trans h.c2, (hc _).trans h.c3, (hc _).trans h.c4, (hc _).trans h.c5, (hc _).trans h.c6, (hc _).trans h.c7, (hc _).trans h.c8, (hc _).trans h.c9⟩
theorem Boxed.below {w w' : World} {b : Nat} {v : Nv} (h : Boxed w b v) (hb : Below w.heap.size w w') : Boxed w' b v := h.same hb.size (fun k => hb.cell (by exact h.lt))
def gl (L : List (Nv × Nod)) (i : Nat) : Nv × Nod := L.getD i (nv0, nod0)
theorem gl_lt (L : List (Nv × Nod)) (i : Nat) (h : i < L.length) : gl L i = L[i] := by simp [gl, h]
theorem gl_mem (L : List (Nv × Nod)) (i : Nat) (h : i < L.length) : gl L i ∈ L := by rw [gl_lt L i h]; exact List.getElem_mem h
def nds (L : List (Nv × Nod)) : List Nod := L.map (·.2)
theorem nds_length (L : List (Nv × Nod)) : (nds L).length = L.length := by simp [nds]
theorem nds_drop (L : List (Nv × Nod)) (i : Nat) (h : i < L.length) : (nds L).drop i = (gl L i).2 :: (nds L).drop (i + 1) := by
 rw [List.drop_eq_getElem_cons (by rw [nds_length]; exact h), gl_lt L i h]
 simp [nds]
theorem nds_take (L : List (Nv × Nod)) (i : Nat) (h : i < L.length) : (nds L).take (i + 1) = (nds L).take i ++ [(gl L i).2] := by
 rw [List.take_succ_eq_append_getElem (by rw [nds_length]; exact h), gl_lt L i h]
 simp [nds]
def Ns (w : World) (ao : Option Addr) (n : Nat) (L : List (Nv × Nod)) : Prop :=
 L.length = n ∧ (∀ p ∈ L, Rep w p.1 p.2) ∧ (n = 0 ∨ ∃ b off, ao = some ⟨b, off, none⟩ ∧ b < w.heap.size ∧ ∀ i, i < n → NodAt w b (off + i * 10) (gl L i).1)
theorem Ns.below {w w' : World} {ao : Option Addr} {n : Nat} {L : List (Nv × Nod)} (h : Ns w ao n L) (hb : Below w.heap.size w w') : Ns w' ao n L := by
 refine ⟨h.1, fun p hp => (h.2.1 p hp).below hb, ?_⟩
 rcases h.2.2 with h0 | ⟨b, off, h1, h2, h3⟩
 ·exact .inl h0
 ·exact .inr ⟨b, off, h1, Nat.lt_of_lt_of_le h2 hb.size, fun i hi => (h3 i hi).below hb h2⟩
theorem Ns.at {w : World} {ao : Option Addr} {n : Nat} {L : List (Nv × Nod)} (h : Ns w ao n L) (hn : 0 < n) : ∃ b off, ao = some ⟨b, off, none⟩ ∧ b < w.heap.size ∧ ∀ i, i < n → NodAt w b (off + i * 10) (gl L i).1 := by
 rcases h.2.2 with h0 | h1
 ·omega
 ·exact h1
theorem Ns.rep {w : World} {ao : Option Addr} {n : Nat} {L : List (Nv × Nod)} (h : Ns w ao n L) (i : Nat) (hi : i < n) : Rep w (gl L i).1 (gl L i).2 :=
 h.2.1 _ (gl_mem L i (by rw [h.1]; exact hi))
theorem Ns.nil (w : World) (ao : Option Addr) : Ns w ao 0 [] := ⟨rfl, fun p hp => by simp at hp, .inl rfl⟩
theorem drewN_below {B : Nat} (w : World) (k : Nat) : Below B w (w.drewN k) := ⟨rfl, rfl, rfl, Nat.le_refl _, fun _ _ => rfl⟩
end Go.Proofs.Ytgnjifdaccphhaa
namespace Go.Proofs.Ytgnjifdaccphhaa
open Go.RowKit Go.Maps
open Nam Tre
namespace Tre
def mlast (ks : List Lit) : Nat → Lit → Option Nat
 | 0 => fun _ => none
 | i + 1 => upd (mlast ks i) (ks.getD i (.bool false)) i
def mcnt (ks : List Lit) : Nat → Nat
 | 0 => 0
 | i + 1 => if (mlast ks i (ks.getD i (.bool false))).isSome = true then mcnt ks i else mcnt ks i + 1
theorem mlast_some {ks : List Lit} (hk : ∀ k ∈ ks, WideAt.IsKeyLit k) : ∀ (i : Nat), i ≤ ks.length → ∀ k j, mlast ks i k = some j → j < i ∧ ks[j]? = some k
 | 0, _, k, j, h => by cases h
 | i + 1, hi, k, j, h => by
  have hg : ks.getD i (.bool false) = ks[i] := by simp [show i < ks.length by omega]
  by_cases e : k = ks.getD i (.bool false)
  ·rw [mlast, e, upd_same _ _ _ (by rw [hg]; exact hk _ (List.getElem_mem _))] at h
   cases h
   exact ⟨by omega, by rw [e, hg, List.getElem?_eq_getElem]⟩
  ·rw [mlast, upd_other _ _ e] at h
   obtain ⟨h1, h2⟩ := mlast_some hk i (by omega) k j h
   exact ⟨by omega, h2⟩
theorem mlast_mem {ks : List Lit} (hk : ∀ k ∈ ks, WideAt.IsKeyLit k) : ∀ (i : Nat), i ≤ ks.length → ∀ k, (mlast ks i k).isSome = true ↔ k ∈ ks.take i
 | 0, _, k => by simp [mlast]
 | i + 1, hi, k => by
  have hi' : i < ks.length := by omega
  have hg : ks.getD i (.bool false) = ks[i] := by simp [hi']
  rw [List.take_succ_eq_append_getElem hi', List.mem_append, List.mem_singleton]
  by_cases e : k = ks[i]
  ·rw [mlast, hg, e, upd_same _ _ _ (hk _ (List.getElem_mem _))]
   simp
  ·rw [mlast, hg, upd_other _ _ e, mlast_mem hk i (by omega) k]
   simp [e]
theorem mcnt_le {ks : List Lit} : ∀ (i : Nat), mcnt ks i ≤ i
 | 0 => Nat.le_refl _
 | i + 1 => by
  have := mcnt_le (ks := ks) i
  rw [mcnt]; split <;> omega
theorem mcnt_nodup {ks : List Lit} (hk : ∀ k ∈ ks, WideAt.IsKeyLit k) : ∀ (i : Nat), i ≤ ks.length → (mcnt ks i = i ↔ (ks.take i).Nodup)
 | 0, _ => by simp [mcnt]
 | i + 1, hi => by
  have hi' : i < ks.length := by omega
  have hg : ks.getD i (.bool false) = ks[i] := by simp [hi']
  have hm := mlast_mem hk i (by omega) ks[i]
  have ih := mcnt_nodup hk i (by omega)
  have hle := mcnt_le (ks := ks) i
  rw [mcnt, hg, List.take_succ_eq_append_getElem hi', List.nodup_append]
  by_cases e : (mlast ks i ks[i]).isSome = true
  ·rw [if_pos e]
   constructor
   ·intro h; omega
   ·intro h; exact absurd rfl (h.2.2 _ (hm.1 e) _ (List.mem_singleton.2 rfl))
  ·rw [if_neg e]
   constructor
   ·intro h
    refine ⟨ih.1 (by omega), by simp, fun a ha b hb => ?_⟩
    rw [List.mem_singleton] at hb
    intro eq
    rw [eq, hb] at ha
    exact e (hm.2 ha)
   ·intro h
    have := ih.2 h.1
    omega
end Tre
end Go.Proofs.Ytgnjifdaccphhaa
namespace Go.Proofs.Ytgnjifdaccphhaa
open Go.RowKit Go.Maps
open Nam Tre
def nvs (V : List Nv) : List Value := V.flatMap (fun v => v.cells.toList)
theorem nvs_append (V U : List Nv) : nvs (V ++ U) = nvs V ++ nvs U := by simp [nvs]
theorem cells_length (v : Nv) : v.cells.toList.length = 10 := rfl
theorem nvs_length (V : List Nv) : (nvs V).length = V.length * 10 := by
 induction V with
 | nil => rfl
 | cons v r ih =>
  have : nvs (v :: r) = v.cells.toList ++ nvs r := by simp [nvs]
  rw [this, List.length_append, cells_length, ih, List.length_cons]; omega
theorem nvs_get (V : List Nv) (i c : Nat) (h : i < V.length) (hc : c < 10) : (nvs V)[i * 10 + c]? = (V[i].cells.toList)[c]? := by
 induction V generalizing i with
 | nil => simp at h
 | cons v r ih =>
  have e : nvs (v :: r) = v.cells.toList ++ nvs r := by simp [nvs]
  rw [e]
  cases i with
  | zero => rw [Nat.zero_mul, Nat.zero_add, List.getElem?_append_left (by rw [cells_length]; exact hc)]; rfl
  | succ i =>
   rw [List.getElem?_append_right (by rw [cells_length]; omega), cells_length, show (i + 1) * 10 + c - 10 = i * 10 + c by omega, ih i (by simpa using h)]
   rfl
def gv (V : List Nv) (i : Nat) : Nv := V.getD i nv0
theorem gv_lt (V : List Nv) (i : Nat) (h : i < V.length) : gv V i = V[i] := by simp [gv, h]
def Sh (w : World) (ao : Option Addr) (n : Nat) (V : List Nv) : Prop :=
 V.length = n ∧ (n = 0 ∨ ∃ b off, ao = some ⟨b, off, none⟩ ∧ b < w.heap.size ∧ ∀ i, i < n → NodAt w b (off + i * 10) (gv V i))
theorem gv_map (L : List (Nv × Nod)) (i : Nat) (h : i < L.length) : gv (L.map (·.1)) i = (gl L i).1 := by
 rw [gv_lt _ _ (by simpa using h), gl_lt L i h]; simp
theorem Sh.ns {w : World} {ao : Option Addr} {n : Nat} {L : List (Nv × Nod)} (h : Sh w ao n (L.map (·.1))) (hr : ∀ p ∈ L, Rep w p.1 p.2) : Ns w ao n L := by
 have hl : L.length = n := by have := h.1; rw [List.length_map] at this; exact this
 refine ⟨hl, hr, ?_⟩
 rcases h.2 with h0 | ⟨b, off, h1, h2, h3⟩
 ·exact .inl h0
 ·exact .inr ⟨b, off, h1, h2, fun i hi => by rw [← gv_map L i (by rw [hl]; exact hi)]; exact h3 i hi⟩
theorem NodAt.of {w : World} {b o : Nat} {v : Nv} (h : ∀ c, c < 10 → w.cell? ⟨b, o + c, none⟩ = (v.cells.toList)[c]?) : NodAt w b o v :=
 ⟨h 0 (by omega), h 1 (by omega), h 2 (by omega), h 3 (by omega), h 4 (by omega), h 5 (by omega), h 6 (by omega), h 7 (by omega), h 8 (by omega), h 9 (by omega)⟩
theorem NodAt.cell {w : World} {b o : Nat} {v : Nv} (h : NodAt w b o v) (c : Nat) (hc : c < 10) : w.cell? ⟨b, o + c, none⟩ = (v.cells.toList)[c]? := by
 match c, hc with
 | 0, _ => exact h.c0
 | 1, _ => exact h.c1
 | 2, _ => exact h.c2
 | 3, _ => exact h.c3
 | 4, _ => exact h.c4
 | 5, _ => exact h.c5
 | 6, _ => exact h.c6
 | 7, _ => exact h.c7
 | 8, _ => exact h.c8
 | 9, _ => exact h.c9
theorem sh_of_owns {w : World} {B n c : Nat} {ao : Option Addr} {V : List Nv} (h : w.ownsRow B 38 10 (.slice ao n c) n (nvs V)) : Sh w ao n V := by
 have hlen : V.length = n := by have := h.1; rw [nvs_length] at this; omega
 refine ⟨hlen, ?_⟩
 by_cases e : n = 0
 ·exact .inl e
 ·obtain ⟨gb, c', hv, _, hlt⟩ := h.form (by omega)
  obtain ⟨rfl, _, rfl⟩ : ao = some ⟨gb, 0, none⟩ ∧ n = n ∧ c = c' := by simpa using hv
  refine .inr ⟨gb, 0, rfl, hlt, fun i hi => NodAt.of fun k hk => ?_⟩
  rw [Nat.zero_add, h.cellAt _ (by omega), nvs_get V i k (by omega) hk, gv_lt V i (by omega)]
theorem cap_owns {w : World} {B n c size e : Nat} {ao : Option Addr} {xs : List Value} (h : w.ownsRow B e size (.slice ao n c) n xs) : n ≤ c ∧ c ≤ 9223372036854775807 ∧ (ao = none → c = 0) := by
 rcases h.2 with ⟨e, _⟩ | ⟨_, _, _, e, _, _, h1, h2, _⟩
 ·simp at e; obtain ⟨rfl, rfl, rfl⟩ := e; exact ⟨by omega, by omega, fun _ => rfl⟩
 ·simp at e; obtain ⟨rfl, rfl⟩ := e; unfold maxLen at h2; exact ⟨by omega, by omega, fun k => by simp at k⟩
theorem infoNode : (Try.prog.info? 38).map (fun i => (i.zero, i.size, i.bytes)) = some (some (.agg (Nv.cells nv0)), 10, 136) := by kernel_rfl
theorem emptyN {w : World} {B : Nat} (hB : B ≤ w.heap.size) : (w.alloc (.cells #[] 38)).ownsRow B 38 10 (.slice (some ⟨w.heap.size, 0, none⟩) 0 0) 0 (nvs []) :=
 ⟨rfl, .inr ⟨w.heap.size, 0, #[], rfl, hB, heap_alloc_new w _, Nat.le_refl _, by unfold maxLen; omega, rfl, rfl⟩⟩
theorem nvs_one (V : List Nv) : ∀ u ∈ nvs V, u.oneCell' = true := by
 intro u hu
 simp only [nvs, List.mem_flatMap] at hu
 obtain ⟨v, _, hv⟩ := hu
 simp only [Nv.cells, List.mem_cons, List.not_mem_nil, or_false] at hv
 rcases hv with h | h | h | h | h | h | h | h | h | h <;> (rw [h]; rfl)
theorem wpList_append_nod (w : World) {ops : Array Oper} {rest : List Oper} {o : Oper} {a : Act} {Q : Exit → Act → World → Prop} (hgd : o.guard = none) (s x : Operand)
  (ho : o.op = .call { callee := .builtin .append, args := #[s, x], argTypes := #[22, 22] })
  (base : Nat) (vo : Option Addr) (n vc : Nat) (V : List Nv) (hs : a.eval s = .slice vo n vc) (hown : w.ownsRow base 38 10 (.slice vo n vc) n (nvs V))
  (ao : Option Addr) (m c : Nat) (U : List Nv) (hx : a.eval x = .slice ao m c) (hb : Sh w ao m U) (hnil : ao = none → c = 0)
  (hbd : n + m ≤ 1000000) (hbase : base ≤ w.heap.size)
  (h : ∀ ao' c' w', w'.ownsRow base 38 10 (.slice ao' (n + m) c') (n + m) (nvs (V ++ U)) → w.grownBy w' (Value.slice vo n vc).ownBlock → wpList Try.prog ops Q rest (a.put o.dst (.slice ao' (n + m) c')) w') :
  wpList Try.prog ops Q (o :: rest) a w := by
 obtain ⟨i0, hi, hz0, hz1, hz2⟩ := info_parts infoNode
 obtain ⟨hz, h0⟩ := hb
 cases ao with
 | none =>
  obtain rfl : c = 0 := hnil rfl
  obtain rfl : m = 0 := by
   rcases h0 with h0 | ⟨b, off, h1, _⟩
   ·exact h0
   ·simp at h1
  obtain rfl : U = [] := List.eq_nil_of_length_eq_zero hz
  refine wpList_append_own_none hgd s x _ ho base 38 i0 10 Try.underlying22 hi _ n (nvs V) hs hown hx ?_
  have := h vo vc w (by simpa using hown) (World.grownBy.refl _ _)
  simpa using this
 | some ad =>
  refine wpList_append_own w hgd s x _ ho base 38 i0 (.agg (Nv.cells nv0)) 10 136 Try.underlying22 hi hz0 hz1 hz2 rfl (by decide) _ n (nvs V) hs hown ad m c (nvs U) hx (by rw [nvs_length]; omega) ?_ (nvs_one _) (by unfold maxLen; omega) (by omega) hbase ?_
  ·rcases h0 with h0 | ⟨b, off, h1, _, hseg⟩
   ·have : U = [] := List.eq_nil_of_length_eq_zero (by omega)
    subst this
    intro j u hu; simp [nvs] at hu
   ·obtain rfl := Option.some.inj h1
    intro j u hu
    have hj : j < (nvs U).length := (List.getElem?_eq_some_iff.1 hu).1
    rw [nvs_length, hz] at hj
    have e : j = j / 10 * 10 + j % 10 := by omega
    have hq : j / 10 < m := by omega
    have hr : j % 10 < 10 := by omega
    rw [e, nvs_get U _ _ (by omega) hr] at hu
    rw [Addr.add_lit]
    have := (hseg (j / 10) hq).cell (j % 10) hr
    rw [gv_lt U _ (by omega)] at this
    rw [show off + j = off + j / 10 * 10 + j % 10 by omega, this]
    exact hu
  ·intro v' w' h2 h3 _
   obtain ⟨ao', c', rfl⟩ := owns_shape h2
   exact h ao' c' w' (by rw [nvs_append]; exact h2) h3
theorem sh_one (w : World) (v : Nv) : Sh (w.alloc (.cells v.cells 38)) (some ⟨w.heap.size, 0, none⟩) 1 [v] := by
 refine ⟨rfl, .inr ⟨w.heap.size, 0, rfl, by simp, fun i hi => ?_⟩⟩
 obtain rfl : i = 0 := by omega
 obtain ⟨_, b0, b1, b2, b3, b4, b5, b6, b7, b8, b9⟩ := boxed w v
 exact ⟨b0, b1, b2, b3, b4, b5, b6, b7, b8, b9⟩
def cells2 (v u : Nv) : Array Value := #[.slice v.na v.nn v.nc, .int .i64 v.ino, .int .i64 v.kind, .int .i64 v.mode, .int .i64 v.uid, .int .i64 v.gid, .slice v.da v.dn v.dc, .string v.tg, .slice v.xa v.xn v.xc, .bool v.op, .slice u.na u.nn u.nc, .int .i64 u.ino, .int .i64 u.kind, .int .i64 u.mode, .int .i64 u.uid, .int .i64 u.gid, .slice u.da u.dn u.dc, .string u.tg, .slice u.xa u.xn u.xc, .bool u.op]
theorem sh_two (w : World) (v u : Nv) : Sh (w.alloc (.cells (cells2 v u) 38)) (some ⟨w.heap.size, 0, none⟩) 2 [v, u] := by
 refine ⟨rfl, .inr ⟨w.heap.size, 0, rfl, by simp, fun i hi => ?_⟩⟩
 match i, hi with
 | 0, _ => constructor <;> simp [cells2, gv]
 | 1, _ => constructor <;> simp [cells2, gv]
theorem sh_one' {w : World} {v : Nv} {p : Nat} (hp : p = w.heap.size) : Sh (w.alloc (.cells v.cells 38)) (some ⟨p, 0, none⟩) 1 [v] := by
 subst hp; exact sh_one w v
theorem sh_two' {w : World} {v u : Nv} {p : Nat} (hp : p = w.heap.size) : Sh (w.alloc (.cells (cells2 v u) 38)) (some ⟨p, 0, none⟩) 2 [v, u] := by
 subst hp; exact sh_two w v u
end Go.Proofs.Ytgnjifdaccphhaa
namespace Go.Proofs.Ytgnjifdaccphhaa
open Nam Tre
namespace Upr
structure En where
 dir : Int
 nam : ByteArray
 ref : Int
structure Us where
 L : List Nod
 E : List En
 nx : Int
def nd (u : Us) (r : Int) : Option Nod := u.L.find? (fun n => decide (n.ino = r))
def en (u : Us) (d : Int) (s : ByteArray) : Option En := u.E.find? (fun e => decide (e.dir = d ∧ e.nam = s))
def cnt (u : Us) (r : Int) : Nat := u.E.countP (fun e => decide (e.ref = r))
def lks (u : Us) (r : Int) : Nat := if r = 1 then 1 else cnt u r
def kin (u : Us) (d : Int) : Nat := u.E.countP (fun e => decide (e.dir = d))
def knd (u : Us) (r : Int) : Int := ((nd u r).map Nod.kind).getD 0
def mayU (n : Nod) : Bool :=
 if n.kind = 4 then decide ((n.mode = 0 ∧ n.uid = 0 ∧ n.gid = 0) ∧ n.data.length = 0 ∧ n.target.toList = [] ∧ n.xs.length = 0)
 else may { n with opq := false }
open Classical in
def u0 : Us := ⟨[⟨[], 1, 1, 493, 0, 0, [], ⟨#[]⟩, [], false⟩], [], 2⟩
structure Wf (u : Us) : Prop where
 ino : (u.L.map Nod.ino).Nodup
 rng : ∀ n ∈ u.L, 1 ≤ n.ino ∧ n.ino < u.nx
 nms : ∀ n ∈ u.L, n.names = []
 may : ∀ n ∈ u.L, mayU n = true
 opq : ∀ n ∈ u.L, n.opq = true → n.kind = 1
 root : ∃ n ∈ u.L, n.ino = 1 ∧ n.kind = 1
 key : u.E.Pairwise (fun a b => ¬ (a.dir = b.dir ∧ a.nam = b.nam))
 dir : ∀ e ∈ u.E, ∃ n ∈ u.L, n.ino = e.dir ∧ n.kind = 1
 ref : ∀ e ∈ u.E, e.ref ≠ 1 ∧ ∃ n ∈ u.L, n.ino = e.ref
 has : ∀ n ∈ u.L, n.ino ≠ 1 → ∃ e ∈ u.E, e.ref = n.ino
 one : ∀ n ∈ u.L, n.kind = 1 → ∀ a ∈ u.E, ∀ b ∈ u.E, a.ref = n.ino → b.ref = n.ino → a = b
 nam : ∀ e ∈ u.E, valid e.nam.toList = 0
 top : ∃ rk : Int → Nat, ∀ e ∈ u.E, ∀ n ∈ u.L, n.ino = e.ref → n.kind = 1 → rk e.dir < rk e.ref
theorem u0_wf : Wf u0 := by
 refine ⟨by simp [u0], ?_, ?_, ?_, ?_, ⟨_, List.mem_singleton.2 rfl, rfl, rfl⟩, List.Pairwise.nil, ?_, ?_, ?_, ?_, ?_, ⟨fun _ => 0, ?_⟩⟩
 ·intro n hn; rw [List.mem_singleton.1 hn]; exact ⟨by decide, by decide⟩
 ·intro n hn; rw [List.mem_singleton.1 hn]
 ·intro n hn; rw [List.mem_singleton.1 hn]; simp [mayU, may, kdOk, attrOk, xsOk, xs1]
 ·intro n hn; rw [List.mem_singleton.1 hn]; intro h; cases h
 ·intro e he; simp [u0] at he
 ·intro e he; simp [u0] at he
 ·intro n hn h1; rw [List.mem_singleton.1 hn] at h1; exact absurd rfl h1
 ·intro n hn _ a ha; simp [u0] at ha
 ·intro e he; simp [u0] at he
 ·intro e he; simp [u0] at he
end Upr
end Go.Proofs.Ytgnjifdaccphhaa
namespace Go.Proofs.Ytgnjifdaccphhaa
open Go.RowKit Go.Maps
open Nam Tre
open Lz (g)
namespace Upr
structure Cl where
 k : Nat
 r : Int
def Cl.no : Cl := ⟨0, 0⟩
def Cl.up : Cl := ⟨1, 0⟩
def Cl.nds : Cl := ⟨2, 0⟩
def Cl.nod (r : Int) : Cl := ⟨3, r⟩
def Cl.ent (r : Int) : Cl := ⟨4, r⟩
def Cl.dat : Cl := ⟨5, 0⟩
def XatC (c : Nat → Cl) (w : World) (b o : Nat) (x : ByteArray × List Int) : Prop :=
 w.cell? ⟨b, o, none⟩ = some (.string x.1) ∧ ∃ va vn vc, w.cell? ⟨b, o + 1, none⟩ = some (.slice va vn vc) ∧ Bs w va vn x.2 ∧ (∀ a, va = some a → 0 < vn → c a.block = .dat) ∧ vn ≤ vc ∧ vc ≤ 9223372036854775807 ∧ (va = none → vc = 0) ∧ x.1.size ≤ 9223372036854775807
def XsC (c : Nat → Cl) (w : World) (ao : Option Addr) (n : Nat) (xs : List (ByteArray × List Int)) : Prop :=
 xs.length = n ∧ (n = 0 ∨ ∃ b off, ao = some ⟨b, off, none⟩ ∧ b < w.heap.size ∧ c b = .dat ∧ ∀ i, i < n → XatC c w b (off + i * 2) (gx xs i))
structure Pv where
 da : Option Addr
 dn : Nat
 dc : Nat
 xa : Option Addr
 xn : Nat
 xc : Nat
def ncs (n : Nod) (v : Pv) (lk : Int) (em : Value) (pr : Int) : Array Value :=
 #[.slice none 0 0, .int .i64 0, .int .i64 n.kind, .int .i64 n.mode, .int .i64 n.uid, .int .i64 n.gid, .slice v.da v.dn v.dc, .string n.target, .slice v.xa v.xn v.xc, .bool n.opq, .int .i64 lk, em, .int .i64 pr]
structure NB (c : Nat → Cl) (w : World) (b : Nat) (n : Nod) (v : Pv) (lk : Int) (em : Value) (pr : Int) : Prop where
 box : w.heap[b]? = some (.cells (ncs n v lk em pr) 60 (0, 0))
 data : Bs w v.da v.dn n.data
 dcol : ∀ a, v.da = some a → 0 < v.dn → c a.block = .dat
 dc : v.dn ≤ v.dc
 dcm : v.dc ≤ 9223372036854775807
 dnil : v.da = none → v.dc = 0
 xs : XsC c w v.xa v.xn n.xs
 xc : v.xn ≤ v.xc
 xcm : v.xc ≤ 9223372036854775807
 xnil : v.xa = none → v.xc = 0
def ndF (u : Us) (nb : Int → Nat) (r : Int) : Option Value := (nd u r).map (fun _ => .pointer (some ⟨nb r, 0, none⟩))
def enF (u : Us) (d : Int) (s : ByteArray) : Option Value := (en u d s).map (fun e => .int .i64 e.ref)
structure UB (w : World) (p : Nat) (c : Nat → Cl) (q : Int × Int × Int) (u : Us) (lk pr : Int → Int) (m : Nat) (nb eb : Int → Nat) : Prop where
 box : w.heap[p]? = some (.cells #[.int .i64 q.1, .int .i64 q.2.1, .map (some m), .int .i64 q.2.2] 47 (0, 0))
 cp : c p = .up
 cm : c m = .nds
 map : MpI w m u.L.length (ndF u nb)
 nod : ∀ n ∈ u.L, ∃ v, NB c w (nb n.ino) n v (lk n.ino) (.map (if n.kind = 1 then some (eb n.ino) else none)) (if n.kind = 1 then pr n.ino else 0)
 cn : ∀ n ∈ u.L, c (nb n.ino) = .nod n.ino
 ent : ∀ n ∈ u.L, n.kind = 1 → MpS w (eb n.ino) (kin u n.ino) (enF u n.ino)
 ce : ∀ n ∈ u.L, n.kind = 1 → c (eb n.ino) = .ent n.ino
 low : ∀ b, c b ≠ .no → b < w.heap.size
 ino : (u.L.map Nod.ino).Nodup
 rng : ∀ n ∈ u.L, 1 ≤ n.ino ∧ n.ino < u.nx
 key : u.E.Pairwise (fun a b => ¬ (a.dir = b.dir ∧ a.nam = b.nam))
 kd : ∀ n ∈ u.L, mayU n = true
section
variable {c c' : Nat → Cl} {w w' : World} {S : Nat → Prop}
theorem XatC.fr {b o : Nat} {x : ByteArray × List Int} (h : XatC c w b o x) (hf : Fr S w w') (hb : b < w.heap.size) (hn : ¬ S b) (hd : ∀ k, c k = .dat → ¬ S k) : XatC c w' b o x := by
 obtain ⟨h1, va, vn, vc, h2, h3, h4, h5⟩ := h
 exact ⟨(hf.cell (q := ⟨b, o, none⟩) hb hn).trans h1, va, vn, vc, (hf.cell (q := ⟨b, o + 1, none⟩) hb hn).trans h2, h3.fr hf (fun a ha h0 => hd _ (h4 a ha h0)), h4, h5⟩
theorem XsC.fr {ao : Option Addr} {n : Nat} {xs : List (ByteArray × List Int)} (h : XsC c w ao n xs) (hf : Fr S w w') (hd : ∀ k, c k = .dat → ¬ S k) : XsC c w' ao n xs := by
 refine ⟨h.1, ?_⟩
 rcases h.2 with h0 | ⟨b, off, h1, h2, h3, h4⟩
 ·exact .inl h0
 ·exact .inr ⟨b, off, h1, Nat.lt_of_lt_of_le h2 hf.size, h3, fun i hi => (h4 i hi).fr hf h2 (hd _ h3) hd⟩
theorem XatC.col {b o : Nat} {x : ByteArray × List Int} (h : XatC c w b o x) (hc : ∀ k, c k = .dat → c' k = .dat) : XatC c' w b o x := by
 obtain ⟨h1, va, vn, vc, h2, h3, h4, h5⟩ := h
 exact ⟨h1, va, vn, vc, h2, h3, fun a ha h0 => hc _ (h4 a ha h0), h5⟩
theorem XsC.col {ao : Option Addr} {n : Nat} {xs : List (ByteArray × List Int)} (h : XsC c w ao n xs) (hc : ∀ k, c k = .dat → c' k = .dat) : XsC c' w ao n xs := by
 refine ⟨h.1, ?_⟩
 rcases h.2 with h0 | ⟨b, off, h1, h2, h3, h4⟩
 ·exact .inl h0
 ·exact .inr ⟨b, off, h1, h2, hc _ h3, fun i hi => (h4 i hi).col hc⟩
theorem NB.fr {b : Nat} {n : Nod} {v : Pv} {lk : Int} {em : Value} {pr : Int} (h : NB c w b n v lk em pr) (hf : Fr S w w') (hb : ¬ S b) (hd : ∀ k, c k = .dat → ¬ S k) : NB c w' b n v lk em pr :=
 { h with box := (hf.block b (heap_lt h.box) hb).trans h.box, data := h.data.fr hf (fun a ha h0 => hd _ (h.dcol a ha h0)), xs := h.xs.fr hf hd }
theorem NB.col {b : Nat} {n : Nod} {v : Pv} {lk : Int} {em : Value} {pr : Int} (h : NB c w b n v lk em pr) (hc : ∀ k, c k = .dat → c' k = .dat) : NB c' w b n v lk em pr :=
 { h with dcol := fun a ha h0 => hc _ (h.dcol a ha h0), xs := h.xs.col hc }
end
end Upr
end Go.Proofs.Ytgnjifdaccphhaa
namespace Go.Proofs.Ytgnjifdaccphhaa
open Go.RowKit Go.Maps
open Nam Tre
open Lz (g)
namespace Upr
end Upr
end Go.Proofs.Ytgnjifdaccphhaa
namespace Go.Proofs.Ytgnjifdaccphhaa
open Go.RowKit Go.Maps
open Nam Tre
open Lz (g)
namespace Upr
end Upr
end Go.Proofs.Ytgnjifdaccphhaa
namespace Go.Proofs.Ytgnjifdaccphhaa
open Go.RowKit Go.Maps
open Nam Tre
namespace Tre
def cut18 (n : Nod) : Nod := { n with names := n.names.take 18, data := n.data.take 1500, xs := n.xs.take 10 }
end Tre
def cutv18 (v : Nv) : Nv := { v with nn := min v.nn 18, dn := min v.dn 1500, xn := min v.xn 10 }
theorem rep_cut18 {w : World} {v : Nv} {n : Nod} (h : Rep w v n) : Rep w (cutv18 v) (Tre.cut18 n) where
 names := by
  have := h.names.take (min v.nn 18) (by omega)
  have e : n.names.take (min v.nn 18) = n.names.take 18 := by rw [← h.names.1, Nat.min_comm, ← List.take_take, List.take_length]
  rw [e] at this; exact this
 nc := by have := h.nc; show min v.nn 18 ≤ v.nc; omega
 ncm := h.ncm
 nnil := h.nnil
 ino := h.ino
 in64 := h.in64
 kind := h.kind
 mode := h.mode
 uid := h.uid
 gid := h.gid
 data := by
  have := h.data.take (min v.dn 1500) (by omega)
  have e : n.data.take (min v.dn 1500) = n.data.take 1500 := by rw [← h.data.1, Nat.min_comm, ← List.take_take, List.take_length]
  rw [e] at this; exact this
 dc := by have := h.dc; show min v.dn 1500 ≤ v.dc; omega
 dcm := h.dcm
 dnil := h.dnil
 tg := h.tg
 tgm := h.tgm
 xs := by
  have := h.xs.take (min v.xn 10) (by omega)
  have e : n.xs.take (min v.xn 10) = n.xs.take 10 := by rw [← h.xs.1, Nat.min_comm, ← List.take_take, List.take_length]
  rw [e] at this; exact this
 xc := by have := h.xc; show min v.xn 10 ≤ v.xc; omega
 xcm := h.xcm
 xnil := h.xnil
 op := h.op
def fewL18 (L : List (Nv × Nod)) : List (Nv × Nod) := (L.take 40).map (fun p => (cutv18 p.1, Tre.cut18 p.2))
theorem fewL18_length (L : List (Nv × Nod)) : (fewL18 L).length = min 40 L.length := by simp [fewL18]
theorem fewL18_rep {w : World} {L : List (Nv × Nod)} (h : ∀ p ∈ L, Rep w p.1 p.2) : ∀ p ∈ fewL18 L, Rep w p.1 p.2 := by
 intro p hp
 simp only [fewL18, List.mem_map] at hp
 obtain ⟨q, hq, rfl⟩ := hp
 exact rep_cut18 (h q (List.mem_of_mem_take hq))
theorem fewL18_take (L : List (Nv × Nod)) (i : Nat) (h : i < L.length) (h2 : i < 40) : ((fewL18 L).take (i + 1)).map (·.1) = ((fewL18 L).take i).map (·.1) ++ [cutv18 (gl L i).1] := by
 rw [List.take_succ_eq_append_getElem (by rw [fewL18_length]; omega), List.map_append, gl_lt L i h]
 simp [fewL18]
set_option maxRecDepth 100000 in
set_option maxHeartbeats 1000000 in
theorem few18_any (a : Option Addr) (n c : Nat) (L : List (Nv × Nod)) (w : World) (hl : Ns w a n L) (hc : n ≤ c) (hcm : c ≤ 9223372036854775807) :
  Calls Try.prog 5 #[.slice a n c] w fun e w' => ∃ ao k c', e = .returned (.slice ao k c') ∧ k ≤ 40 ∧ w'.ownsRow w.heap.size 38 10 (.slice ao k c') k (nvs ((fewL18 L).map (·.1))) ∧ Ns w' ao k (fewL18 L) ∧ Below w.heap.size w w' := by
 have HL := hide hl
 have HLN := hide hl.1
 clear hl
 go_enter Try.func5, Try.ntmps5
 go_wp2
 go_loopw [3, 4, 5] (fun r3 r _ wr => ∃ (i : Nat) (ao : Option Addr) (c' : Nat), r3 = .slice ao i c' ∧ r = .int .i64 i ∧ i ≤ n ∧ i ≤ 40 ∧ w.heap.size < wr.heap.size ∧ wr.ownsRow w.heap.size 38 10 (.slice ao i c') i (nvs (((fewL18 L).take i).map (·.1))) ∧ Below w.heap.size w wr) (fun _ r _ _ => n - (intOf r).toNat)
 case atStart => exact ⟨0, _, _, rfl, rfl, Nat.zero_le _, by omega, by simp, emptyN (Nat.le_refl _), (Below.refl _ _).alloc (Nat.le_refl _) _⟩
 case round =>
  obtain ⟨i, ao, c', rfl, rfl, hi0, hi60, hsz, hown, hbel⟩ := hrel
  have HB := hide hbel
  have HO := hide hown
  by_cases hi : i < n
  ·have hd : decide ((i : Int) < n) = true := by simpa using hi
   by_cases h60 : i < 40
   ·have hd2 : decide ((i : Int) < 40) = true := by simp; omega
    obtain ⟨ba, oa, rfl, hba, hca⟩ := (HL.out.below hbel).at (by omega)
    obtain ⟨c0, c1, c2, c3, c4, c5, c6, c7, c8, c9⟩ := hca i hi
    have hr := HL.out.rep i hi
    have HT := hide (fewL18_take L i (by rw [HLN.out]; exact hi) h60)
    have x1 := hr.nc
    have x2 := hr.ncm
    have x3 := hr.dc
    have x4 := hr.dcm
    have x5 := hr.xc
    have x6 := hr.xcm
    generalize (gl L i).1 = v at *
    obtain ⟨V, hV⟩ : ∃ V, V = ((fewL18 L).take i).map (·.1) := ⟨_, rfl⟩
    rw [← hV] at hown HT
    have HO2 := hide hown
    clear hca hr hown hbel HO hV
    by_cases h1 : 18 < v.nn
    all_goals by_cases h2 : 1500 < v.dn
    all_goals by_cases h3 : 10 < v.xn
    ·have HCV : Hid (cutv18 v = ⟨v.na, 18, v.nc, v.ino, v.kind, v.mode, v.uid, v.gid, v.da, 1500, v.dc, v.tg, v.xa, 10, v.xc, v.op⟩) := by show _ = _; simp only [cutv18]; congr 1 <;> omega
     have g1 : (18 : Int) < v.nn := by omega
     have g2 : (1500 : Int) < v.dn := by omega
     have g3 : (10 : Int) < v.xn := by omega
     rw [HCV.out] at HT
     go_wp2_with (at_builtin; refine wpList_append_nod _ rfl _ _ rfl w.heap.size _ _ _ V rfl ((HO2.out.alloc _).alloc _) _ _ _ _ rfl (sh_one' (v := ⟨v.na, 18, v.nc, v.ino, v.kind, v.mode, v.uid, v.gid, v.da, 1500, v.dc, v.tg, v.xa, 10, v.xc, v.op⟩) (by simp)) (fun h => by cases h) (by omega) (by simp; omega) ?_)
     intro ao2 k2 w2 hown2 hg2
     rw [← HT.out] at hown2
     have e2 := hide (((HB.out.alloc (by omega) _).alloc (by simp; omega) _).grown hg2 (by simp; omega) (fun k e => (HO2.out.lt k e).1))
     have s2 := hg2.size
     simp only [World.size_alloc] at s2
     have HO3 := hide hown2
     clear hown2 hg2 HCV HT
     go_wp2
     exact ⟨⟨i + 1, ao2, k2, rfl, by go_num, by omega, by omega, by omega, HO3.out, e2.out⟩, by simp [intOf]; omega⟩
    ·have HCV : Hid (cutv18 v = ⟨v.na, 18, v.nc, v.ino, v.kind, v.mode, v.uid, v.gid, v.da, 1500, v.dc, v.tg, v.xa, v.xn, v.xc, v.op⟩) := by show _ = _; simp only [cutv18]; congr 1 <;> omega
     have g1 : (18 : Int) < v.nn := by omega
     have g2 : (1500 : Int) < v.dn := by omega
     have g3 : ¬ (10 : Int) < v.xn := by omega
     rw [HCV.out] at HT
     go_wp2_with (at_builtin; refine wpList_append_nod _ rfl _ _ rfl w.heap.size _ _ _ V rfl ((HO2.out.alloc _).alloc _) _ _ _ _ rfl (sh_one' (v := ⟨v.na, 18, v.nc, v.ino, v.kind, v.mode, v.uid, v.gid, v.da, 1500, v.dc, v.tg, v.xa, v.xn, v.xc, v.op⟩) (by simp)) (fun h => by cases h) (by omega) (by simp; omega) ?_)
     intro ao2 k2 w2 hown2 hg2
     rw [← HT.out] at hown2
     have e2 := hide (((HB.out.alloc (by omega) _).alloc (by simp; omega) _).grown hg2 (by simp; omega) (fun k e => (HO2.out.lt k e).1))
     have s2 := hg2.size
     simp only [World.size_alloc] at s2
     have HO3 := hide hown2
     clear hown2 hg2 HCV HT
     go_wp2
     exact ⟨⟨i + 1, ao2, k2, rfl, by go_num, by omega, by omega, by omega, HO3.out, e2.out⟩, by simp [intOf]; omega⟩
    ·have HCV : Hid (cutv18 v = ⟨v.na, 18, v.nc, v.ino, v.kind, v.mode, v.uid, v.gid, v.da, v.dn, v.dc, v.tg, v.xa, 10, v.xc, v.op⟩) := by show _ = _; simp only [cutv18]; congr 1 <;> omega
     have g1 : (18 : Int) < v.nn := by omega
     have g2 : ¬ (1500 : Int) < v.dn := by omega
     have g3 : (10 : Int) < v.xn := by omega
     rw [HCV.out] at HT
     go_wp2_with (at_builtin; refine wpList_append_nod _ rfl _ _ rfl w.heap.size _ _ _ V rfl ((HO2.out.alloc _).alloc _) _ _ _ _ rfl (sh_one' (v := ⟨v.na, 18, v.nc, v.ino, v.kind, v.mode, v.uid, v.gid, v.da, v.dn, v.dc, v.tg, v.xa, 10, v.xc, v.op⟩) (by simp)) (fun h => by cases h) (by omega) (by simp; omega) ?_)
     intro ao2 k2 w2 hown2 hg2
     rw [← HT.out] at hown2
     have e2 := hide (((HB.out.alloc (by omega) _).alloc (by simp; omega) _).grown hg2 (by simp; omega) (fun k e => (HO2.out.lt k e).1))
     have s2 := hg2.size
     simp only [World.size_alloc] at s2
     have HO3 := hide hown2
     clear hown2 hg2 HCV HT
     go_wp2
     exact ⟨⟨i + 1, ao2, k2, rfl, by go_num, by omega, by omega, by omega, HO3.out, e2.out⟩, by simp [intOf]; omega⟩
    ·have HCV : Hid (cutv18 v = ⟨v.na, 18, v.nc, v.ino, v.kind, v.mode, v.uid, v.gid, v.da, v.dn, v.dc, v.tg, v.xa, v.xn, v.xc, v.op⟩) := by show _ = _; simp only [cutv18]; congr 1 <;> omega
     have g1 : (18 : Int) < v.nn := by omega
     have g2 : ¬ (1500 : Int) < v.dn := by omega
     have g3 : ¬ (10 : Int) < v.xn := by omega
     rw [HCV.out] at HT
     go_wp2_with (at_builtin; refine wpList_append_nod _ rfl _ _ rfl w.heap.size _ _ _ V rfl ((HO2.out.alloc _).alloc _) _ _ _ _ rfl (sh_one' (v := ⟨v.na, 18, v.nc, v.ino, v.kind, v.mode, v.uid, v.gid, v.da, v.dn, v.dc, v.tg, v.xa, v.xn, v.xc, v.op⟩) (by simp)) (fun h => by cases h) (by omega) (by simp; omega) ?_)
     intro ao2 k2 w2 hown2 hg2
     rw [← HT.out] at hown2
     have e2 := hide (((HB.out.alloc (by omega) _).alloc (by simp; omega) _).grown hg2 (by simp; omega) (fun k e => (HO2.out.lt k e).1))
     have s2 := hg2.size
     simp only [World.size_alloc] at s2
     have HO3 := hide hown2
     clear hown2 hg2 HCV HT
     go_wp2
     exact ⟨⟨i + 1, ao2, k2, rfl, by go_num, by omega, by omega, by omega, HO3.out, e2.out⟩, by simp [intOf]; omega⟩
    ·have HCV : Hid (cutv18 v = ⟨v.na, v.nn, v.nc, v.ino, v.kind, v.mode, v.uid, v.gid, v.da, 1500, v.dc, v.tg, v.xa, 10, v.xc, v.op⟩) := by show _ = _; simp only [cutv18]; congr 1 <;> omega
     have g1 : ¬ (18 : Int) < v.nn := by omega
     have g2 : (1500 : Int) < v.dn := by omega
     have g3 : (10 : Int) < v.xn := by omega
     rw [HCV.out] at HT
     go_wp2_with (at_builtin; refine wpList_append_nod _ rfl _ _ rfl w.heap.size _ _ _ V rfl ((HO2.out.alloc _).alloc _) _ _ _ _ rfl (sh_one' (v := ⟨v.na, v.nn, v.nc, v.ino, v.kind, v.mode, v.uid, v.gid, v.da, 1500, v.dc, v.tg, v.xa, 10, v.xc, v.op⟩) (by simp)) (fun h => by cases h) (by omega) (by simp; omega) ?_)
     intro ao2 k2 w2 hown2 hg2
     rw [← HT.out] at hown2
     have e2 := hide (((HB.out.alloc (by omega) _).alloc (by simp; omega) _).grown hg2 (by simp; omega) (fun k e => (HO2.out.lt k e).1))
     have s2 := hg2.size
     simp only [World.size_alloc] at s2
     have HO3 := hide hown2
     clear hown2 hg2 HCV HT
     go_wp2
     exact ⟨⟨i + 1, ao2, k2, rfl, by go_num, by omega, by omega, by omega, HO3.out, e2.out⟩, by simp [intOf]; omega⟩
    ·have HCV : Hid (cutv18 v = ⟨v.na, v.nn, v.nc, v.ino, v.kind, v.mode, v.uid, v.gid, v.da, 1500, v.dc, v.tg, v.xa, v.xn, v.xc, v.op⟩) := by show _ = _; simp only [cutv18]; congr 1 <;> omega
     have g1 : ¬ (18 : Int) < v.nn := by omega
     have g2 : (1500 : Int) < v.dn := by omega
     have g3 : ¬ (10 : Int) < v.xn := by omega
     rw [HCV.out] at HT
     go_wp2_with (at_builtin; refine wpList_append_nod _ rfl _ _ rfl w.heap.size _ _ _ V rfl ((HO2.out.alloc _).alloc _) _ _ _ _ rfl (sh_one' (v := ⟨v.na, v.nn, v.nc, v.ino, v.kind, v.mode, v.uid, v.gid, v.da, 1500, v.dc, v.tg, v.xa, v.xn, v.xc, v.op⟩) (by simp)) (fun h => by cases h) (by omega) (by simp; omega) ?_)
     intro ao2 k2 w2 hown2 hg2
     rw [← HT.out] at hown2
     have e2 := hide (((HB.out.alloc (by omega) _).alloc (by simp; omega) _).grown hg2 (by simp; omega) (fun k e => (HO2.out.lt k e).1))
     have s2 := hg2.size
     simp only [World.size_alloc] at s2
     have HO3 := hide hown2
     clear hown2 hg2 HCV HT
     go_wp2
     exact ⟨⟨i + 1, ao2, k2, rfl, by go_num, by omega, by omega, by omega, HO3.out, e2.out⟩, by simp [intOf]; omega⟩
    ·have HCV : Hid (cutv18 v = ⟨v.na, v.nn, v.nc, v.ino, v.kind, v.mode, v.uid, v.gid, v.da, v.dn, v.dc, v.tg, v.xa, 10, v.xc, v.op⟩) := by show _ = _; simp only [cutv18]; congr 1 <;> omega
     have g1 : ¬ (18 : Int) < v.nn := by omega
     have g2 : ¬ (1500 : Int) < v.dn := by omega
     have g3 : (10 : Int) < v.xn := by omega
     rw [HCV.out] at HT
     go_wp2_with (at_builtin; refine wpList_append_nod _ rfl _ _ rfl w.heap.size _ _ _ V rfl ((HO2.out.alloc _).alloc _) _ _ _ _ rfl (sh_one' (v := ⟨v.na, v.nn, v.nc, v.ino, v.kind, v.mode, v.uid, v.gid, v.da, v.dn, v.dc, v.tg, v.xa, 10, v.xc, v.op⟩) (by simp)) (fun h => by cases h) (by omega) (by simp; omega) ?_)
     intro ao2 k2 w2 hown2 hg2
     rw [← HT.out] at hown2
     have e2 := hide (((HB.out.alloc (by omega) _).alloc (by simp; omega) _).grown hg2 (by simp; omega) (fun k e => (HO2.out.lt k e).1))
     have s2 := hg2.size
     simp only [World.size_alloc] at s2
     have HO3 := hide hown2
     clear hown2 hg2 HCV HT
     go_wp2
     exact ⟨⟨i + 1, ao2, k2, rfl, by go_num, by omega, by omega, by omega, HO3.out, e2.out⟩, by simp [intOf]; omega⟩
    ·have HCV : Hid (cutv18 v = ⟨v.na, v.nn, v.nc, v.ino, v.kind, v.mode, v.uid, v.gid, v.da, v.dn, v.dc, v.tg, v.xa, v.xn, v.xc, v.op⟩) := by show _ = _; simp only [cutv18]; congr 1 <;> omega
     have g1 : ¬ (18 : Int) < v.nn := by omega
     have g2 : ¬ (1500 : Int) < v.dn := by omega
     have g3 : ¬ (10 : Int) < v.xn := by omega
     rw [HCV.out] at HT
     go_wp2_with (at_builtin; refine wpList_append_nod _ rfl _ _ rfl w.heap.size _ _ _ V rfl ((HO2.out.alloc _).alloc _) _ _ _ _ rfl (sh_one' (v := ⟨v.na, v.nn, v.nc, v.ino, v.kind, v.mode, v.uid, v.gid, v.da, v.dn, v.dc, v.tg, v.xa, v.xn, v.xc, v.op⟩) (by simp)) (fun h => by cases h) (by omega) (by simp; omega) ?_)
     intro ao2 k2 w2 hown2 hg2
     rw [← HT.out] at hown2
     have e2 := hide (((HB.out.alloc (by omega) _).alloc (by simp; omega) _).grown hg2 (by simp; omega) (fun k e => (HO2.out.lt k e).1))
     have s2 := hg2.size
     simp only [World.size_alloc] at s2
     have HO3 := hide hown2
     clear hown2 hg2 HCV HT
     go_wp2
     exact ⟨⟨i + 1, ao2, k2, rfl, by go_num, by omega, by omega, by omega, HO3.out, e2.out⟩, by simp [intOf]; omega⟩
   ·have hd2 : decide ((i : Int) < 40) = false := by simp; omega
    have HF : Hid (i = 40) := by show _ = _; omega
    have HN : Hid (wr.ownsRow w.heap.size 38 10 (.slice ao i c') i (nvs ((fewL18 L).map (·.1))) ∧ Ns wr ao i (fewL18 L)) := by
     have e : (fewL18 L).take i = fewL18 L := List.take_of_length_le (by rw [fewL18_length]; omega)
     rw [e] at hown
     exact ⟨hown, (sh_of_owns hown).ns (fewL18_rep (HL.out.below hbel).2.1)⟩
    clear hown hbel HO
    go_wp2
    go_ret
    exact ⟨ao, i, c', rfl, by omega, HN.out.1, HN.out.2, HB.out⟩
  ·have hd : decide ((i : Int) < n) = false := by simpa using hi
   have HN : Hid (wr.ownsRow w.heap.size 38 10 (.slice ao i c') i (nvs ((fewL18 L).map (·.1))) ∧ Ns wr ao i (fewL18 L)) := by
    have e : (fewL18 L).take i = fewL18 L := List.take_of_length_le (by rw [fewL18_length, HLN.out]; omega)
    rw [e] at hown
    exact ⟨hown, (sh_of_owns hown).ns (fewL18_rep (HL.out.below hbel).2.1)⟩
   clear hown hbel HO
   go_wp2
   go_ret
   exact ⟨ao, i, c', rfl, by omega, HN.out.1, HN.out.2, HB.out⟩
end Go.Proofs.Ytgnjifdaccphhaa
namespace Go.Proofs.Ytgnjifdaccphhaa
open Go.RowKit Go.Maps
open Nam
theorem drop_all {l : List ByteArray} {i : Nat} (h : l.length ≤ i) : (nm l).drop i = [] := List.drop_eq_nil_of_le (by rw [nm_length]; exact h)
theorem eq_step {l k : List ByteArray} {i : Nat} (h : i < l.length) (h' : i < k.length) : (nm l).drop i = (nm k).drop i ↔ (gs l i).toList = (gs k i).toList ∧ (nm l).drop (i + 1) = (nm k).drop (i + 1) := by
 rw [nm_drop l i h, nm_drop k i h', List.cons.injEq]
set_option maxRecDepth 100000 in
theorem refSame_any (a b : Option Addr) (n c m d : Nat) (l k : List ByteArray) (w : World) (hl : Rs w a n l) (hk : Rs w b m k) (hn : n ≤ 1000000) (hm : m ≤ 1000000) :
  Calls Try.prog 53 #[.slice a n c, .slice b m d] w fun e w' => e = .returned (.bool (decide (nm l = nm k))) ∧ ∃ q, w' = w.drewN q := by
 have HL := hide hl
 have HK := hide hk
 have HLN := hide hl.1
 have HKN := hide hk.1
 clear hl hk
 by_cases hnm : n = m
 ·subst hnm
  go_enter Try.func53, Try.ntmps53
  go_wp2
  go_loopw [5] (fun r wr => ∃ i q : Nat, wr = w.drewN q ∧ r = .int .i64 i ∧ i ≤ n ∧ (nm l = nm k ↔ (nm l).drop i = (nm k).drop i)) (fun r _ => n - (intOf r).toNat)
  case atStart => exact ⟨0, 0, rfl, rfl, Nat.zero_le _, Iff.rfl⟩
  case round =>
   obtain ⟨i, q, rfl, rfl, hi0, hinv⟩ := hrel
   have HI := hide hinv
   clear hinv
   by_cases hp : i < n
   ·have hd : decide ((i : Int) < n) = true := by simpa using hp
    obtain ⟨ba, oa, rfl, hba, hca⟩ := HL.out.at (by omega)
    obtain ⟨bb, ob, rfl, hbb, hcb⟩ := HK.out.at (by omega)
    have c1 := hca i hp
    have c2 := hcb i hp
    have ES := hide (eq_step (l := l) (k := k) (i := i) (by rw [HLN.out]; exact hp) (by rw [HKN.out]; exact hp))
    clear hca hcb
    go_wp2
    go_quiet (fail)
    go_wp2
    ·have e : (!(gs l i).toList == (gs k i).toList) = true := by assumption
     go_ret
     refine ⟨ret_bool ?_, dr2 _ _ _⟩
     symm
     rw [decide_eq_false_iff_not, HI.out, ES.out]
     intro h
     rw [h.1] at e
     simp at e
    ·have e : (!(gs l i).toList == (gs k i).toList) = false := by assumption
     refine ⟨⟨i + 1, _, rfl, by go_num, by omega, ?_⟩, by simp [intOf]; omega⟩
     rw [HI.out, ES.out]
     have : (gs l i).toList = (gs k i).toList := by simpa using e
     simp [this]
   ·have hd : decide ((i : Int) < n) = false := by simpa using hp
    go_wp2
    go_ret
    refine ⟨ret_bool ?_, q, rfl⟩
    symm
    rw [decide_eq_true_eq, HI.out, drop_all (l := l) (by rw [HLN.out]; omega), drop_all (l := k) (by rw [HKN.out]; omega)]
 ·have hnm' : ((n : Int) != m) = true := by simp; omega
  have hne : Hid (false = decide (nm l = nm k)) := by
   show _ = _
   symm
   rw [decide_eq_false_iff_not]
   intro h
   have := congrArg List.length h
   rw [nm_length, nm_length, HLN.out, HKN.out] at this
   exact hnm this
  go_enter Try.func53, Try.ntmps53
  go_wp2
  go_ret
  exact ⟨ret_bool hne.out, 0, rfl⟩
end Go.Proofs.Ytgnjifdaccphhaa

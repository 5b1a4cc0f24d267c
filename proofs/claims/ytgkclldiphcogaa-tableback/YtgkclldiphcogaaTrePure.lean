/- Layer 7, on lists alone: nodes, what is wrong with a tree, nodes in order, numbers of Inos. Nothing here speaks of the program. -/
import Derived.Test.YtgkclldiphcogaaNamRow
namespace Go.Proofs.Ytgkclldiphcogaa
set_option linter.unusedVariables false
open Nam

/-- A node. -/
structure Nod where
  names : List ByteArray
  ino : Int
  kind : Int
  mode : Int
  uid : Int
  gid : Int
  data : List Int
  target : ByteArray
  xs : List (ByteArray × List Int)
  opq : Bool
namespace Tre
/-- Whether two nodes have the same. -/
def alike (a b : Nod) : Bool := decide (a.kind = b.kind ∧ (a.mode = b.mode ∧ a.uid = b.uid ∧ a.gid = b.gid) ∧ a.target = b.target ∧ a.opq = b.opq ∧ a.data = b.data ∧ a.xs = b.xs)
theorem alike_iff (a b : Nod) : alike a b = true ↔ (a.kind = b.kind ∧ (a.mode = b.mode ∧ a.uid = b.uid ∧ a.gid = b.gid) ∧ a.target = b.target ∧ a.opq = b.opq ∧ a.data = b.data ∧ a.xs = b.xs) := by
  unfold alike; exact decide_eq_true_iff
theorem alike_refl (a : Nod) : alike a a = true := (alike_iff a a).2 ⟨rfl, ⟨rfl, rfl, rfl⟩, rfl, rfl, rfl, rfl⟩
theorem alike_symm {a b : Nod} (h : alike a b = true) : alike b a = true := by
  obtain ⟨h1, ⟨h2, h3, h4⟩, h5, h6, h7, h8⟩ := (alike_iff a b).1 h
  exact (alike_iff b a).2 ⟨h1.symm, ⟨h2.symm, h3.symm, h4.symm⟩, h5.symm, h6.symm, h7.symm, h8.symm⟩
theorem alike_trans {a b c : Nod} (h : alike a b = true) (k : alike b c = true) : alike a c = true := by
  obtain ⟨h1, ⟨h2, h3, h4⟩, h5, h6, h7, h8⟩ := (alike_iff a b).1 h
  obtain ⟨k1, ⟨k2, k3, k4⟩, k5, k6, k7, k8⟩ := (alike_iff b c).1 k
  exact (alike_iff a c).2 ⟨h1.trans k1, ⟨h2.trans k2, h3.trans k3, h4.trans k4⟩, h5.trans k5, h6.trans k6, h7.trans k7, h8.trans k8⟩
theorem alike_comm (a b : Nod) : alike a b = alike b a := by
  rw [Bool.eq_iff_iff]; exact ⟨alike_symm, alike_symm⟩

/-- A text of 1 to m bytes, none of them 0. -/
def txt (s : List UInt8) (m : Nat) : Bool := decide (s ≠ []) && decide (s.length ≤ m) && !s.any (· == 0)
/-- Attributes, behind a name. -/
def xs1 : List UInt8 → List (ByteArray × List Int) → Bool
  | _, [] => true
  | a, x :: r => Op.bytesLess a x.1.toList && txt x.1.toList 40 && decide (x.2.length ≤ 200) && xs1 x.1.toList r
def xsOk (xs : List (ByteArray × List Int)) : Bool := decide (xs.length ≤ 8) && xs1 [] xs
def kdOk (n : Nod) : Bool :=
  if n.kind = 1 then decide (n.data.length = 0) && n.target.toList.isEmpty
  else if n.kind = 2 then decide (n.data.length ≤ 4096) && n.target.toList.isEmpty
  else if n.kind = 3 then decide (n.data.length = 0) && txt n.target.toList 200
  else false
def attrOk (n : Nod) : Bool := decide ((0 ≤ n.mode ∧ n.mode ≤ 511) ∧ (0 ≤ n.uid ∧ n.uid ≤ 65535) ∧ 0 ≤ n.gid ∧ n.gid ≤ 65535)
/-- Whether a node may be. -/
def may (n : Nod) : Bool := kdOk n && attrOk n && xsOk n.xs && !n.opq

/-- The error of the first name that has one. -/
def fv : List ByteArray → Int
  | [] => 0
  | s :: r => if valid s.toList = 0 then fv r else valid s.toList
/-- The same, node by node. -/
def wrong : List Nod → Int
  | [] => 0
  | n :: r => if fv n.names = 0 then wrong r else fv n.names
theorem fv_zero : ∀ (l : List ByteArray), fv l = 0 → ∀ s ∈ l, valid s.toList = 0
  | [], _, s, hs => by simp at hs
  | a :: r, h, s, hs => by
    unfold fv at h
    by_cases e : valid a.toList = 0
    · rw [if_pos e] at h
      rcases List.mem_cons.1 hs with rfl | hs
      · exact e
      · exact fv_zero r h s hs
    · rw [if_neg e] at h; exact absurd h e
theorem wrong_zero : ∀ (l : List Nod), wrong l = 0 → ∀ n ∈ l, fv n.names = 0
  | [], _, n, hn => by simp at hn
  | a :: r, h, n, hn => by
    unfold wrong at h
    by_cases e : fv a.names = 0
    · rw [if_pos e] at h
      rcases List.mem_cons.1 hn with rfl | hn
      · exact e
      · exact wrong_zero r h n hn
    · rw [if_neg e] at h; exact absurd h e
def deep (n : Nod) : Bool := decide (16 < n.names.length)
/-- Whether names name a directory. -/
def isDir (l : List Nod) (m : List ByteArray) : Bool :=
  match l.find? (fun n => decide (n.names = m)) with
  | some n => decide (n.kind = 1)
  | none => false
/-- Whether a node stands in a directory. -/
def inDir (l : List Nod) (n : Nod) : Bool := decide (n.names.length = 0) || isDir l n.names.dropLast
/-- Two nodes of one Ino. -/
abbrev one (a b : Nod) : Prop := a.ino = b.ino → b.kind ≠ 1 ∧ alike a b = true
/-- What is wrong with a tree. -/
def check (l : List Nod) : Int :=
  if 1024 < l.length then 3
  else if wrong l ≠ 0 then wrong l
  else if l.any deep = true then 9
  else if ¬ (l.map Nod.names).Nodup then 6
  else if isDir l [] = false then 4
  else if l.all (inDir l) = false then 5
  else if l.all may = false then 7
  else if ¬ l.Pairwise one then 8
  else 0
theorem check_big {l : List Nod} (h : 1024 < l.length) : check l = 3 := by rw [check, if_pos h]
theorem check_name {l : List Nod} (h : ¬ 1024 < l.length) (k : wrong l ≠ 0) : check l = wrong l := by rw [check, if_neg h, if_pos k]
theorem check_deep {l : List Nod} (h : ¬ 1024 < l.length) (k : wrong l = 0) (d : l.any deep = true) : check l = 9 := by
  rw [check, if_neg h, if_neg (by rw [k]; simp), if_pos d]
theorem check_twice {l : List Nod} (h : ¬ 1024 < l.length) (k : wrong l = 0) (d : l.any deep = false) (t : ¬ (l.map Nod.names).Nodup) : check l = 6 := by
  rw [check, if_neg h, if_neg (by rw [k]; simp), if_neg (by rw [d]; simp), if_pos t]
theorem check_root {l : List Nod} (h : ¬ 1024 < l.length) (k : wrong l = 0) (d : l.any deep = false) (t : (l.map Nod.names).Nodup) (r : isDir l [] = false) : check l = 4 := by
  rw [check, if_neg h, if_neg (by rw [k]; simp), if_neg (by rw [d]; simp), if_neg (by simpa using t), if_pos r]
theorem check_parent {l : List Nod} (h : ¬ 1024 < l.length) (k : wrong l = 0) (d : l.any deep = false) (t : (l.map Nod.names).Nodup) (r : isDir l [] = true) (p : l.all (inDir l) = false) : check l = 5 := by
  rw [check, if_neg h, if_neg (by rw [k]; simp), if_neg (by rw [d]; simp), if_neg (by simpa using t), if_neg (by rw [r]; simp), if_pos p]
theorem check_kind {l : List Nod} (h : ¬ 1024 < l.length) (k : wrong l = 0) (d : l.any deep = false) (t : (l.map Nod.names).Nodup) (r : isDir l [] = true) (p : l.all (inDir l) = true) (m : l.all may = false) : check l = 7 := by
  rw [check, if_neg h, if_neg (by rw [k]; simp), if_neg (by rw [d]; simp), if_neg (by simpa using t), if_neg (by rw [r]; simp), if_neg (by rw [p]; simp), if_pos m]
theorem check_links {l : List Nod} (h : ¬ 1024 < l.length) (k : wrong l = 0) (d : l.any deep = false) (t : (l.map Nod.names).Nodup) (r : isDir l [] = true) (p : l.all (inDir l) = true) (m : l.all may = true) (o : ¬ l.Pairwise one) : check l = 8 := by
  rw [check, if_neg h, if_neg (by rw [k]; simp), if_neg (by rw [d]; simp), if_neg (by simpa using t), if_neg (by rw [r]; simp), if_neg (by rw [p]; simp), if_neg (by rw [m]; simp), if_pos o]
theorem check_ok {l : List Nod} (h : ¬ 1024 < l.length) (k : wrong l = 0) (d : l.any deep = false) (t : (l.map Nod.names).Nodup) (r : isDir l [] = true) (p : l.all (inDir l) = true) (m : l.all may = true) (o : l.Pairwise one) : check l = 0 := by
  rw [check, if_neg h, if_neg (by rw [k]; simp), if_neg (by rw [d]; simp), if_neg (by simpa using t), if_neg (by rw [r]; simp), if_neg (by rw [p]; simp), if_neg (by rw [m]; simp), if_neg (by simpa using o)]
theorem valid_vals (l : List UInt8) : valid l = 0 ∨ valid l = 22 ∨ valid l = 23 := by
  unfold valid; split
  · exact .inr (.inr rfl)
  · split
    · exact .inr (.inl rfl)
    · exact .inl rfl
theorem check_zero {l : List Nod} (h : check l = 0) : l.length ≤ 1024 ∧ wrong l = 0 ∧ l.any deep = false ∧ (l.map Nod.names).Nodup ∧ isDir l [] = true ∧ l.all (inDir l) = true ∧ l.all may = true ∧ l.Pairwise one := by
  by_cases h1 : 1024 < l.length
  · rw [check_big h1] at h; cases h
  by_cases h2 : wrong l = 0
  · cases h3 : l.any deep with
    | true => rw [check_deep h1 h2 h3] at h; cases h
    | false =>
      by_cases h4 : (l.map Nod.names).Nodup
      · cases h5 : isDir l [] with
        | false => rw [check_root h1 h2 h3 h4 h5] at h; cases h
        | true =>
          cases h6 : l.all (inDir l) with
          | false => rw [check_parent h1 h2 h3 h4 h5 h6] at h; cases h
          | true =>
            cases h7 : l.all may with
            | false => rw [check_kind h1 h2 h3 h4 h5 h6 h7] at h; cases h
            | true =>
              by_cases h8 : l.Pairwise one
              · exact ⟨by omega, h2, rfl, h4, rfl, rfl, rfl, h8⟩
              · rw [check_links h1 h2 h3 h4 h5 h6 h7 h8] at h; cases h
      · rw [check_twice h1 h2 h3 h4] at h; cases h
  · rw [check_name h1 h2] at h; exact absurd h h2
end Tre
end Go.Proofs.Ytgkclldiphcogaa

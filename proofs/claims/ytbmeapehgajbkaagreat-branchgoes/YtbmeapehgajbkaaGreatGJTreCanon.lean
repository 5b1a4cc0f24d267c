import Derived.Test.YtbmeapehgajbkaaGreatGJTreCheck
import Derived.Test.YtbmeapehgajbkaaGreatGJTreSort
set_option linter.unusedVariables false
namespace Go.Proofs.YtbmeapehgajbkaaGreat
open Go.RowKit Go.Maps
open Nam Tre
namespace Tre
end Tre
end Go.Proofs.YtbmeapehgajbkaaGreat
namespace Go.Proofs.YtbmeapehgajbkaaGreat
open Go.RowKit Go.Maps
open Nam Tre
namespace Tre
end Tre
end Go.Proofs.YtbmeapehgajbkaaGreat
namespace Go.Proofs.YtbmeapehgajbkaaGreat
open Go.RowKit Go.Maps
open Nam Tre
namespace Tre
theorem isDir_mem {l : List Nod} {m : List ByteArray} (h : isDir l m = true) : ∃ n ∈ l, n.names = m ∧ n.kind = 1 := by
 unfold isDir at h
 cases hf : l.find? (fun n => decide (n.names = m)) with
 | none => rw [hf] at h; cases h
 | some n =>
  rw [hf] at h
  exact ⟨n, List.mem_of_find?_eq_some hf, by simpa using List.find?_some hf, by simpa using h⟩
end Tre
end Go.Proofs.YtbmeapehgajbkaaGreat
namespace Go.Proofs.YtbmeapehgajbkaaGreat
open Go.RowKit Go.Maps
open Nam Tre
namespace Tre
end Tre
end Go.Proofs.YtbmeapehgajbkaaGreat
namespace Go.Proofs.YtbmeapehgajbkaaGreat
open Nam Tre
namespace Mrg
end Mrg
end Go.Proofs.YtbmeapehgajbkaaGreat
namespace Go.Proofs.YtbmeapehgajbkaaGreat
open Nam Tre
namespace Mrg
structure Br (l : List Nod) : Prop where
 len : l.length ≤ 1024
 wrong : ∀ n ∈ l, fv n.names = 0
 deep : ∀ n ∈ l, deep n = false
 nodup : (l.map Nod.names).Nodup
 root : ∃ n ∈ l, n.names = [] ∧ n.kind = 1
 dirs : ∀ n ∈ l, n.names ≠ [] → ∃ p ∈ l, p.names = n.names.dropLast ∧ p.kind = 1
 may : ∀ n ∈ l, mayB n = true
 one : l.Pairwise oneB
theorem br_of {l : List Nod} (h : checkB l = 0) : Br l := by
 unfold checkB at h
 split at h
 ·cases h
 rename_i h1
 split at h
 ·rename_i q; exact absurd h q
 rename_i h2
 split at h
 ·cases h
 rename_i h3
 split at h
 ·cases h
 rename_i h4
 split at h
 ·cases h
 rename_i h5
 split at h
 ·cases h
 rename_i h6
 split at h
 ·cases h
 rename_i h7
 split at h
 ·cases h
 rename_i h8
 have h4' := Decidable.not_not.1 h4
 have h8' : l.Pairwise oneB := Classical.byContradiction h8
 refine ⟨by omega, wrong_zero l (Decidable.not_not.1 h2), fun n hn => ?_, h4', isDir_mem (by simpa using h5), fun n hn hne => ?_, List.all_eq_true.1 (by simpa using h7), h8'⟩
 ·cases hq : Tre.deep n with
  | false => rfl
  | true => exact absurd (List.any_eq_true.2 ⟨n, hn, hq⟩) h3
 ·have hd := List.all_eq_true.1 (by simpa using h6) n hn
  unfold inDir at hd
  rw [decide_eq_false (by intro q; exact hne (List.eq_nil_of_length_eq_zero q)), Bool.false_or] at hd
  exact isDir_mem hd
end Mrg
end Go.Proofs.YtbmeapehgajbkaaGreat

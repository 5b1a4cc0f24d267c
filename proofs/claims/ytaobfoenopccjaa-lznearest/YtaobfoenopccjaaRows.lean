/-
  No cell of these rows narrows 'for every input' (looked for: loops, veiled, ifaces, maps, wideKeys, modest, calm, conditions, laid).
  DERIVED. THE GIVEN ROWS OF THIS SEAT. 6 by the template 'for every input the law returns true; each argument reads behind the call as it read before'; 0 by the template 'total and deterministic' (their statements: YtaobfoenopccjaaTotals.lean).
  GIVEN WITH THE SEED: the statements are not yours to turn. If you find one false, say at which input.
  Laid BY PROGRAM, IN A SANDBOX (cutbox-rows.mjs): the forced cells as the released guide's own fill.sh prints them over the translation 8a26b0e2f438d5e8… (all of the seat's roots in one cut). By AI agents, Wed Nov 11 2026. No macro, syntax, notation, axiom, sorry.
-/
import Derived.Test.YtaobfoenopccjaaChecked
import GoSem.Claim
import GoSem.ClaimJoined
import GoSem.ClaimMapViews
import Derived.JoinedTies
import Derived.KernelRfl
namespace Go.Proofs.Ytaobfoenopccjaa
/- THE CELL 'sum', in the pinned program and in every row, IS THE sha256 OF THE DUMP (.gsa) THAT YtaobfoenopccjaaProg.lean LOADS. Nothing in Lean hashes anything: it is a label: what it is worth is what the hold of that sum in a sandbox is worth. -/
noncomputable def Try.pinned : Pinned := { name := "ytaobfoenopccjaa", sum := "8a26b0e2f438d5e84ffa5d1cb2d2bd96ca40e8f54042858e0c48567cd5e6a6a3", checked := Try.checked }
namespace Rows
def none {H : Type} : Left H := { results := [], args := [] }

/-- 'lamellalaw01.LzPacks': WHATEVER THE INPUT: true; the input reads as it did. -/
def lzPacksSpec : ChangeSpec := { name := "lzPacks", fn := fun _ => fun
  | [d] => { results := [.lit (.bool true)], args := [d] }
  | _ => none }
def lzPacksRow : OpenClaim := { program := "ytaobfoenopccjaa", sum := "8a26b0e2f438d5e84ffa5d1cb2d2bd96ca40e8f54042858e0c48567cd5e6a6a3", func := "lamella/lamellalaw01.LzPacks", spec := "lzPacks", apart := false }
def LzPacksSaid : Prop := lzPacksRow.holds Try.pinned (OpenSpec.ofChange lzPacksSpec)

/-- ITS FALSE NEIGHBOUR: 'it returns false'. Refute it at one input. -/
def lzPacksWrong : ChangeSpec := { name := "lzPacks", fn := fun _ => fun
  | [d] => { results := [.lit (.bool false)], args := [d] }
  | _ => none }
def LzPacksWrongFalsely : Prop := lzPacksRow.holds Try.pinned (OpenSpec.ofChange lzPacksWrong)

/-- 'lamellalaw01.LzUnpacks': WHATEVER THE INPUT: true; the input reads as it did. -/
def lzUnpacksSpec : ChangeSpec := { name := "lzUnpacks", fn := fun _ => fun
  | [d1, d2] => { results := [.lit (.bool true)], args := [d1, d2] }
  | _ => none }
def lzUnpacksRow : OpenClaim := { program := "ytaobfoenopccjaa", sum := "8a26b0e2f438d5e84ffa5d1cb2d2bd96ca40e8f54042858e0c48567cd5e6a6a3", func := "lamella/lamellalaw01.LzUnpacks", spec := "lzUnpacks", apart := false }
def LzUnpacksSaid : Prop := lzUnpacksRow.holds Try.pinned (OpenSpec.ofChange lzUnpacksSpec)

/-- ITS FALSE NEIGHBOUR: 'it returns false'. Refute it at one input. -/
def lzUnpacksWrong : ChangeSpec := { name := "lzUnpacks", fn := fun _ => fun
  | [d1, d2] => { results := [.lit (.bool false)], args := [d1, d2] }
  | _ => none }
def LzUnpacksWrongFalsely : Prop := lzUnpacksRow.holds Try.pinned (OpenSpec.ofChange lzUnpacksWrong)

/-- 'lamellalaw01.LzMatches': WHATEVER THE INPUT: true; the input reads as it did. -/
def lzMatchesSpec : ChangeSpec := { name := "lzMatches", fn := fun _ => fun
  | [d1, d2] => { results := [.lit (.bool true)], args := [d1, d2] }
  | _ => none }
def lzMatchesRow : OpenClaim := { program := "ytaobfoenopccjaa", sum := "8a26b0e2f438d5e84ffa5d1cb2d2bd96ca40e8f54042858e0c48567cd5e6a6a3", func := "lamella/lamellalaw01.LzMatches", spec := "lzMatches", apart := false }
def LzMatchesSaid : Prop := lzMatchesRow.holds Try.pinned (OpenSpec.ofChange lzMatchesSpec)

/-- ITS FALSE NEIGHBOUR: 'it returns false'. Refute it at one input. -/
def lzMatchesWrong : ChangeSpec := { name := "lzMatches", fn := fun _ => fun
  | [d1, d2] => { results := [.lit (.bool false)], args := [d1, d2] }
  | _ => none }
def LzMatchesWrongFalsely : Prop := lzMatchesRow.holds Try.pinned (OpenSpec.ofChange lzMatchesWrong)

/-- 'lamellalaw01.LzBack': WHATEVER THE INPUT: true; the input reads as it did. -/
def lzBackSpec : ChangeSpec := { name := "lzBack", fn := fun _ => fun
  | [d] => { results := [.lit (.bool true)], args := [d] }
  | _ => none }
def lzBackRow : OpenClaim := { program := "ytaobfoenopccjaa", sum := "8a26b0e2f438d5e84ffa5d1cb2d2bd96ca40e8f54042858e0c48567cd5e6a6a3", func := "lamella/lamellalaw01.LzBack", spec := "lzBack", apart := false }
def LzBackSaid : Prop := lzBackRow.holds Try.pinned (OpenSpec.ofChange lzBackSpec)

/-- ITS FALSE NEIGHBOUR: 'it returns false'. Refute it at one input. -/
def lzBackWrong : ChangeSpec := { name := "lzBack", fn := fun _ => fun
  | [d] => { results := [.lit (.bool false)], args := [d] }
  | _ => none }
def LzBackWrongFalsely : Prop := lzBackRow.holds Try.pinned (OpenSpec.ofChange lzBackWrong)

/-- 'lamellalaw01.LzShort': WHATEVER THE INPUT: true; the input reads as it did. -/
def lzShortSpec : ChangeSpec := { name := "lzShort", fn := fun _ => fun
  | [d1, d2, d3] => { results := [.lit (.bool true)], args := [d1, d2, d3] }
  | _ => none }
def lzShortRow : OpenClaim := { program := "ytaobfoenopccjaa", sum := "8a26b0e2f438d5e84ffa5d1cb2d2bd96ca40e8f54042858e0c48567cd5e6a6a3", func := "lamella/lamellalaw01.LzShort", spec := "lzShort", apart := false }
def LzShortSaid : Prop := lzShortRow.holds Try.pinned (OpenSpec.ofChange lzShortSpec)

/-- ITS FALSE NEIGHBOUR: 'it returns false'. Refute it at one input. -/
def lzShortWrong : ChangeSpec := { name := "lzShort", fn := fun _ => fun
  | [d1, d2, d3] => { results := [.lit (.bool false)], args := [d1, d2, d3] }
  | _ => none }
def LzShortWrongFalsely : Prop := lzShortRow.holds Try.pinned (OpenSpec.ofChange lzShortWrong)

/-- 'lamellalaw01.LzNearest': WHATEVER THE INPUT: true; the input reads as it did. -/
def lzNearestSpec : ChangeSpec := { name := "lzNearest", fn := fun _ => fun
  | [d1, d2, d3] => { results := [.lit (.bool true)], args := [d1, d2, d3] }
  | _ => none }
def lzNearestRow : OpenClaim := { program := "ytaobfoenopccjaa", sum := "8a26b0e2f438d5e84ffa5d1cb2d2bd96ca40e8f54042858e0c48567cd5e6a6a3", func := "lamella/lamellalaw01.LzNearest", spec := "lzNearest", apart := false }
def LzNearestSaid : Prop := lzNearestRow.holds Try.pinned (OpenSpec.ofChange lzNearestSpec)

/-- ITS FALSE NEIGHBOUR: 'it returns false'. Refute it at one input. -/
def lzNearestWrong : ChangeSpec := { name := "lzNearest", fn := fun _ => fun
  | [d1, d2, d3] => { results := [.lit (.bool false)], args := [d1, d2, d3] }
  | _ => none }
def LzNearestWrongFalsely : Prop := lzNearestRow.holds Try.pinned (OpenSpec.ofChange lzNearestWrong)

/- THE SECOND FORM. 'bulk': how many values and letters a reading holds, each counted each time it is reached (what is shared counts as often as it is met; a slice's spare places count too). A statement '..UptoSaid' is the law's where the arguments, and the package variables that the reading takes, are together of bulk at most 1048576: NARROWER than '..Said'. Prove '..Said' where nothing that the law and all that it calls make is longer than what came in: it says more and counts as full. Else prove '..UptoSaid'. A law counts once. -/
mutual
def uptoBulk {H : Type} : DataW H → Nat
  | .lit (.string bytes) => bytes.length + 1
  | .lit _ => 1
  | .nil => 1
  | .ptr d => uptoBulk d + 1
  | .slice elems spare => uptoBulkAll elems + uptoBulkAll spare + 1
  | .agg parts => uptoBulkAll parts + 1
  | .iface _ d => uptoBulk d + 1
  | .map entries => uptoBulkEntries entries + 1
  | .held _ => 1
def uptoBulkAll {H : Type} : List (DataW H) → Nat
  | [] => 0
  | d :: r => uptoBulk d + uptoBulkAll r
def uptoBulkEntries {H : Type} : List (Lit × DataW H) → Nat
  | [] => 0
  | x :: r => uptoBulkEntry x + uptoBulkEntries r
def uptoBulkEntry {H : Type} : Lit × DataW H → Nat
  | (.string bytes, d) => bytes.length + uptoBulk d + 1
  | (_, d) => uptoBulk d + 1
 end
def uptoSmall : (H : Type) → List (DataW H) → Bool := fun _ ds => decide (uptoBulkAll ds ≤ 1048576)
def OpenSpec.upto (s : _root_.Go.ChangeSpec) : _root_.Go.OpenSpec := { _root_.Go.OpenSpec.ofChange s with cond := some uptoSmall }

/-- 'lamellalaw01.LzPacks', WHERE WHAT IT READS IS OF BULK AT MOST 1048576: true; the input reads as it did. -/
def lzPacksUptoRow : OpenClaim := { program := "ytaobfoenopccjaa", sum := "8a26b0e2f438d5e84ffa5d1cb2d2bd96ca40e8f54042858e0c48567cd5e6a6a3", func := "lamella/lamellalaw01.LzPacks", spec := "lzPacks", apart := false, narrowed := true }
def LzPacksUptoSaid : Prop := lzPacksUptoRow.holds Try.pinned (OpenSpec.upto lzPacksSpec)

/-- 'lamellalaw01.LzUnpacks', WHERE WHAT IT READS IS OF BULK AT MOST 1048576: true; the input reads as it did. -/
def lzUnpacksUptoRow : OpenClaim := { program := "ytaobfoenopccjaa", sum := "8a26b0e2f438d5e84ffa5d1cb2d2bd96ca40e8f54042858e0c48567cd5e6a6a3", func := "lamella/lamellalaw01.LzUnpacks", spec := "lzUnpacks", apart := false, narrowed := true }
def LzUnpacksUptoSaid : Prop := lzUnpacksUptoRow.holds Try.pinned (OpenSpec.upto lzUnpacksSpec)

/-- 'lamellalaw01.LzMatches', WHERE WHAT IT READS IS OF BULK AT MOST 1048576: true; the input reads as it did. -/
def lzMatchesUptoRow : OpenClaim := { program := "ytaobfoenopccjaa", sum := "8a26b0e2f438d5e84ffa5d1cb2d2bd96ca40e8f54042858e0c48567cd5e6a6a3", func := "lamella/lamellalaw01.LzMatches", spec := "lzMatches", apart := false, narrowed := true }
def LzMatchesUptoSaid : Prop := lzMatchesUptoRow.holds Try.pinned (OpenSpec.upto lzMatchesSpec)

/-- 'lamellalaw01.LzBack', WHERE WHAT IT READS IS OF BULK AT MOST 1048576: true; the input reads as it did. -/
def lzBackUptoRow : OpenClaim := { program := "ytaobfoenopccjaa", sum := "8a26b0e2f438d5e84ffa5d1cb2d2bd96ca40e8f54042858e0c48567cd5e6a6a3", func := "lamella/lamellalaw01.LzBack", spec := "lzBack", apart := false, narrowed := true }
def LzBackUptoSaid : Prop := lzBackUptoRow.holds Try.pinned (OpenSpec.upto lzBackSpec)

/-- 'lamellalaw01.LzShort', WHERE WHAT IT READS IS OF BULK AT MOST 1048576: true; the input reads as it did. -/
def lzShortUptoRow : OpenClaim := { program := "ytaobfoenopccjaa", sum := "8a26b0e2f438d5e84ffa5d1cb2d2bd96ca40e8f54042858e0c48567cd5e6a6a3", func := "lamella/lamellalaw01.LzShort", spec := "lzShort", apart := false, narrowed := true }
def LzShortUptoSaid : Prop := lzShortUptoRow.holds Try.pinned (OpenSpec.upto lzShortSpec)

/-- 'lamellalaw01.LzNearest', WHERE WHAT IT READS IS OF BULK AT MOST 1048576: true; the input reads as it did. -/
def lzNearestUptoRow : OpenClaim := { program := "ytaobfoenopccjaa", sum := "8a26b0e2f438d5e84ffa5d1cb2d2bd96ca40e8f54042858e0c48567cd5e6a6a3", func := "lamella/lamellalaw01.LzNearest", spec := "lzNearest", apart := false, narrowed := true }
def LzNearestUptoSaid : Prop := lzNearestUptoRow.holds Try.pinned (OpenSpec.upto lzNearestSpec)

end Rows
end Go.Proofs.Ytaobfoenopccjaa

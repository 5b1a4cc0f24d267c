/-
  No cell of these rows narrows 'for every input' (looked for: loops, veiled, ifaces, maps, wideKeys, modest, calm, conditions, laid).
  DERIVED. THE GIVEN ROWS OF THIS SEAT. 6 by the template 'for every input the law returns true; each argument reads behind the call as it read before'; 0 by the template 'total and deterministic' (their statements: YtlaeplfbkpjpgaaTotals.lean).
  GIVEN WITH THE SEED: the statements are not yours to turn. If you find one false, say at which input.
  Laid BY PROGRAM, IN A SANDBOX (cutbox-rows.mjs): the forced cells as the released guide's own fill.sh prints them over the translation df8a45838b989bdb… (all of the seat's roots in one cut). By AI agents, Wed Nov 11 2026. No macro, syntax, notation, axiom, sorry.
-/
import Derived.Test.YtlaeplfbkpjpgaaChecked
import GoSem.Claim
import GoSem.ClaimJoined
import GoSem.ClaimMapViews
import Derived.JoinedTies
import Derived.KernelRfl
namespace Go.Proofs.Ytlaeplfbkpjpgaa
/- THE CELL 'sum', in the pinned program and in every row, IS THE sha256 OF THE DUMP (.gsa) THAT YtlaeplfbkpjpgaaProg.lean LOADS. Nothing in Lean hashes anything: it is a label: what it is worth is what the hold of that sum in a sandbox is worth. -/
noncomputable def Try.pinned : Pinned := { name := "ytlaeplfbkpjpgaa", sum := "df8a45838b989bdb5740b697ba6152fb95e65be05ddd9eeab307c6b6cb17d669", checked := Try.checked }
namespace Rows
def none {H : Type} : Left H := { results := [], args := [] }

/-- 'lamellalaw06.NameValid': WHATEVER THE INPUT: true; the input reads as it did. -/
def nameValidSpec : ChangeSpec := { name := "nameValid", fn := fun _ => fun
  | [d] => { results := [.lit (.bool true)], args := [d] }
  | _ => none }
def nameValidRow : OpenClaim := { program := "ytlaeplfbkpjpgaa", sum := "df8a45838b989bdb5740b697ba6152fb95e65be05ddd9eeab307c6b6cb17d669", func := "lamella/lamellalaw06.NameValid", spec := "nameValid", apart := false }
def NameValidSaid : Prop := nameValidRow.holds Try.pinned (OpenSpec.ofChange nameValidSpec)

/-- ITS FALSE NEIGHBOUR: 'it returns false'. Refute it at one input. -/
def nameValidWrong : ChangeSpec := { name := "nameValid", fn := fun _ => fun
  | [d] => { results := [.lit (.bool false)], args := [d] }
  | _ => none }
def NameValidWrongFalsely : Prop := nameValidRow.holds Try.pinned (OpenSpec.ofChange nameValidWrong)

/-- 'lamellalaw06.NameRows': WHATEVER THE INPUT: true; the input reads as it did. -/
def nameRowsSpec : ChangeSpec := { name := "nameRows", fn := fun _ => fun
  | [d1, d2] => { results := [.lit (.bool true)], args := [d1, d2] }
  | _ => none }
def nameRowsRow : OpenClaim := { program := "ytlaeplfbkpjpgaa", sum := "df8a45838b989bdb5740b697ba6152fb95e65be05ddd9eeab307c6b6cb17d669", func := "lamella/lamellalaw06.NameRows", spec := "nameRows", apart := false }
def NameRowsSaid : Prop := nameRowsRow.holds Try.pinned (OpenSpec.ofChange nameRowsSpec)

/-- ITS FALSE NEIGHBOUR: 'it returns false'. Refute it at one input. -/
def nameRowsWrong : ChangeSpec := { name := "nameRows", fn := fun _ => fun
  | [d1, d2] => { results := [.lit (.bool false)], args := [d1, d2] }
  | _ => none }
def NameRowsWrongFalsely : Prop := nameRowsRow.holds Try.pinned (OpenSpec.ofChange nameRowsWrong)

/-- 'lamellalaw06.NameSplits': WHATEVER THE INPUT: true; the input reads as it did. -/
def nameSplitsSpec : ChangeSpec := { name := "nameSplits", fn := fun _ => fun
  | [d1, d2] => { results := [.lit (.bool true)], args := [d1, d2] }
  | _ => none }
def nameSplitsRow : OpenClaim := { program := "ytlaeplfbkpjpgaa", sum := "df8a45838b989bdb5740b697ba6152fb95e65be05ddd9eeab307c6b6cb17d669", func := "lamella/lamellalaw06.NameSplits", spec := "nameSplits", inPlace := ["internal/abi.NoEscape"], apart := false }
def NameSplitsSaid : Prop := nameSplitsRow.holds Try.pinned (OpenSpec.ofChange nameSplitsSpec)

/-- ITS FALSE NEIGHBOUR: 'it returns false'. Refute it at one input. -/
def nameSplitsWrong : ChangeSpec := { name := "nameSplits", fn := fun _ => fun
  | [d1, d2] => { results := [.lit (.bool false)], args := [d1, d2] }
  | _ => none }
def NameSplitsWrongFalsely : Prop := nameSplitsRow.holds Try.pinned (OpenSpec.ofChange nameSplitsWrong)

/-- 'lamellalaw06.NameBack': WHATEVER THE INPUT: true; the input reads as it did. -/
def nameBackSpec : ChangeSpec := { name := "nameBack", fn := fun _ => fun
  | [d] => { results := [.lit (.bool true)], args := [d] }
  | _ => none }
def nameBackRow : OpenClaim := { program := "ytlaeplfbkpjpgaa", sum := "df8a45838b989bdb5740b697ba6152fb95e65be05ddd9eeab307c6b6cb17d669", func := "lamella/lamellalaw06.NameBack", spec := "nameBack", inPlace := ["internal/abi.NoEscape"], apart := false }
def NameBackSaid : Prop := nameBackRow.holds Try.pinned (OpenSpec.ofChange nameBackSpec)

/-- ITS FALSE NEIGHBOUR: 'it returns false'. Refute it at one input. -/
def nameBackWrong : ChangeSpec := { name := "nameBack", fn := fun _ => fun
  | [d] => { results := [.lit (.bool false)], args := [d] }
  | _ => none }
def NameBackWrongFalsely : Prop := nameBackRow.holds Try.pinned (OpenSpec.ofChange nameBackWrong)

/-- 'lamellalaw06.NameTotal': WHATEVER THE INPUT: true; the input reads as it did. -/
def nameTotalSpec : ChangeSpec := { name := "nameTotal", fn := fun _ => fun
  | [d1, d2, d3] => { results := [.lit (.bool true)], args := [d1, d2, d3] }
  | _ => none }
def nameTotalRow : OpenClaim := { program := "ytlaeplfbkpjpgaa", sum := "df8a45838b989bdb5740b697ba6152fb95e65be05ddd9eeab307c6b6cb17d669", func := "lamella/lamellalaw06.NameTotal", spec := "nameTotal", apart := false }
def NameTotalSaid : Prop := nameTotalRow.holds Try.pinned (OpenSpec.ofChange nameTotalSpec)

/-- ITS FALSE NEIGHBOUR: 'it returns false'. Refute it at one input. -/
def nameTotalWrong : ChangeSpec := { name := "nameTotal", fn := fun _ => fun
  | [d1, d2, d3] => { results := [.lit (.bool false)], args := [d1, d2, d3] }
  | _ => none }
def NameTotalWrongFalsely : Prop := nameTotalRow.holds Try.pinned (OpenSpec.ofChange nameTotalWrong)

/-- 'lamellalaw06.NameOne': WHATEVER THE INPUT: true; the input reads as it did. -/
def nameOneSpec : ChangeSpec := { name := "nameOne", fn := fun _ => fun
  | [d1, d2] => { results := [.lit (.bool true)], args := [d1, d2] }
  | _ => none }
def nameOneRow : OpenClaim := { program := "ytlaeplfbkpjpgaa", sum := "df8a45838b989bdb5740b697ba6152fb95e65be05ddd9eeab307c6b6cb17d669", func := "lamella/lamellalaw06.NameOne", spec := "nameOne", inPlace := ["internal/abi.NoEscape"], apart := false }
def NameOneSaid : Prop := nameOneRow.holds Try.pinned (OpenSpec.ofChange nameOneSpec)

/-- ITS FALSE NEIGHBOUR: 'it returns false'. Refute it at one input. -/
def nameOneWrong : ChangeSpec := { name := "nameOne", fn := fun _ => fun
  | [d1, d2] => { results := [.lit (.bool false)], args := [d1, d2] }
  | _ => none }
def NameOneWrongFalsely : Prop := nameOneRow.holds Try.pinned (OpenSpec.ofChange nameOneWrong)

/- THE SECOND FORM. 'bulk': how many values and letters a reading holds, each counted each time it is reached (what is shared counts as often as it is met; a slice's spare places count too). A statement '..UptoSaid' is the law's where the arguments, and the package variables that the reading takes, are together of bulk at most 1048576: NARROWER than '..Said'. Prove '..Said' where nothing that the law and all that it calls make is longer than what came in: it says more and counts as full. Else prove '..UptoSaid'. A law counts once. -/
mutual
def uptoBulk {H : Type} : DataW H → Nat
  | .lit (.string bytes) => bytes.length + 1
  | .lit _ => 1
  | .nil => 1
  | .ptr d => uptoBulk d + 1
  | .slice elems spare => uptoBulkAll elems + uptoBulkAll spare + 1
  | .agg parts => uptoBulkAll parts + 1
  | .iface _ d => uptoBulk d + 1
  | .map entries => uptoBulkEntries entries + 1
  | .held _ => 1
def uptoBulkAll {H : Type} : List (DataW H) → Nat
  | [] => 0
  | d :: r => uptoBulk d + uptoBulkAll r
def uptoBulkEntries {H : Type} : List (Lit × DataW H) → Nat
  | [] => 0
  | x :: r => uptoBulkEntry x + uptoBulkEntries r
def uptoBulkEntry {H : Type} : Lit × DataW H → Nat
  | (.string bytes, d) => bytes.length + uptoBulk d + 1
  | (_, d) => uptoBulk d + 1
 end
def uptoSmall : (H : Type) → List (DataW H) → Bool := fun _ ds => decide (uptoBulkAll ds ≤ 1048576)
def OpenSpec.upto (s : _root_.Go.ChangeSpec) : _root_.Go.OpenSpec := { _root_.Go.OpenSpec.ofChange s with cond := some uptoSmall }

/-- 'lamellalaw06.NameValid', WHERE WHAT IT READS IS OF BULK AT MOST 1048576: true; the input reads as it did. -/
def nameValidUptoRow : OpenClaim := { program := "ytlaeplfbkpjpgaa", sum := "df8a45838b989bdb5740b697ba6152fb95e65be05ddd9eeab307c6b6cb17d669", func := "lamella/lamellalaw06.NameValid", spec := "nameValid", apart := false, narrowed := true }
def NameValidUptoSaid : Prop := nameValidUptoRow.holds Try.pinned (OpenSpec.upto nameValidSpec)

/-- 'lamellalaw06.NameRows', WHERE WHAT IT READS IS OF BULK AT MOST 1048576: true; the input reads as it did. -/
def nameRowsUptoRow : OpenClaim := { program := "ytlaeplfbkpjpgaa", sum := "df8a45838b989bdb5740b697ba6152fb95e65be05ddd9eeab307c6b6cb17d669", func := "lamella/lamellalaw06.NameRows", spec := "nameRows", apart := false, narrowed := true }
def NameRowsUptoSaid : Prop := nameRowsUptoRow.holds Try.pinned (OpenSpec.upto nameRowsSpec)

/-- 'lamellalaw06.NameSplits', WHERE WHAT IT READS IS OF BULK AT MOST 1048576: true; the input reads as it did. -/
def nameSplitsUptoRow : OpenClaim := { program := "ytlaeplfbkpjpgaa", sum := "df8a45838b989bdb5740b697ba6152fb95e65be05ddd9eeab307c6b6cb17d669", func := "lamella/lamellalaw06.NameSplits", spec := "nameSplits", inPlace := ["internal/abi.NoEscape"], apart := false, narrowed := true }
def NameSplitsUptoSaid : Prop := nameSplitsUptoRow.holds Try.pinned (OpenSpec.upto nameSplitsSpec)

/-- 'lamellalaw06.NameBack', WHERE WHAT IT READS IS OF BULK AT MOST 1048576: true; the input reads as it did. -/
def nameBackUptoRow : OpenClaim := { program := "ytlaeplfbkpjpgaa", sum := "df8a45838b989bdb5740b697ba6152fb95e65be05ddd9eeab307c6b6cb17d669", func := "lamella/lamellalaw06.NameBack", spec := "nameBack", inPlace := ["internal/abi.NoEscape"], apart := false, narrowed := true }
def NameBackUptoSaid : Prop := nameBackUptoRow.holds Try.pinned (OpenSpec.upto nameBackSpec)

/-- 'lamellalaw06.NameTotal', WHERE WHAT IT READS IS OF BULK AT MOST 1048576: true; the input reads as it did. -/
def nameTotalUptoRow : OpenClaim := { program := "ytlaeplfbkpjpgaa", sum := "df8a45838b989bdb5740b697ba6152fb95e65be05ddd9eeab307c6b6cb17d669", func := "lamella/lamellalaw06.NameTotal", spec := "nameTotal", apart := false, narrowed := true }
def NameTotalUptoSaid : Prop := nameTotalUptoRow.holds Try.pinned (OpenSpec.upto nameTotalSpec)

/-- 'lamellalaw06.NameOne', WHERE WHAT IT READS IS OF BULK AT MOST 1048576: true; the input reads as it did. -/
def nameOneUptoRow : OpenClaim := { program := "ytlaeplfbkpjpgaa", sum := "df8a45838b989bdb5740b697ba6152fb95e65be05ddd9eeab307c6b6cb17d669", func := "lamella/lamellalaw06.NameOne", spec := "nameOne", inPlace := ["internal/abi.NoEscape"], apart := false, narrowed := true }
def NameOneUptoSaid : Prop := nameOneUptoRow.holds Try.pinned (OpenSpec.upto nameOneSpec)

end Rows
end Go.Proofs.Ytlaeplfbkpjpgaa

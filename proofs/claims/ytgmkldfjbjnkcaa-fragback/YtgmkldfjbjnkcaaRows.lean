/-
  No cell of these rows narrows 'for every input' (looked for: loops, veiled, ifaces, maps, wideKeys, modest, calm, conditions, laid).
  DERIVED. THE GIVEN ROWS OF THIS SEAT. 4 by the template 'for every input the law returns true; each argument reads behind the call as it read before'; 0 by the template 'total and deterministic' (their statements: YtgmkldfjbjnkcaaTotals.lean).
  GIVEN WITH THE SEED: the statements are not yours to turn. If you find one false, say at which input.
  Laid BY PROGRAM, IN A SANDBOX (cutbox-rows.mjs): the forced cells as the released guide's own fill.sh prints them over the translation 1ce1d20a63002445… (all of the seat's roots in one cut). By AI agents, Wed Nov 11 2026. No macro, syntax, notation, axiom, sorry.
-/
import Derived.Test.YtgmkldfjbjnkcaaChecked
import GoSem.Claim
import GoSem.ClaimJoined
import GoSem.ClaimMapViews
import Derived.JoinedTies
import Derived.KernelRfl
namespace Go.Proofs.Ytgmkldfjbjnkcaa
/- THE CELL 'sum', in the pinned program and in every row, IS THE sha256 OF THE DUMP (.gsa) THAT YtgmkldfjbjnkcaaProg.lean LOADS. Nothing in Lean hashes anything: it is a label: what it is worth is what the hold of that sum in a sandbox is worth. -/
noncomputable def Try.pinned : Pinned := { name := "ytgmkldfjbjnkcaa", sum := "1ce1d20a63002445780e10c77ca69b8717a3871c1085122f9462adb89cec9065", checked := Try.checked }
namespace Rows
def none {H : Type} : Left H := { results := [], args := [] }

/-- 'lamellalaw13.FragPacks': WHATEVER THE INPUT: true; the input reads as it did. -/
def fragPacksSpec : ChangeSpec := { name := "fragPacks", fn := fun _ => fun
  | [d] => { results := [.lit (.bool true)], args := [d] }
  | _ => none }
def fragPacksRow : OpenClaim := { program := "ytgmkldfjbjnkcaa", sum := "1ce1d20a63002445780e10c77ca69b8717a3871c1085122f9462adb89cec9065", func := "lamella/lamellalaw13.FragPacks", spec := "fragPacks", apart := false }
def FragPacksSaid : Prop := fragPacksRow.holds Try.pinned (OpenSpec.ofChange fragPacksSpec)

/-- ITS FALSE NEIGHBOUR: 'it returns false'. Refute it at one input. -/
def fragPacksWrong : ChangeSpec := { name := "fragPacks", fn := fun _ => fun
  | [d] => { results := [.lit (.bool false)], args := [d] }
  | _ => none }
def FragPacksWrongFalsely : Prop := fragPacksRow.holds Try.pinned (OpenSpec.ofChange fragPacksWrong)

/-- 'lamellalaw13.FragReads': WHATEVER THE INPUT: true; the input reads as it did. -/
def fragReadsSpec : ChangeSpec := { name := "fragReads", fn := fun _ => fun
  | [d1, d2, d3] => { results := [.lit (.bool true)], args := [d1, d2, d3] }
  | _ => none }
def fragReadsRow : OpenClaim := { program := "ytgmkldfjbjnkcaa", sum := "1ce1d20a63002445780e10c77ca69b8717a3871c1085122f9462adb89cec9065", func := "lamella/lamellalaw13.FragReads", spec := "fragReads", unfollowed := true, recurses := true, apart := false }
def FragReadsSaid : Prop := fragReadsRow.holds Try.pinned (OpenSpec.ofChange fragReadsSpec)

/-- ITS FALSE NEIGHBOUR: 'it returns false'. Refute it at one input. -/
def fragReadsWrong : ChangeSpec := { name := "fragReads", fn := fun _ => fun
  | [d1, d2, d3] => { results := [.lit (.bool false)], args := [d1, d2, d3] }
  | _ => none }
def FragReadsWrongFalsely : Prop := fragReadsRow.holds Try.pinned (OpenSpec.ofChange fragReadsWrong)

/-- 'lamellalaw13.FragBack': WHATEVER THE INPUT: true; the input reads as it did. -/
def fragBackSpec : ChangeSpec := { name := "fragBack", fn := fun _ => fun
  | [d1, d2] => { results := [.lit (.bool true)], args := [d1, d2] }
  | _ => none }
def fragBackRow : OpenClaim := { program := "ytgmkldfjbjnkcaa", sum := "1ce1d20a63002445780e10c77ca69b8717a3871c1085122f9462adb89cec9065", func := "lamella/lamellalaw13.FragBack", spec := "fragBack", unfollowed := true, recurses := true, apart := false }
def FragBackSaid : Prop := fragBackRow.holds Try.pinned (OpenSpec.ofChange fragBackSpec)

/-- ITS FALSE NEIGHBOUR: 'it returns false'. Refute it at one input. -/
def fragBackWrong : ChangeSpec := { name := "fragBack", fn := fun _ => fun
  | [d1, d2] => { results := [.lit (.bool false)], args := [d1, d2] }
  | _ => none }
def FragBackWrongFalsely : Prop := fragBackRow.holds Try.pinned (OpenSpec.ofChange fragBackWrong)

/-- 'lamellalaw13.FragApart': WHATEVER THE INPUT: true; the input reads as it did. -/
def fragApartSpec : ChangeSpec := { name := "fragApart", fn := fun _ => fun
  | [d] => { results := [.lit (.bool true)], args := [d] }
  | _ => none }
def fragApartRow : OpenClaim := { program := "ytgmkldfjbjnkcaa", sum := "1ce1d20a63002445780e10c77ca69b8717a3871c1085122f9462adb89cec9065", func := "lamella/lamellalaw13.FragApart", spec := "fragApart", apart := false }
def FragApartSaid : Prop := fragApartRow.holds Try.pinned (OpenSpec.ofChange fragApartSpec)

/-- ITS FALSE NEIGHBOUR: 'it returns false'. Refute it at one input. -/
def fragApartWrong : ChangeSpec := { name := "fragApart", fn := fun _ => fun
  | [d] => { results := [.lit (.bool false)], args := [d] }
  | _ => none }
def FragApartWrongFalsely : Prop := fragApartRow.holds Try.pinned (OpenSpec.ofChange fragApartWrong)

/- THE SECOND FORM. 'bulk': how many values and letters a reading holds, each counted each time it is reached (what is shared counts as often as it is met; a slice's spare places count too). A statement '..UptoSaid' is the law's where the arguments, and the package variables that the reading takes, are together of bulk at most 1048576: NARROWER than '..Said'. Prove '..Said' where nothing that the law and all that it calls make is longer than what came in: it says more and counts as full. Else prove '..UptoSaid'. A law counts once. -/
mutual
def uptoBulk {H : Type} : DataW H → Nat
  | .lit (.string bytes) => bytes.length + 1
  | .lit _ => 1
  | .nil => 1
  | .ptr d => uptoBulk d + 1
  | .slice elems spare => uptoBulkAll elems + uptoBulkAll spare + 1
  | .agg parts => uptoBulkAll parts + 1
  | .iface _ d => uptoBulk d + 1
  | .map entries => uptoBulkEntries entries + 1
  | .held _ => 1
def uptoBulkAll {H : Type} : List (DataW H) → Nat
  | [] => 0
  | d :: r => uptoBulk d + uptoBulkAll r
def uptoBulkEntries {H : Type} : List (Lit × DataW H) → Nat
  | [] => 0
  | x :: r => uptoBulkEntry x + uptoBulkEntries r
def uptoBulkEntry {H : Type} : Lit × DataW H → Nat
  | (.string bytes, d) => bytes.length + uptoBulk d + 1
  | (_, d) => uptoBulk d + 1
 end
def uptoSmall : (H : Type) → List (DataW H) → Bool := fun _ ds => decide (uptoBulkAll ds ≤ 1048576)
def OpenSpec.upto (s : _root_.Go.ChangeSpec) : _root_.Go.OpenSpec := { _root_.Go.OpenSpec.ofChange s with cond := some uptoSmall }

/-- 'lamellalaw13.FragPacks', WHERE WHAT IT READS IS OF BULK AT MOST 1048576: true; the input reads as it did. -/
def fragPacksUptoRow : OpenClaim := { program := "ytgmkldfjbjnkcaa", sum := "1ce1d20a63002445780e10c77ca69b8717a3871c1085122f9462adb89cec9065", func := "lamella/lamellalaw13.FragPacks", spec := "fragPacks", apart := false, narrowed := true }
def FragPacksUptoSaid : Prop := fragPacksUptoRow.holds Try.pinned (OpenSpec.upto fragPacksSpec)

/-- 'lamellalaw13.FragReads', WHERE WHAT IT READS IS OF BULK AT MOST 1048576: true; the input reads as it did. -/
def fragReadsUptoRow : OpenClaim := { program := "ytgmkldfjbjnkcaa", sum := "1ce1d20a63002445780e10c77ca69b8717a3871c1085122f9462adb89cec9065", func := "lamella/lamellalaw13.FragReads", spec := "fragReads", unfollowed := true, recurses := true, apart := false, narrowed := true }
def FragReadsUptoSaid : Prop := fragReadsUptoRow.holds Try.pinned (OpenSpec.upto fragReadsSpec)

/-- 'lamellalaw13.FragBack', WHERE WHAT IT READS IS OF BULK AT MOST 1048576: true; the input reads as it did. -/
def fragBackUptoRow : OpenClaim := { program := "ytgmkldfjbjnkcaa", sum := "1ce1d20a63002445780e10c77ca69b8717a3871c1085122f9462adb89cec9065", func := "lamella/lamellalaw13.FragBack", spec := "fragBack", unfollowed := true, recurses := true, apart := false, narrowed := true }
def FragBackUptoSaid : Prop := fragBackUptoRow.holds Try.pinned (OpenSpec.upto fragBackSpec)

/-- 'lamellalaw13.FragApart', WHERE WHAT IT READS IS OF BULK AT MOST 1048576: true; the input reads as it did. -/
def fragApartUptoRow : OpenClaim := { program := "ytgmkldfjbjnkcaa", sum := "1ce1d20a63002445780e10c77ca69b8717a3871c1085122f9462adb89cec9065", func := "lamella/lamellalaw13.FragApart", spec := "fragApart", apart := false, narrowed := true }
def FragApartUptoSaid : Prop := fragApartUptoRow.holds Try.pinned (OpenSpec.upto fragApartSpec)

end Rows
end Go.Proofs.Ytgmkldfjbjnkcaa

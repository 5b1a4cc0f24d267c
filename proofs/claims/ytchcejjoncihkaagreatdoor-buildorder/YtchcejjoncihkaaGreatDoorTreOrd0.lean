/- What the proof stands on: TreOrd0, with what the proof reaches of it. -/
import Derived.Test.YtchcejjoncihkaaGreatDoorJTreCanon
import Derived.Test.YtchcejjoncihkaaGreatDoorJInts
import Derived.Test.YtchcejjoncihkaaGreatDoorTreOpen

/- Layer 7: what TreeOrder wants: ints that came in, Inos changed by XOR. -/
namespace Go.Proofs.YtchcejjoncihkaaGreatDoor
set_option linter.unusedVariables false
set_option maxRecDepth 100000
open Go.RowKit Go.Maps Go.ChangeShapes Go.WideShapes Go.ChangeAt
open Nam Tre

/-- Two numbers' XOR. -/
def xo (a x : Int) : Int := IntKind.i64.wrap (((BitVec.ofInt 64 a ^^^ BitVec.ofInt 64 x).toNat : Nat) : Int)
theorem wrap_wf (y : Int) : (Lit.int .i64 (IntKind.wrap .i64 y)).wf = true := by
  simp [Lit.wf, IntKind.wrap, IntKind.min, IntKind.max, IntKind.signed, IntKind.bits] <;> (try split) <;> omega
theorem xo_wf (a x : Int) : (Lit.int .i64 (xo a x)).wf = true := wrap_wf _
theorem xo_inj {a b x : Int} (ha : In64 a) (hb : In64 b) (h : xo a x = xo b x) : a = b := by
  have key : ∀ p q : BitVec 64, IntKind.i64.wrap ((p.toNat : Nat) : Int) = IntKind.i64.wrap ((q.toNat : Nat) : Int) → p = q := fun p q e => by
    rw [IntKind.wrap_i64, IntKind.wrap_i64] at e
    have h1 := p.isLt
    have h2 := q.isLt
    apply BitVec.eq_of_toNat_eq
    omega
  have h1 := key _ _ h
  have h2 : BitVec.ofInt 64 a = BitVec.ofInt 64 b := by
    have := congrArg (· ^^^ BitVec.ofInt 64 x) h1
    simpa [BitVec.xor_assoc] using this
  have h3 := congrArg BitVec.toInt h2
  unfold In64 at ha hb
  rw [BitVec.toInt_ofInt, BitVec.toInt_ofInt] at h3
  rw [Int.bmod_eq_of_le (by omega) (by omega), Int.bmod_eq_of_le (by omega) (by omega)] at h3
  exact h3
/-- A node with its Ino changed. -/
def rx (x : Int) (p : Nv × Nod) : Nv × Nod := ({ p.1 with ino := xo p.1.ino x }, { p.2 with ino := xo p.1.ino x })
theorem rep_rx {w : World} {p : Nv × Nod} (h : Rep w p.1 p.2) (x : Int) : Rep w (rx x p).1 (rx x p).2 := { h with ino := rfl, in64 := xo_wf _ _ }
theorem nds_rx {w : World} (x : Int) (L : List (Nv × Nod)) (h : ∀ p ∈ L, Rep w p.1 p.2) : nds (L.map (rx x)) = (nds L).map (ri (fun z => xo z x)) := by
  unfold nds
  rw [List.map_map, List.map_map]
  apply List.map_congr_left
  intro p hp
  simp [rx, ri, (h p hp).ino]
theorem inj_xo {w : World} (x : Int) (L : List (Nv × Nod)) (h : ∀ p ∈ L, Rep w p.1 p.2) : InjOn (fun z => xo z x) (nds L) := by
  intro a ha b hb e
  unfold nds at ha hb
  obtain ⟨p, hp, rfl⟩ := List.mem_map.1 ha
  obtain ⟨q, hq, rfl⟩ := List.mem_map.1 hb
  have h1 := wf_i64_bd (h p hp).in64
  have h2 := wf_i64_bd (h q hq).in64
  rw [← (h p hp).ino] at h1
  rw [← (h q hq).ino] at h2
  exact xo_inj h1 h2 e
end Go.Proofs.YtchcejjoncihkaaGreatDoor

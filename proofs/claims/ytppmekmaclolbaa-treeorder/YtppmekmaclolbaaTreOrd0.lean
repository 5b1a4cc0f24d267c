/- Layer 7: what TreeOrder wants: ints that came in, Inos changed by XOR. -/
import Derived.Test.YtppmekmaclolbaaTreAgain
import Derived.Test.YtppmekmaclolbaaTreOpen
namespace Go.Proofs.Ytppmekmaclolbaa
set_option linter.unusedVariables false
set_option maxRecDepth 100000
open Go.RowKit Go.Maps Go.ChangeShapes Go.WideShapes Go.ChangeAt
open Nam Tre

def In64 (x : Int) : Prop := -9223372036854775808 ≤ x ∧ x ≤ 9223372036854775807
/-- A slice of ints in memory. -/
def IntsB (w : World) (a : Option Addr) (len cap : Nat) (Z : Nat → Int) : Prop :=
  len ≤ 9223372036854775807 ∧ (len = 0 ∨ ∃ b off, a = some ⟨b, off, none⟩ ∧ b < w.heap.size ∧ ∀ i, i < len → w.cell? ⟨b, off + i, none⟩ = some (.int .i64 (Z i)) ∧ In64 (Z i))
theorem IntsB.below {w w' : World} {a : Option Addr} {len cap : Nat} {Z : Nat → Int} (h : IntsB w a len cap Z) (hb : Below w.heap.size w w') : IntsB w' a len cap Z := by
  refine ⟨h.1, ?_⟩
  rcases h.2 with h0 | ⟨b, off, h1, h2, h3⟩
  · exact .inl h0
  · exact .inr ⟨b, off, h1, Nat.lt_of_lt_of_le h2 hb.size, fun i hi => ⟨(hb.cell (by exact h2)).trans (h3 i hi).1, (h3 i hi).2⟩⟩
theorem open_ints' {H : Type} {enc : TypeId × Value → H} {W : World} {base : Nat} {v : Value} {d : DataW H} {p : List MemPlace} (hok : Value.okWide Try.prog W .any base 32 v)
    (h : DataW.Trod enc Try.prog W 0 (fun _ => true) true 32 v d p) : ∃ a len cap Z, v = .slice a len cap ∧ IntsB W a len cap Z := by
  obtain ⟨a, len, cap, rfl⟩ := okWide_slice Try.underlying32 hok
  obtain ⟨fuel, hf⟩ := h
  rcases open_ints Try.underlying32 Try.underlying3 (by kernel_rfl) hf with ⟨hcs, _⟩ | ⟨x, l, c, zs, hcs, _, hl, hm, hz, _, hcell, hwz⟩
  · simp [Value.cells] at hcs
    obtain ⟨rfl, rfl, rfl⟩ := hcs
    exact ⟨none, 0, 0, fun _ => 0, rfl, by omega, .inl rfl⟩
  · simp [Value.cells] at hcs
    obtain ⟨rfl, rfl, rfl⟩ := hcs
    have hz' : zs.length = cap := by simpa using hz
    refine ⟨_, len, cap, fun i => zs.getD i 0, rfl, by unfold maxLen at hm; omega, ?_⟩
    by_cases e : len = 0
    · exact .inl e
    · obtain ⟨b, off, spot⟩ := x
      have h00 := hcell 0 (by omega)
      have hspot : spot = none := by simpa [Addr.add] using World.cell?_spot h00
      subst hspot
      have hlt : b < W.heap.size := by
        have := World.block_lt_of_cell? W _ h00
        simpa [Addr.add] using this
      refine .inr ⟨b, off, rfl, hlt, fun i hi => ?_⟩
      have h1 := hcell i (by omega)
      rw [Addr.add_lit] at h1
      refine ⟨h1, wf_i64_bd (hwz _ ?_)⟩
      have hi2 : i < zs.length := by omega
      simp only [List.getD, List.getElem?_eq_getElem hi2, Option.getD_some]
      exact List.getElem_mem hi2
/-- Two numbers' XOR. -/
def xo (a x : Int) : Int := IntKind.i64.wrap (((BitVec.ofInt 64 a ^^^ BitVec.ofInt 64 x).toNat : Nat) : Int)
theorem wrap_wf (y : Int) : (Lit.int .i64 (IntKind.wrap .i64 y)).wf = true := by
  simp [Lit.wf, IntKind.wrap, IntKind.min, IntKind.max, IntKind.signed, IntKind.bits] <;> (try split) <;> omega
theorem xo_wf (a x : Int) : (Lit.int .i64 (xo a x)).wf = true := wrap_wf _
theorem xo_inj {a b x : Int} (ha : In64 a) (hb : In64 b) (h : xo a x = xo b x) : a = b := by
  have key : ∀ p q : BitVec 64, IntKind.i64.wrap ((p.toNat : Nat) : Int) = IntKind.i64.wrap ((q.toNat : Nat) : Int) → p = q := fun p q e => by
    rw [IntKind.wrap_i64, IntKind.wrap_i64] at e
    have h1 := p.isLt
    have h2 := q.isLt
    apply BitVec.eq_of_toNat_eq
    omega
  have h1 := key _ _ h
  have h2 : BitVec.ofInt 64 a = BitVec.ofInt 64 b := by
    have := congrArg (· ^^^ BitVec.ofInt 64 x) h1
    simpa [BitVec.xor_assoc] using this
  have h3 := congrArg BitVec.toInt h2
  unfold In64 at ha hb
  rw [BitVec.toInt_ofInt, BitVec.toInt_ofInt] at h3
  rw [Int.bmod_eq_of_le (by omega) (by omega), Int.bmod_eq_of_le (by omega) (by omega)] at h3
  exact h3
/-- A node with its Ino changed. -/
def rx (x : Int) (p : Nv × Nod) : Nv × Nod := ({ p.1 with ino := xo p.1.ino x }, { p.2 with ino := xo p.1.ino x })
theorem rep_rx {w : World} {p : Nv × Nod} (h : Rep w p.1 p.2) (x : Int) : Rep w (rx x p).1 (rx x p).2 := { h with ino := rfl, in64 := xo_wf _ _ }
theorem nds_rx {w : World} (x : Int) (L : List (Nv × Nod)) (h : ∀ p ∈ L, Rep w p.1 p.2) : nds (L.map (rx x)) = (nds L).map (ri (fun z => xo z x)) := by
  unfold nds
  rw [List.map_map, List.map_map]
  apply List.map_congr_left
  intro p hp
  simp [rx, ri, (h p hp).ino]
theorem inj_xo {w : World} (x : Int) (L : List (Nv × Nod)) (h : ∀ p ∈ L, Rep w p.1 p.2) : InjOn (fun z => xo z x) (nds L) := by
  intro a ha b hb e
  unfold nds at ha hb
  obtain ⟨p, hp, rfl⟩ := List.mem_map.1 ha
  obtain ⟨q, hq, rfl⟩ := List.mem_map.1 hb
  have h1 := wf_i64_bd (h p hp).in64
  have h2 := wf_i64_bd (h q hq).in64
  rw [← (h p hp).ino] at h1
  rw [← (h q hq).ino] at h2
  exact xo_inj h1 h2 e
end Go.Proofs.Ytppmekmaclolbaa

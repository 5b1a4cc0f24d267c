import Derived.Test.YtcbcmeehnlojjaaFJBase
import Derived.ProofKit
import Derived.OpenShut
set_option linter.unusedVariables false
namespace Go.Proofs.Ytcbcmeehnlojjaa
set_option maxRecDepth 100000
open Go.RowKit Go.Maps Go.ChangeShapes Go.WideShapes Go.ChangeAt
def IntsB (w : World) (a : Option Addr) (len cap : Nat) (Z : Nat → Int) : Prop :=
 len ≤ 9223372036854775807 ∧ (len = 0 ∨ ∃ b off, a = some ⟨b, off, none⟩ ∧ b < w.heap.size ∧ ∀ i, i < len → w.cell? ⟨b, off + i, none⟩ = some (.int .i64 (Z i)) ∧ In64 (Z i))
theorem open_ints' {H : Type} {enc : TypeId × Value → H} {W : World} {base : Nat} {v : Value} {d : DataW H} {p : List MemPlace} (hok : Value.okWide Try.prog W .any base 53 v)
  (h : DataW.Trod enc Try.prog W 0 (fun _ => true) true 53 v d p) : ∃ a len cap Z, v = .slice a len cap ∧ IntsB W a len cap Z := by
 obtain ⟨a, len, cap, rfl⟩ := okWide_slice Try.underlying53 hok
 obtain ⟨fuel, hf⟩ := h
 rcases open_ints Try.underlying53 Try.underlying3 (by kernel_rfl) hf with ⟨hcs, _⟩ | ⟨x, l, c, zs, hcs, _, hl, hm, hz, _, hcell, hwz⟩
 ·simp [Value.cells] at hcs
  obtain ⟨rfl, rfl, rfl⟩ := hcs
  exact ⟨none, 0, 0, fun _ => 0, rfl, by omega, .inl rfl⟩
 ·simp [Value.cells] at hcs
  obtain ⟨rfl, rfl, rfl⟩ := hcs
  have hz' : zs.length = cap := by simpa using hz
  refine ⟨_, len, cap, fun i => zs.getD i 0, rfl, by unfold maxLen at hm; omega, ?_⟩
  by_cases e : len = 0
  ·exact .inl e
  ·obtain ⟨b, off, spot⟩ := x
   have h00 := hcell 0 (by omega)
   have hspot : spot = none := by simpa [Addr.add] using World.cell?_spot h00
   subst hspot
   have hlt : b < W.heap.size := by
    have := World.block_lt_of_cell? W _ h00
    simpa [Addr.add] using this
   refine .inr ⟨b, off, rfl, hlt, fun i hi => ?_⟩
   have h1 := hcell i (by omega)
   rw [Addr.add_lit] at h1
   refine ⟨h1, wf_i64_bd (hwz _ ?_)⟩
   have hi2 : i < zs.length := by omega
   simp only [List.getD, List.getElem?_eq_getElem hi2, Option.getD_some]
   exact List.getElem_mem hi2
end Go.Proofs.Ytcbcmeehnlojjaa
namespace Go.Proofs.Ytcbcmeehnlojjaa
open Go.RowKit Go.Maps
open Lz (g)
end Go.Proofs.Ytcbcmeehnlojjaa

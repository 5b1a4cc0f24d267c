import Derived.Test.YtbmeapehgajbkaaGreatGJBase
import Derived.Laws.CopyOwn
set_option linter.unusedVariables false
namespace Go.Proofs.YtbmeapehgajbkaaGreat
open Go.RowKit Go.Maps
open Lz (g)
open Cur
namespace Cur
end Cur
end Go.Proofs.YtbmeapehgajbkaaGreat
namespace Go.Proofs.YtbmeapehgajbkaaGreat.Cap
open Cur
open Lz (g)
theorem sb_str {zs : List Int} (h : Bytes zs) : sb (strOfNums zs) = zs := by
 unfold sb
 rw [strOfNums_data, List.map_map]
 have : ∀ x ∈ zs, ((fun b : UInt8 => (b.toNat : Int)) ∘ fun n : Int => UInt8.ofNat n.toNat) x = x := fun x hx => by
  have := h x hx
  simp only [Function.comp, UInt8.toNat_ofNat']
  omega
 rw [List.map_congr_left this, List.map_id']
end Go.Proofs.YtbmeapehgajbkaaGreat.Cap

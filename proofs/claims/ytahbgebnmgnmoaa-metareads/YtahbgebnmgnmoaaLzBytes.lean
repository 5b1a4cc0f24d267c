/- What is packed, and what is unpacked, are bytes. -/
import Derived.Test.YtahbgebnmgnmoaaLzRefUnpack
namespace Go.Proofs.Ytahbgebnmgnmoaa
set_option linter.unusedVariables false
open Go.RowKit Go.Maps
open Lz (g cp up unpack pack runs mt)

theorem Bytes.runsF : ∀ (f : Nat) {l : List Int}, Bytes l → Bytes (Lz.runsF f l)
  | 0, l, _ => fun x hx => by simp [Lz.runsF] at hx
  | f + 1, l, h => by
    rw [Lz.runsF_succ]
    split
    · intro x hx; simp at hx
    · rename_i hne
      intro x hx
      rcases List.mem_cons.1 hx with rfl | hx
      · omega
      · exact ((h.take _).append (Bytes.runsF f (h.drop _))) x hx
theorem Bytes.runs {l : List Int} (h : Bytes l) : Bytes (Lz.runs l) := Bytes.runsF _ h
theorem mt_bytes (zs : List Int) (a : Nat) (h : (mt zs a).1 ≠ 0) : Bytes [((mt zs a).1 : Int) + 125, ((mt zs a).2 : Int) - 1] := by
  have h1 := Lz.mt_le zs a
  have h2 := Lz.mt_back zs a
  have h3 : Lz.most zs a ≤ 130 := by unfold Lz.most; omega
  rcases Lz.mt_is zs a with e | ⟨h4, h5, _⟩
  · rw [e] at h; simp at h
  · intro x hx
    simp at hx
    rcases hx with rfl | rfl <;> omega
theorem Bytes.packF {zs : List Int} (hz : Bytes zs) : ∀ (f : Nat) (out : List Int) (run a : Nat), Bytes out → Bytes (Lz.packF zs f out run a)
  | 0, out, run, a, h => h.append (hz.drop run).runs
  | f + 1, out, run, a, h => by
    rw [Lz.packF_succ]
    split
    · exact h.append (hz.drop run).runs
    · split
      · exact Bytes.packF hz f _ _ _ h
      · rename_i h0
        exact Bytes.packF hz f _ _ _ ((h.append ((hz.take a).drop run).runs).append (mt_bytes zs a h0))
theorem Bytes.pack {zs : List Int} (hz : Bytes zs) : Bytes (Lz.pack zs) := Bytes.packF hz _ _ _ _ (fun x hx => by simp at hx)
theorem Bytes.cp (back : Nat) : ∀ (n : Nat) {out : List Int}, Bytes out → Bytes (Lz.cp back n out)
  | 0, out, h => h
  | n + 1, out, h => by unfold Lz.cp; exact Bytes.cp back n (h.snoc _)
theorem Bytes.upF (most : Int) : ∀ (f : Nat) {b out : List Int}, Bytes b → Bytes out → Bytes (Lz.upF most f b out).1
  | 0, b, out, _, h => h
  | f + 1, b, out, hb, h => by
    rw [Lz.upF_succ]
    split
    · exact h
    · split
      · split
        · exact Bytes.nil
        · split
          · exact Bytes.nil
          · exact Bytes.upF most f (hb.drop _) (h.append ((hb.take _).drop _))
      · split
        · exact Bytes.nil
        · split
          · exact Bytes.nil
          · exact Bytes.upF most f (hb.drop _) (Bytes.cp _ _ h)
theorem Bytes.unpack {b : List Int} (h : Bytes b) (most : Int) : Bytes (Lz.unpack b most).1 := by
  unfold Lz.unpack
  split
  · exact Bytes.nil
  · exact Bytes.upF most _ h Bytes.nil
end Go.Proofs.Ytahbgebnmgnmoaa

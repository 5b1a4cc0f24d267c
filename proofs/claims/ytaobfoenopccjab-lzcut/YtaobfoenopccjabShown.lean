/- The document's examples hold: what stands at the head of each statement of layer 1. -/
import Derived.Test.YtaobfoenopccjabRefUnpack
import Derived.Laws.BytesArg
import Derived.Lib.SlBytesConst
namespace Go.Proofs.Ytaobfoenopccjab
set_option linter.unusedVariables false
open Go.RowKit Go.Maps
open Lz (g cp up unpack pack runs mt)

/-! ### bytes stay bytes -/
def Bytes (zs : List Int) : Prop := ∀ x ∈ zs, 0 ≤ x ∧ x ≤ 255
theorem Bytes.g {zs : List Int} (h : Bytes zs) : ∀ i, 0 ≤ Lz.g zs i ∧ Lz.g zs i ≤ 255 := fun i => by
  unfold Lz.g
  by_cases hi : i < zs.length
  · simp only [List.getD, List.getElem?_eq_getElem hi, Option.getD_some]
    exact h _ (List.getElem_mem hi)
  · simp only [List.getD, List.getElem?_eq_none (by omega : zs.length ≤ i), Option.getD_none]; omega
theorem Bytes.of_g {zs : List Int} (h : ∀ i, 0 ≤ Lz.g zs i ∧ Lz.g zs i ≤ 255) : Bytes zs := fun x hx => by
  obtain ⟨i, hi, rfl⟩ := List.getElem_of_mem hx
  have := h i
  rw [Lz.g_lt zs i hi] at this
  exact this
theorem Bytes.append {a b : List Int} (h : Bytes a) (k : Bytes b) : Bytes (a ++ b) := fun x hx => by
  rcases List.mem_append.1 hx with h1 | h1
  · exact h x h1
  · exact k x h1
theorem Bytes.take {a : List Int} (h : Bytes a) (n : Nat) : Bytes (a.take n) := fun x hx => h x (List.mem_of_mem_take hx)
theorem Bytes.drop {a : List Int} (h : Bytes a) (n : Nat) : Bytes (a.drop n) := fun x hx => h x (List.mem_of_mem_drop hx)
theorem Bytes.runsF : ∀ (f : Nat) {l : List Int}, Bytes l → Bytes (Lz.runsF f l)
  | 0, l, _ => fun x hx => by simp [Lz.runsF] at hx
  | f + 1, l, h => by
    rw [Lz.runsF_succ]
    split
    · intro x hx; simp at hx
    · rename_i hne
      intro x hx
      rcases List.mem_cons.1 hx with rfl | hx
      · omega
      · exact ((h.take _).append (Bytes.runsF f (h.drop _))) x hx
theorem Bytes.runs {l : List Int} (h : Bytes l) : Bytes (Lz.runs l) := Bytes.runsF _ h
theorem mt_bytes (zs : List Int) (a : Nat) (h : (mt zs a).1 ≠ 0) : Bytes [((mt zs a).1 : Int) + 125, ((mt zs a).2 : Int) - 1] := by
  have h1 := Lz.mt_le zs a
  have h2 := Lz.mt_back zs a
  have h3 : Lz.most zs a ≤ 130 := by unfold Lz.most; omega
  rcases Lz.mt_is zs a with e | ⟨h4, h5, _⟩
  · rw [e] at h; simp at h
  · intro x hx
    simp at hx
    rcases hx with rfl | rfl <;> omega
theorem Bytes.packF {zs : List Int} (hz : Bytes zs) : ∀ (f : Nat) (out : List Int) (run a : Nat), Bytes out → Bytes (Lz.packF zs f out run a)
  | 0, out, run, a, h => h.append (hz.drop run).runs
  | f + 1, out, run, a, h => by
    rw [Lz.packF_succ]
    split
    · exact h.append (hz.drop run).runs
    · split
      · exact Bytes.packF hz f _ _ _ h
      · rename_i h0
        exact Bytes.packF hz f _ _ _ ((h.append ((hz.take a).drop run).runs).append (mt_bytes zs a h0))
theorem Bytes.pack {zs : List Int} (hz : Bytes zs) : Bytes (Lz.pack zs) := Bytes.packF hz _ _ _ _ (fun x hx => by simp at hx)

/-! ### strings of bytes -/
theorem bs_of_owns {w : World} {B n c : Nat} {ao : Option Addr} {zs : List Int} (h : w.ownsRow B 5 1 (.slice ao n c) n (bv zs)) (hb : Bytes zs) : Bs w ao n zs := by
  have hlen : zs.length = n := by have := h.1; rw [bv_length] at this; omega
  refine ⟨hlen, hb.g, ?_⟩
  by_cases e : n = 0
  · exact .inl e
  · obtain ⟨gb, c', hv, _, hlt⟩ := h.form (by omega)
    obtain ⟨rfl, _, rfl⟩ : ao = some ⟨gb, 0, none⟩ ∧ n = n ∧ c = c' := by simpa using hv
    refine .inr ⟨gb, 0, rfl, hlt, fun i hi => ?_⟩
    rw [Nat.zero_add, h.cellAt i (by omega)]
    unfold bv
    rw [List.getElem?_map, List.getElem?_eq_getElem hi, Lz.g_lt _ _ hi]; rfl
theorem cap_of_owns {w : World} {B n c e : Nat} {ao : Option Addr} {xs : List Value} (h : w.ownsRow B e 1 (.slice ao n c) n xs) : n ≤ c := by
  rcases h.2 with ⟨e, _⟩ | ⟨_, _, _, e, _, _, h, _⟩
  · simp at e; omega
  · simp at e; omega
theorem str_any {w : World} {ao : Option Addr} {n : Nat} {zs : List Int} (h : Bs w ao n zs) (c : Nat) : (convert 22 9 (.slice ao n c)).run Try.prog w = .ok (.string (strOfNums zs)) w := by
  obtain ⟨hz, _, h0⟩ := h
  rcases h0 with h0 | ⟨b, off, rfl, _, hs⟩
  · subst h0
    have : zs = [] := List.eq_nil_of_length_eq_zero hz
    subst this
    cases ao with
    | none => exact run_convert_bytes_nil w _ _ Try.underlying22 Try.underlying5 0 c _ Try.underlying9
    | some a =>
      rw [run_convert_bytes_string w _ _ _ _ 0 c Try.underlying22 Try.underlying5 Try.underlying9, run_bytesToString w a 0 c [] (by simp [loadCells, loadCellsFrom])]
      rfl
  · exact run_convert_bytes_arg w _ _ Try.underlying22 Try.underlying5 b off n c zs hz (fun i hi => hs i (by omega)) _ Try.underlying9

theorem pack_shown : pack [97, 98, 99, 97, 98, 99, 97, 98, 99, 100] = [2, 97, 98, 99, 131, 2, 0, 100] := by decide +kernel
theorem unpack_shown : unpack [2, 97, 98, 99, 131, 2, 0, 100] 10 = ([97, 98, 99, 97, 98, 99, 97, 98, 99, 100], 0) := by decide +kernel
theorem unpack_shown9 : unpack [2, 97, 98, 99, 131, 2, 0, 100] 9 = ([], 3) := by decide +kernel
theorem unpack_shown0 : unpack [128, 0] 9 = ([], 2) := by decide +kernel

/-- Bytes that were just laid down. -/
theorem bs_new (w : World) (fz : Nat × Nat) (zs : List Int) (hb : Bytes zs) : Bs (w.alloc (.cells (bv zs).toArray 5 fz)) (some ⟨w.heap.size, 0, none⟩) zs.length zs := by
  refine ⟨rfl, hb.g, .inr ⟨w.heap.size, 0, rfl, by simp, fun i hi => ?_⟩⟩
  rw [Nat.zero_add, cell_of_row _ w.heap.size i _ _ _ (heap_alloc_new w _)]
  simp [bv, Lz.g_lt _ _ hi, hi]

set_option maxRecDepth 100000 in
set_option maxHeartbeats 4000000 in
theorem shown_any (w : World) : Calls Try.prog 4 #[] w fun r w' => r = .returned (.bool true) ∧ Below w.heap.size w w' := by
  have kc := fun (w : World) (C : Array Value) (n c : Nat) => Lib.run_convert_bytes_const (P := Try.prog) w 22 5 C n c Try.underlying22 Try.underlying5
  have q1 : ((strOfNums [2, 97, 98, 99, 131, 2, 0, 100]).toList == [2, 97, 98, 99, 131, 2, 0, 100]) = true := by decide +kernel
  have q2 : ((strOfNums [97, 98, 99, 97, 98, 99, 97, 98, 99, 100]).toList == [97, 98, 99, 97, 98, 99, 97, 98, 99, 100]) = true := by decide +kernel
  have hb1 : Bytes [97, 98, 99, 97, 98, 99, 97, 98, 99, 100] := fun x hx => by simp at hx; omega
  have hb2 : Bytes [2, 97, 98, 99, 131, 2, 0, 100] := fun x hx => by simp at hx; omega
  have hb3 : Bytes [128, 0] := fun x hx => by simp at hx; omega
  have N1 := bs_new w (10, 11) _ hb1
  have HN1 : Hid (Bs (w.alloc (Obj.cells #[.int .u8 97, .int .u8 98, .int .u8 99, .int .u8 97, .int .u8 98, .int .u8 99, .int .u8 97, .int .u8 98, .int .u8 99, .int .u8 100] 5 (10, 11))) (some ⟨w.heap.size, 0, none⟩) 10 [97, 98, 99, 97, 98, 99, 97, 98, 99, 100]) := N1
  clear N1
  go_enter Try.func4, Try.ntmps4
  go_wp2_with fail
  refine (Pack_any 10 10 _ _ _ HN1.out (by omega) (by omega)).mono ?_
  rintro r w1 (⟨h, _⟩ | ⟨_, a1, n1, c1, rfl, o1, bl1⟩)
  · omega
  rw [pack_shown] at o1
  have b1 := bs_of_owns o1 hb2
  have hn1 : n1 = 8 := by have := b1.1; simpa using this.symm
  subst hn1
  have hc1 := cap_of_owns o1
  have sz1 := bl1.size
  go_wp2_with fail
  refine (Unpack_any 8 c1 10 a1 _ _ b1 hc1 (by omega) (by omega)).mono ?_
  rintro r w2 ⟨a2, n2, c2, rfl, o2, bl2⟩
  rw [unpack_shown] at o2 ⊢
  have b2 := bs_of_owns o2 hb1
  have hn2 : n2 = 10 := by have := b2.1; simpa using this.symm
  subst hn2
  have b12 := b1.below bl2
  have sz2 := bl2.size
  go_wp2_with fail
  refine (Unpack_any 8 c1 9 a1 _ _ b12 hc1 (by omega) (by omega)).mono ?_
  rintro r w3 ⟨a3, n3, c3, rfl, o3, bl3⟩
  rw [unpack_shown9] at o3 ⊢
  have sz3 := bl3.size
  have N3 := bs_new w3 (0, 0) _ hb3
  have HN3 : Hid (Bs (w3.alloc (Obj.cells #[.int .u8 128, .int .u8 0] 5)) (some ⟨w3.heap.size, 0, none⟩) 2 [128, 0]) := N3
  clear N3
  go_wp2_with fail
  refine (Unpack_any 2 2 9 _ _ _ HN3.out (by omega) (by omega) (by omega)).mono ?_
  rintro r w4 ⟨a4, n4, c4, rfl, o4, bl4⟩
  rw [unpack_shown0] at o4 ⊢
  have sz4 := bl4.size
  have bl34 : Below w3.heap.size w3 w4 := ((Below.refl _ _).alloc (Nat.le_refl _) _).trans (bl4.mono (by simp))
  have s1 := str_any ((b12.below bl3).below bl34) c1
  have s2 := str_any ((b2.below bl3).below bl34) c2
  have HB : Hid (Below w.heap.size w w4) := by
    have e1 : Below w.heap.size w w1 := ((Below.refl _ _).alloc (Nat.le_refl _) _).trans (bl1.mono (by simp))
    have h2 := bl2.mono e1.size
    have e2 := e1.trans h2
    have e3 := e2.trans (bl3.mono e2.size)
    exact e3.trans (bl34.mono e3.size)
  clear o1 o2 o3 o4 b1 b2 b12 bl1 bl2 bl3 bl4 bl34 HN1 HN3 hb1 hb2 hb3
  go_wp2
  go_ret
  exact ⟨rfl, HB.out⟩
end Go.Proofs.Ytaobfoenopccjab

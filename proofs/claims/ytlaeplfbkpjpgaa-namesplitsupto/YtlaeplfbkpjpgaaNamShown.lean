/- Layer 6: the document's examples come out true. -/
import Derived.Test.YtlaeplfbkpjpgaaNamSplit
import Derived.Test.YtlaeplfbkpjpgaaNamCmp
namespace Go.Proofs.Ytlaeplfbkpjpgaa
set_option linter.unusedVariables false
open Go.RowKit Go.Maps
open Nam

theorem nm_eq {S T : List ByteArray} {X : List (List UInt8)} (h : nm S = X) (k : nm T = X) : S = T := nm_inj (h.trans k.symm)
/-- Split of a text that is known. -/
theorem Split_at (p : ByteArray) (l : List UInt8) (T : List ByteArray) (d : Bool) (x : Int) (hp : p.toList = l) (h : split l = (nm T, d, x)) (w : World) :
    Calls Try.prog 19 #[.string p] w fun e w' => ∃ ao c, e = .returned (.tuple #[.slice ao T.length c, .bool d, .int .i64 x]) ∧ Rs w' ao T.length T ∧ Below w.heap.size w w' := by
  refine (Split_any p w).mono ?_
  rintro e w' ⟨ao, n, c, S, rfl, hr, hs, hn, hb⟩
  rw [hp, h] at hs
  have hST := nm_inj hs
  subst hST
  have := hr.1
  subst this
  exact ⟨ao, c, by rw [hp, h], hr, hb⟩
theorem tl (l : List UInt8) : (⟨l.toArray⟩ : ByteArray).toList = l := toList_mk l
theorem nm2 (a b : List UInt8) : nm [⟨a.toArray⟩, ⟨b.toArray⟩] = [a, b] := by simp [nm]
theorem nm3 (a b c : List UInt8) : nm [⟨a.toArray⟩, ⟨b.toArray⟩, ⟨c.toArray⟩] = [a, b, c] := by simp [nm]
theorem s1 : split [47, 97, 47, 47, 46, 47, 98] = (nm [⟨#[97]⟩, ⟨#[98]⟩], false, 0) := by rw [show nm [⟨#[97]⟩, ⟨#[98]⟩] = [[97], [98]] from nm2 [97] [98]]; decide
theorem s2 : split [47, 97, 47, 46, 46, 47, 98, 47] = (nm [⟨#[97]⟩, ⟨#[46, 46]⟩, ⟨#[98]⟩], true, 0) := by rw [show nm [⟨#[97]⟩, ⟨#[46, 46]⟩, ⟨#[98]⟩] = [[97], [46, 46], [98]] from nm3 [97] [46, 46] [98]]; decide
theorem s3 : split [47] = (nm [], true, 0) := by decide
theorem s4 : split [97] = (nm [], false, 22) := by decide
theorem Split1 (w : World) : Calls Try.prog 19 #[.string ⟨#[47, 97, 47, 47, 46, 47, 98]⟩] w fun e w' => ∃ b o c, e = .returned (.tuple #[.slice (some ⟨b, o, none⟩) 2 c, .bool false, .int .i64 0]) ∧ b < w'.heap.size ∧ w'.cell? ⟨b, o, none⟩ = some (.string ⟨#[97]⟩) ∧ w'.cell? ⟨b, o + 1, none⟩ = some (.string ⟨#[98]⟩) ∧ Below w.heap.size w w' := by
  refine (Split_at _ _ _ _ _ (tl [47, 97, 47, 47, 46, 47, 98]) s1 w).mono ?_
  rintro e w' ⟨ao, c, rfl, hr, hb⟩
  obtain ⟨b, o, rfl, hlt, hc⟩ := hr.at (by decide)
  exact ⟨b, o, c, rfl, hlt, hc 0 (by decide), hc 1 (by decide), hb⟩
theorem Split2 (w : World) : Calls Try.prog 19 #[.string ⟨#[47, 97, 47, 46, 46, 47, 98, 47]⟩] w fun e w' => ∃ b o c, e = .returned (.tuple #[.slice (some ⟨b, o, none⟩) 3 c, .bool true, .int .i64 0]) ∧ b < w'.heap.size ∧ w'.cell? ⟨b, o + 1, none⟩ = some (.string ⟨#[46, 46]⟩) ∧ Below w.heap.size w w' := by
  refine (Split_at _ _ _ _ _ (tl [47, 97, 47, 46, 46, 47, 98, 47]) s2 w).mono ?_
  rintro e w' ⟨ao, c, rfl, hr, hb⟩
  obtain ⟨b, o, rfl, hlt, hc⟩ := hr.at (by decide)
  exact ⟨b, o, c, rfl, hlt, hc 1 (by decide), hb⟩
theorem Split3 (w : World) : Calls Try.prog 19 #[.string ⟨#[47]⟩] w fun e w' => ∃ ao c, e = .returned (.tuple #[.slice ao 0 c, .bool true, .int .i64 0]) ∧ Below w.heap.size w w' := by
  refine (Split_at _ _ _ _ _ (tl [47]) s3 w).mono ?_
  rintro e w' ⟨ao, c, rfl, hr, hb⟩
  exact ⟨ao, c, rfl, hb⟩
theorem Split4 (w : World) : Calls Try.prog 19 #[.string ⟨#[97]⟩] w fun e w' => ∃ ao c, e = .returned (.tuple #[.slice ao 0 c, .bool false, .int .i64 22]) ∧ Below w.heap.size w w' := by
  refine (Split_at _ _ _ _ _ (tl [97]) s4 w).mono ?_
  rintro e w' ⟨ao, c, rfl, hr, hb⟩
  exact ⟨ao, c, rfl, hb⟩
theorem below_drewN {B : Nat} {a w : World} (h : Below B a w) (q : Nat) : Below B a (w.drewN q) := ⟨h.os, h.tape, h.output, h.size, h.block⟩
/-- Names that were just laid down. -/
theorem rs_new (w : World) (l : List ByteArray) : Rs (w.alloc (.cells (sv l).toArray 9)) (some ⟨w.heap.size, 0, none⟩) l.length l := by
  refine ⟨rfl, .inr ⟨w.heap.size, 0, rfl, by simp, fun i hi => ?_⟩⟩
  rw [Nat.zero_add, cell_of_row _ w.heap.size i _ _ _ (heap_alloc_new w _)]
  simp [sv, gs_lt _ _ hi, hi]
theorem Rs.alloc {w : World} {ao : Option Addr} {n : Nat} {l : List ByteArray} (h : Rs w ao n l) (o : Obj) : Rs (w.alloc o) ao n l := h.below ((Below.refl _ _).alloc (Nat.le_refl _) o)
theorem alloc2_size (w : World) (o : Obj) : (w.alloc o).heap.size = w.heap.size + 1 := by simp
theorem Less_new (w : World) (l k : List ByteArray) (L K : Array Value) (n m : Nat) (hL : L = (sv l).toArray) (hK : K = (sv k).toArray) (hn : l.length = n) (hm : k.length = m) (h : less (nm l) (nm k) = true) (hb : n ≤ 1000000) (hc : m ≤ 1000000) :
    Calls Try.prog 13 #[.slice (some ⟨w.heap.size, 0, none⟩) n n, .slice (some ⟨w.heap.size + 1, 0, none⟩) m m] ((w.alloc (.cells L 9)).alloc (.cells K 9)) fun e w' => e = .returned (.bool true) ∧ Below w.heap.size w w' := by
  subst hL hK hn hm
  have h1 := (rs_new w l).alloc (.cells (sv k).toArray 9)
  have h2 := rs_new (w.alloc (.cells (sv l).toArray 9)) k
  rw [alloc2_size] at h2
  refine (Less_any _ _ _ _ _ _ l k _ h1 h2 hb hc).mono ?_
  rintro e w' ⟨rfl, q, rfl⟩
  exact ⟨by rw [h], below_drewN (((Below.refl _ w).alloc (Nat.le_refl _) _).alloc (by simp) _) q⟩
theorem lessA : less (nm [⟨#[97]⟩]) (nm [⟨#[97]⟩, ⟨#[98]⟩]) = true := by
  rw [show nm [⟨#[97]⟩, ⟨#[98]⟩] = [[97], [98]] from nm2 [97] [98], show nm [⟨#[97]⟩] = [[97]] from congrArg (fun x => [x]) (toList_mk [97])]; decide
theorem lessB : less (nm [⟨#[97]⟩, ⟨#[122]⟩]) (nm [⟨#[97, 98]⟩]) = true := by
  rw [show nm [⟨#[97]⟩, ⟨#[122]⟩] = [[97], [122]] from nm2 [97] [122], show nm [⟨#[97, 98]⟩] = [[97, 98]] from congrArg (fun x => [x]) (toList_mk [97, 98])]; decide
set_option maxRecDepth 100000 in
theorem shown_any (w : World) : Calls Try.prog 9 #[] w fun e w' => e = .returned (.bool true) ∧ Below w.heap.size w w' := by
  go_enter Try.func9, Try.ntmps9
  go_wp2_with (go_at_call 19; refine (Split1 w).mono ?_)
  rintro e w1 ⟨b1, o1, c1, rfl, l1, k1, k2, hb1⟩
  go_wp2_with (go_at_call 19; refine (Split2 w1).mono ?_)
  rintro e w2 ⟨b2, o2, c2, rfl, l2, k3, hb2⟩
  go_wp2_with (go_at_call 19; refine (Split3 w2).mono ?_)
  rintro e w3 ⟨ao3, c3, rfl, hb3⟩
  go_wp2_with (go_at_call 19; refine (Split4 w3).mono ?_)
  rintro e w4 ⟨ao4, c4, rfl, hb4⟩
  have s12 := hb2.size
  have s23 := hb3.size
  have s34 := hb4.size
  have m1 : w4.cell? ⟨b1, o1, none⟩ = some (.string ⟨#[97]⟩) := (hb4.cell (by show b1 < _; omega)).trans ((hb3.cell (by show b1 < _; omega)).trans ((hb2.cell (by exact l1)).trans k1))
  have m2 : w4.cell? ⟨b1, o1 + 1, none⟩ = some (.string ⟨#[98]⟩) := (hb4.cell (by show b1 < _; omega)).trans ((hb3.cell (by show b1 < _; omega)).trans ((hb2.cell (by exact l1)).trans k2))
  have m3 : w4.cell? ⟨b2, o2 + 1, none⟩ = some (.string ⟨#[46, 46]⟩) := (hb4.cell (by show b2 < _; omega)).trans ((hb3.cell (by exact l2)).trans k3)
  have HB := hide (hb1.trans ((hb2.mono hb1.size).trans ((hb3.mono (by have := hb1.size; omega)).trans (hb4.mono (by have := hb1.size; omega)))))
  clear hb1 hb2 hb3 hb4 k1 k2 k3
  go_wp2_with (go_at_call 13; refine (Less_new w4 [⟨#[97]⟩] [⟨#[97]⟩, ⟨#[98]⟩] _ _ 1 2 rfl rfl rfl rfl lessA (by decide) (by decide)).mono ?_)
  rintro e w5 ⟨rfl, hb5⟩
  go_wp2_with (go_at_call 13; refine (Less_new w5 [⟨#[97]⟩, ⟨#[122]⟩] [⟨#[97, 98]⟩] _ _ 2 1 rfl rfl rfl rfl lessB (by decide) (by decide)).mono ?_)
  rintro e w6 ⟨rfl, hb6⟩
  go_wp2
  go_ret
  have t4 := HB.out.size
  exact ⟨rfl, HB.out.trans ((hb5.mono t4).trans (hb6.mono (Nat.le_trans t4 hb5.size)))⟩
end Go.Proofs.Ytlaeplfbkpjpgaa

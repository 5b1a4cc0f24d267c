import Derived.Test.YtbmeapehgajbkaaGreatGJNamRow
import Derived.Lib.BufferWrite
import Derived.Lib.UnsafeStr
import Derived.Laws.MakeOwn
import Derived.Lib.Builder
import Derived.Lib.AppendStr
import Derived.Laws.Externs
set_option linter.unusedVariables false
namespace Go.Proofs.YtbmeapehgajbkaaGreat
open Go.RowKit Go.Maps
open Nam
theorem cellsByte : Tryz.prog.cellsOf 5 = 1 := by kernel_rfl
end Go.Proofs.YtbmeapehgajbkaaGreat
namespace Go.Proofs.YtbmeapehgajbkaaGreat
open Go.RowKit Go.Maps
open Nam
theorem sizeBuilder : (Tryz.prog.info? 135).map (·.size) = some 2 := by kernel_rfl
theorem liesBuilder : liesAt Tryz.prog Tryz.prog.depth 135 (2 / Tryz.prog.cellsOf 135) 0 135 1 = true := by kernel_rfl
def Bu (w : World) (B b : Nat) (l : List UInt8) : Prop := Lib.IsBuilder 135 5 B b (Lib.byteCells l) w
theorem noEscape_run (x : Value) (w : World) : (callFunc 101 #[x]).run Tryz.prog w = .ok (.value x) w := by
 rw [run_callFunc_extern Tryz.func101 (by kernel_rfl) (by kernel_rfl) (by kernel_rfl) (e := Extern.AbiNoEscape.same) (by kernel_rfl)]
 rfl
set_option maxRecDepth 100000 in
theorem copyCheck_any (B b : Nat) (bs : List Value) (w : World) (h : Lib.IsBuilder 135 5 B b bs w) :
  Calls Tryz.prog 99 #[.pointer (some ⟨b, 0, none⟩)] w fun e w' => e = .returned (.tuple #[]) ∧ Lib.BuilderAt 135 5 B b (.pointer (some ⟨b, 0, none⟩)) bs w' ∧ Below B w w' := by
 obtain ⟨j, hj, hjs⟩ := Option.map_eq_some_iff.1 sizeBuilder
 rcases h with h | h
 ·have h0 := h.cell0
  have hsh := h.shape
  have hfz := h.frozen0
  have H1 := hide (h.used (.pointer (some ⟨b, 0, none⟩)))
  have H2 := hide ((Below.refl B w).setCell (p := ⟨b, 0, none⟩) h.1 (.pointer (some ⟨b, 0, none⟩)))
  have k1 : (convert 133 147 (.pointer (some ⟨b, 0, none⟩))).run Tryz.prog w = .ok (.pointer (some ⟨b, 0, none⟩)) w :=
   Lib.run_to_unsafe w ⟨b, 0, none⟩ Tryz.underlying133 Tryz.underlying147 hj (by rw [hjs]; decide) hsh (Nat.zero_lt_succ 1)
  have k2 : (convert 147 133 (.pointer (some ⟨b, 0, none⟩))).run Tryz.prog w = .ok (.pointer (some ⟨b, 0, none⟩)) w :=
   Lib.run_from_unsafe w ⟨b, 0, none⟩ Tryz.underlying147 Tryz.underlying133 hj hsh liesBuilder
  have k3 := noEscape_run (.pointer (some ⟨b, 0, none⟩))
  have k4 : ∀ w : World, (binOp .neq 133 (.pointer (some ⟨b, 0, none⟩)) (.pointer (some ⟨b, 0, none⟩))).run Tryz.prog w = .ok (.bool false) w := fun w =>
   Lib.run_neq_ptr_same w _ Tryz.underlying133 hj
  have k5 : (w.setCell ⟨b, 0, none⟩ (.pointer (some ⟨b, 0, none⟩))).cell? ⟨b, 0, none⟩ = some (.pointer (some ⟨b, 0, none⟩)) := World.cell?_setCell_same _ _ _ h0
  clear h hsh
  go_enter Tryz.func99, Tryz.ntmps99
  go_wp2
  go_end0
  exact ⟨rfl, H1.out, H2.out⟩
 ·have h0 := h.cell0
  have H1 := hide h
  have k3 : ∀ w : World, (binOp .neq 133 (.pointer (some ⟨b, 0, none⟩)) (.pointer (some ⟨b, 0, none⟩))).run Tryz.prog w = .ok (.bool false) w := fun w =>
   Lib.run_neq_ptr_same w _ Tryz.underlying133 hj
  clear h
  go_enter Tryz.func99, Tryz.ntmps99
  go_wp2
  go_end0
  exact ⟨rfl, H1.out, Below.refl _ _⟩
theorem builder_cells {w : World} {T e B b : Nat} {p : Value} {bs : List Value} (h : Lib.BuilderAt T e B b p bs w) : ∃ v, w.heap[b]? = some (.cells #[p, v] T (0, 0)) ∧ w.ownsRow B e 1 v bs.length bs ∧ some b ≠ v.ownBlock ∧ w.cell? ⟨b, 0, none⟩ = some p ∧ w.cell? ⟨b, 1, none⟩ = some v ∧ b < w.heap.size := by
 have hlt := h.lt
 obtain ⟨_, v, h1, h2, h3⟩ := h
 exact ⟨v, h1, h2, fun e => h3 e.symm, by rw [Lib.cell_of_heap h1]; rfl, by rw [Lib.cell_of_heap h1]; rfl, hlt⟩
theorem one_news (w : World) (c : UInt8) : ∀ j u, (Lib.byteCells [c])[j]? = some u → (w.alloc (.cells #[.int .u8 c.toNat] 5)).cell? ((⟨w.heap.size, 0, none⟩ : Addr).add j) = some u := by
 intro j u hj
 match j, hj with
 | 0, hj => simp [Lib.byteCells] at hj; subst hj; simp [Addr.add]
set_option maxRecDepth 100000 in
theorem WriteByte_any (B b : Nat) (l : List UInt8) (c : UInt8) (w : World) (h : Bu w B b l) (hlen : l.length ≤ 1000000000) (hB : B ≤ w.heap.size) :
  Calls Tryz.prog 92 #[.pointer (some ⟨b, 0, none⟩), .int .u8 c.toNat] w fun e w' => e = .returned .nilIface ∧ Bu w' B b (l ++ [c]) ∧ Below B w w' := by
 obtain ⟨i0, hi, hz0, hz1, hz2⟩ := info_parts infoByte
 have HC := hide (copyCheck_any B b _ w h)
 clear h
 go_enter Tryz.func92, Tryz.ntmps92
 go_wp2_with (go_at_call 99; refine HC.out.mono ?_)
 rintro e w1 ⟨rfl, h1, hb1⟩
 have hBb := h1.1
 obtain ⟨v, hbk, hown, hne, c0, c1, hlt⟩ := builder_cells h1
 rw [Lib.byteCells_length] at hown
 clear h1
 have hs1 := hb1.size
 go_wp2_with (at_builtin; refine wpList_append_own _ rfl _ _ 38 rfl B 5 i0 (.int .u8 0) 1 1 Tryz.underlying38 hi hz0 hz1 hz2 rfl (by decide) _ _ _ rfl (hown.alloc _) ⟨w1.heap.size, 0, none⟩ 1 1 (Lib.byteCells [c]) rfl rfl ?c1 ?c2 ?c3 ?c4 ?c5 ?_)
 case c1 => exact one_news _ _
 case c2 => exact Lib.byteCells_one _
 case c3 => unfold maxLen; omega
 case c4 => omega
 case c5 => simp; omega
 intro v' w2 hown' hgrow _
 have hg := grown_alloc hgrow
 have hb2 : w2.heap[b]? = some (.cells #[.pointer (some ⟨b, 0, none⟩), v] 135 (0, 0)) := (hg.block b hlt hne).trans hbk
 have hw2 : Below B w1 w2 := (Below.refl B w1).grown hg (by omega) (fun k hk => (hown.lt k hk).1)
 have d0 : w2.cell? ⟨b, 0, none⟩ = some (.pointer (some ⟨b, 0, none⟩)) := by rw [Lib.cell_of_heap hb2]; rfl
 have d1 : w2.cell? ⟨b, 1, none⟩ = some v := by rw [Lib.cell_of_heap hb2]; rfl
 have f1 : w2.frozen? ⟨b, 1, none⟩ = false := Lib.frozen_of_heap hb2 1
 obtain ⟨ao, cc, rfl⟩ := owns_shape hown'
 have H := hide (Lib.BuilderAt.put (T := 135) (e := 5) hBb hb2 (bs' := Lib.byteCells (l ++ [c])) (by rw [Lib.byteCells_length, Lib.byteCells_append, List.length_append]; exact hown') (by decide))
 have H2 := hide ((hb1.trans hw2).setCell (p := ⟨b, 1, none⟩) hBb (.slice ao (l.length + 1) cc))
 clear hgrow hg hown hown' hbk hb2 hb1 hw2 hne
 go_wp2
 go_ret
 exact ⟨rfl, .inr H.out, H2.out⟩
set_option maxRecDepth 100000 in
theorem WriteString_any (B b : Nat) (l : List UInt8) (s : ByteArray) (w : World) (h : Bu w B b l) (hlen : l.length + s.size ≤ 1000000000) (hB : B ≤ w.heap.size) :
  Calls Tryz.prog 93 #[.pointer (some ⟨b, 0, none⟩), .string s] w fun e w' => e = .returned (.tuple #[.int .i64 s.size, .nilIface]) ∧ Bu w' B b (l ++ s.toList) ∧ Below B w w' := by
 obtain ⟨i0, hi, hz0, hz1, hz2⟩ := info_parts infoByte
 have HC := hide (copyCheck_any B b _ w h)
 clear h
 go_enter Tryz.func93, Tryz.ntmps93
 go_wp2_with (go_at_call 99; refine HC.out.mono ?_)
 rintro e w1 ⟨rfl, h1, hb1⟩
 have hBb := h1.1
 obtain ⟨v, hbk, hown, hne, c0, c1, hlt⟩ := builder_cells h1
 rw [Lib.byteCells_length] at hown
 clear h1
 have hs1 := hb1.size
 go_wp2_with (at_builtin; refine Lib.wpList_append_own_string _ rfl _ _ 38 9 rfl B 5 i0 Tryz.underlying38 Tryz.underlying9 hi hz0 hz1 hz2 _ _ _ rfl hown s rfl ?c3 ?c4 ?c5 ?_)
 case c3 => unfold maxLen; omega
 case c4 => omega
 case c5 => omega
 intro v' w2 hown' hg _
 have hb2 : w2.heap[b]? = some (.cells #[.pointer (some ⟨b, 0, none⟩), v] 135 (0, 0)) := (hg.block b hlt hne).trans hbk
 have hw2 : Below B w1 w2 := (Below.refl B w1).grown hg (by omega) (fun k hk => (hown.lt k hk).1)
 have d0 : w2.cell? ⟨b, 0, none⟩ = some (.pointer (some ⟨b, 0, none⟩)) := by rw [Lib.cell_of_heap hb2]; rfl
 have d1 : w2.cell? ⟨b, 1, none⟩ = some v := by rw [Lib.cell_of_heap hb2]; rfl
 have f1 : w2.frozen? ⟨b, 1, none⟩ = false := Lib.frozen_of_heap hb2 1
 obtain ⟨ao, cc, rfl⟩ := owns_shape hown'
 have H := hide (Lib.BuilderAt.put (T := 135) (e := 5) hBb hb2 (bs' := Lib.byteCells (l ++ s.toList)) (by rw [Lib.byteCells_length, Lib.byteCells_append, List.length_append, toList_length, ByteArray.toList_eq]; exact hown') (by decide))
 have H2 := hide ((hb1.trans hw2).setCell (p := ⟨b, 1, none⟩) hBb (.slice ao (l.length + s.size) cc))
 clear hg hown hown' hbk hb2 hb1 hw2 hne
 go_wp2
 go_ret2
 exact ⟨rfl, .inr H.out, H2.out⟩
set_option maxRecDepth 100000 in
theorem String_any (B b : Nat) (l : List UInt8) (w : World) (h : Bu w B b l) (h0 : l ≠ []) (hlen : l.length ≤ 1000000000) :
  Calls Tryz.prog 94 #[.pointer (some ⟨b, 0, none⟩)] w fun e w' => e = .returned (.string ⟨l.toArray⟩) ∧ Below B w w' := by
 obtain ⟨v, hown, c1⟩ : ∃ v, w.ownsRow B 5 1 v l.length (Lib.byteCells l) ∧ w.cell? ⟨b, 1, none⟩ = some v := by
  rcases h with h | h
  all_goals
   obtain ⟨v, hbk, hown, hne, c0, c1, hlt⟩ := builder_cells h
   rw [Lib.byteCells_length] at hown
   exact ⟨v, hown, c1⟩
 obtain ⟨g, cap, cur, rfl, hBg, hg, hc, hm, hcs, ht⟩ : ∃ g cap cur, v = .slice (some ⟨g, 0, none⟩) l.length cap ∧ B ≤ g ∧ w.heap[g]? = some (.cells cur 5 (0, 0)) ∧ l.length ≤ cap ∧ cap ≤ maxLen ∧ cur.size = cap * 1 ∧ cur.toList.take (l.length * 1) = Lib.byteCells l := by
  rcases hown.2 with ⟨_, e⟩ | h
  ·exact absurd (List.eq_nil_of_length_eq_zero e) h0
  ·exact h
 have hl0 : l.length ≠ 0 := fun e => h0 (List.eq_nil_of_length_eq_zero e)
 have hSD : ∀ W : World, (Builtin.unsafeSliceData_ #[38] 146 #[.slice (some ⟨g, 0, none⟩) l.length cap]).run Tryz.prog W = .ok (.pointer (some ⟨g, 0, none⟩)) W := fun W => Lib.run_unsafeSliceData_row W _ _ _ _ _ (by omega)
 have hUS : (Builtin.unsafeString_ #[146, 3] 9 #[.pointer (some ⟨g, 0, none⟩), .int .i64 l.length]).run Tryz.prog w.drew = .ok (.string ⟨l.toArray⟩) (w.drew.freeze ⟨g, 0, none⟩ l.length) :=
  Lib.run_unsafeString_row w.drew 146 3 9 5 Tryz.underlying146 cellsByte g cur.size (by have hg' : w.drew.heap[g]? = some (.cells cur 5 (0, 0)) := hg; simp [World.shape?, hg']) l h0 (by omega) (by omega)
   (fun j x hx => hown.cells (g := g) rfl j (.int .u8 x.toNat) (by simp [Lib.byteCells, hx]))
 have H := hide (Lib.below_freeze (Below.drew (Below.refl B w)) (p := ⟨g, 0, none⟩) hBg l.length)
 have c2 : w.drew.cell? ⟨b, 1, none⟩ = some (.slice (some ⟨g, 0, none⟩) l.length cap) := c1
 clear hown hg hc hm hcs ht h
 go_enter Tryz.func94, Tryz.ntmps94
 go_wp2
 go_region
 all_goals (go_wp2; go_ret; exact ⟨rfl, H.out⟩)
end Go.Proofs.YtbmeapehgajbkaaGreat
namespace Go.Proofs.YtbmeapehgajbkaaGreat
open Go.RowKit Go.Maps
open Nam
def jn (l : List ByteArray) : List UInt8 := (nm l).flatMap (fun n => 47 :: n)
theorem jn_append (l m : List ByteArray) : jn (l ++ m) = jn l ++ jn m := by rw [jn, nm_append, List.flatMap_append]; rfl
theorem jn_snoc (l : List ByteArray) (i : Nat) (h : i < l.length) : jn (l.take (i + 1)) = (jn (l.take i) ++ [47]) ++ (gs l i).toList := by
 rw [List.take_succ_eq_append_getElem h, gs_lt l i h, jn_append, List.append_assoc]
 simp [jn, nm]
theorem jn_len (l : List ByteArray) (i : Nat) : (jn (l.take i)).length ≤ (jn l).length := by
 have : jn l = jn (l.take i) ++ jn (l.drop i) := by
  rw [← jn_append, List.take_append_drop]
 rw [this, List.length_append]; omega
theorem jn_ne (l : List ByteArray) (h : l ≠ []) : jn l ≠ [] := by
 obtain ⟨x, y, rfl⟩ := List.exists_cons_of_ne_nil h
 simp [jn, nm]
theorem join_jn (l : List ByteArray) (h : l ≠ []) : join (nm l) = jn l := by
 unfold join jn
 rw [if_neg (fun e => h (by simpa [nm] using e))]
theorem bu_new (w : World) : Bu (w.alloc (.cells #[.pointer none, .slice none 0 0] 135)) w.heap.size w.heap.size [] :=
 .inl ⟨Nat.le_refl _, .slice none 0 0, heap_alloc_new w _, World.ownsRow_nil _ _ _ _, by simp [Value.ownBlock]⟩
theorem WriteSlash (B b : Nat) (l : List UInt8) (w : World) (h : Bu w B b l) (hlen : l.length ≤ 1000000000) (hB : B ≤ w.heap.size) :
  Calls Tryz.prog 92 #[.pointer (some ⟨b, 0, none⟩), .int .u8 47] w fun e w' => e = .returned .nilIface ∧ Bu w' B b (l ++ [47]) ∧ Below B w w' := WriteByte_any B b l 47 w h hlen hB
set_option maxRecDepth 100000 in
theorem Join_any (a : Option Addr) (n c : Nat) (l : List ByteArray) (w : World) (hl : Rs w a n l) (hn : n ≤ 1000000) (hs : (jn l).length ≤ 1000000000) :
  Calls Tryz.prog 81 #[.slice a n c] w fun e w' => e = .returned (.string ⟨(join (nm l)).toArray⟩) ∧ Below w.heap.size w w' := by
 have HLN := hide hl.1
 by_cases h0 : n = 0
 ·have e : l = [] := List.eq_nil_of_length_eq_zero (by rw [HLN.out, h0])
  subst e
  subst h0
  clear hl hs
  go_enter Tryz.func81, Tryz.ntmps81
  go_wp2
  go_ret
  exact ⟨rfl, Below.refl _ _⟩
 ·obtain ⟨ba, oa, rfl, hba, hca⟩ := hl.at (by omega)
  have HC := hide hca
  have hne : Hid (l ≠ []) := fun e => h0 (by rw [← HLN.out, e]; rfl)
  have h1 : ((n : Int) == 0) = false := beq_eq_false_iff_ne.2 (by omega)
  have HS := hide hs
  clear hl hca hs
  go_enter Tryz.func81, Tryz.ntmps81
  go_wp2
  go_loopw [5, 11] (fun _ r wr => ∃ i : Nat, r = .int .i64 i ∧ i ≤ n ∧ Bu wr w.heap.size w.heap.size (jn (l.take i)) ∧ Below w.heap.size w wr ∧ w.heap.size < wr.heap.size) (fun _ r _ => n - (intOf r).toNat)
  case atStart => exact ⟨0, rfl, Nat.zero_le _, bu_new w, (Below.refl _ _).alloc (Nat.le_refl _) _, by simp⟩
  case round =>
   obtain ⟨i, rfl, hi0, hbu, hbel, hsz⟩ := hrel
   have HB := hide hbu
   have HE := hide hbel
   by_cases hp : i < n
   ·have hd : decide ((i : Int) < n) = true := by simpa using hp
    have c1 : wr.cell? ⟨ba, oa + i, none⟩ = some (.string (gs l i)) := (hbel.cell (by exact hba)).trans (HC.out i hp)
    have hj := jn_snoc l i (by rw [HLN.out]; exact hp)
    have hjl := jn_len l (i + 1)
    have HJ := hide hj
    have hq : (jn (l.take i)).length + 1 + (gs l i).size ≤ 1000000000 := by
     rw [hj, List.length_append, List.length_append, toList_length] at hjl
     have := HS.out
     simp only [List.length_cons, List.length_nil] at hjl
     omega
    have hq2 : Hid ((jn (l.take i) ++ [47]).length + (gs l i).size ≤ 1000000000) := by
     show _ ≤ _
     simp only [List.length_append, List.length_cons, List.length_nil]; omega
    clear hbu hbel hj hjl
    go_wp2_with (go_at_call 92; refine (WriteSlash w.heap.size w.heap.size (jn (l.take i)) wr HB.out (by omega) (by omega)).mono ?_; rintro e w1 ⟨rfl, hb1, he1⟩)
    have hs1 := he1.size
    have H1 := hide hb1
    have E1 := hide he1
    clear hb1 he1
    go_wp2_with (go_at_call 93; refine (WriteString_any w.heap.size w.heap.size (jn (l.take i) ++ [47]) (gs l i) w1 H1.out hq2.out (by omega)).mono ?_; rintro e w2 ⟨rfl, hb2, he2⟩)
    have hs2 := he2.size
    have H2 := hide hb2
    have E2 := hide he2
    clear hb2 he2
    go_wp2
    go_roundw
    case rel =>
     refine ⟨i + 1, by go_num, by omega, ?_, (HE.out.trans E1.out).trans E2.out, by omega⟩
     rw [HJ.out]; exact H2.out
    case measure => simp [intOf]; omega
   ·have hd : decide ((i : Int) < n) = false := by simpa using hp
    have e : l.take i = l := List.take_of_length_le (by rw [HLN.out]; omega)
    rw [e] at hbu
    have HB' := hide hbu
    have HF := hide (join_jn l hne.out)
    have hjn := jn_ne l hne.out
    clear hbu hbel e HB
    go_wp2_with (go_at_call 94; refine (String_any w.heap.size w.heap.size (jn l) wr HB'.out hjn HS.out).mono ?_; rintro e w1 ⟨rfl, he1⟩)
    go_ret
    refine ⟨?_, HE.out.trans he1⟩
    rw [HF.out]; rfl
end Go.Proofs.YtbmeapehgajbkaaGreat

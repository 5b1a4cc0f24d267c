/- What the proof stands on, part 2 of 7: the texts TreName, NamClone, NamBuild, NamJoin, TrePath, TreMay, TreMayX, TreCheck, TreCanon, TreOne, TreFacts, TreStabP, TreRefFind, TreStab, TreStab2, TreStab3, TreStab4, TreStab5, TreKid0, each with what the proof reaches of it. -/
import Derived.Test.YtchcejjoncihkaaGreatDoorJa
import Derived.Lib.BufferWrite
import Derived.Lib.UnsafeStr
import Derived.Laws.MakeOwn
import Derived.Lib.Builder
import Derived.Lib.AppendStr
import Derived.Laws.Externs
import Derived.Deep.RegionHeld3
import Derived.Lib.Strings
import Derived.Lib.Slices
import Derived.Lib.Walk
import Derived.Lib.Bytealg
import Derived.BigRegion
import Derived.BigQuiet
import Derived.Deep.CutRange

/- Layer 7: the first wrong name; nodes gone through by a function that is handed in: all, IndexFunc, ContainsFunc; isDeep. -/
namespace Go.Proofs.YtchcejjoncihkaaGreatDoor
set_option linter.unusedVariables false
open Go.RowKit Go.Maps
open Nam Tre
open Lz (g)

namespace Tre
/-- The place of the first one of which p holds; -1 where there is none. -/
def fi (p : Nod → Bool) : Nat → List Nod → Int
  | _, [] => -1
  | i, n :: r => if p n = true then i else fi p (i + 1) r
theorem fi_ge (p : Nod → Bool) : ∀ (l : List Nod) (i : Nat), decide (0 ≤ fi p i l) = l.any p
  | [], i => rfl
  | n :: r, i => by
    unfold fi
    rw [List.any_cons]
    cases h : p n with
    | true => simp
    | false => rw [if_neg (by simp), Bool.false_or]; exact fi_ge p r (i + 1)
theorem fv_drop (l : List ByteArray) (i : Nat) (h : i < l.length) : fv (l.drop i) = if valid (gs l i).toList = 0 then fv (l.drop (i + 1)) else valid (gs l i).toList := by
  rw [List.drop_eq_getElem_cons h, gs_lt l i h, fv]
end Tre
/-- What a function that is handed in answers of each node, in whatever world comes behind. -/
def Asks (fn : Nat) (caps : Array Value) (p : Nod → Bool) (L : List (Nv × Nod)) (w : World) : Prop :=
  ∀ q ∈ L, ∀ w1, Below w.heap.size w w1 → Calls Tryz.prog fn (#[.agg q.1.cells] ++ caps) w1 fun e w' => e = .returned (.bool (p q.2)) ∧ Below w1.heap.size w1 w'
set_option maxRecDepth 100000 in
theorem all_any (a : Option Addr) (n c : Nat) (L : List (Nv × Nod)) (fn : Nat) (caps : Array Value) (p : Nod → Bool) (w : World) (hl : Ns w a n L) (hc : n ≤ c) (hcm : c ≤ 9223372036854775807)
    (hen : ∀ (args : Array Value) (w : World), (callFunc fn args).run Tryz.prog w = .ok (.enter fn args) w) (hp : Asks fn caps p L w) :
    Calls Tryz.prog 103 #[.slice a n c, .func (.func fn) #[] caps] w fun e w' => e = .returned (.bool ((nds L).all p)) ∧ Below w.heap.size w w' := by
  have HL := hide hl
  have HLN := hide hl.1
  have HP := hide hp
  clear hl hp
  go_enter Tryz.func103, Tryz.ntmps103
  go_wp2
  go_loopw [6, 9] (fun _ r wr => ∃ i : Nat, r = .int .i64 i ∧ i ≤ n ∧ Below w.heap.size w wr ∧ (nds L).all p = ((nds L).drop i).all p) (fun _ r _ => n - (intOf r).toNat)
  case atStart => exact ⟨0, rfl, Nat.zero_le _, Below.refl _ _, rfl⟩
  case round =>
    obtain ⟨i, rfl, hi0, hbel, hinv⟩ := hrel
    have HI := hide hinv
    have HB := hide hbel
    by_cases hi : i < n
    · have hd : decide ((i : Int) < n) = true := by simpa using hi
      obtain ⟨ba, oa, rfl, hba, hca⟩ := (HL.out.below hbel).at (by omega)
      obtain ⟨c0, c1, c2, c3, c4, c5, c6, c7, c8, c9⟩ := hca i hi
      have HE := hide (nds_drop L i (by rw [HLN.out]; exact hi))
      obtain ⟨z, hz⟩ : ∃ z, p (gl L i).2 = z := ⟨_, rfl⟩
      have HZ := hide hz
      have HQ := hide (fun w1 hb => HP.out (gl L i) (gl_mem L i (by rw [HLN.out]; exact hi)) w1 hb)
      have bel : Hid (∀ o, Below w.heap.size w (wr.alloc o)) := fun o => HB.out.alloc HB.out.size _
      clear hca hinv hbel hz
      go_wp2_with fail
      refine (HQ.out _ (bel.out _)).mono ?_
      rw [HZ.out]
      rintro e w1 ⟨rfl, hb1⟩
      have e1 := hide ((bel.out _).trans (hb1.mono (bel.out _).size))
      clear hb1
      cases z with
      | false =>
        go_wp2
        go_ret
        exact ⟨ret_bool (by rw [HI.out, HE.out, List.all_cons, HZ.out]; rfl), e1.out⟩
      | true =>
        go_wp2
        refine ⟨⟨i + 1, by go_num, by omega, e1.out, ?_⟩, by simp [intOf]; omega⟩
        rw [HI.out, HE.out, List.all_cons, HZ.out]; rfl
    · have hd : decide ((i : Int) < n) = false := by simpa using hi
      go_wp2
      go_ret
      refine ⟨ret_bool ?_, HB.out⟩
      rw [HI.out, List.drop_eq_nil_of_le (by rw [nds_length, HLN.out]; omega)]; rfl
set_option maxRecDepth 100000 in
theorem IndexFunc_any (a : Option Addr) (n c : Nat) (L : List (Nv × Nod)) (fn : Nat) (caps : Array Value) (p : Nod → Bool) (w : World) (hl : Ns w a n L) (hc : n ≤ c) (hcm : c ≤ 9223372036854775807)
    (hen : ∀ (args : Array Value) (w : World), (callFunc fn args).run Tryz.prog w = .ok (.enter fn args) w) (hp : Asks fn caps p L w) :
    Calls Tryz.prog 146 #[.slice a n c, .func (.func fn) #[] caps] w fun e w' => e = .returned (.int .i64 (fi p 0 (nds L))) ∧ Below w.heap.size w w' := by
  have HL := hide hl
  have HLN := hide hl.1
  have HP := hide hp
  clear hl hp
  go_enter Tryz.func146, Tryz.ntmps146
  go_wp2
  go_loopw [5, 8] (fun _ r wr => ∃ i : Nat, r = .int .i64 i ∧ i ≤ n ∧ Below w.heap.size w wr ∧ fi p 0 (nds L) = fi p i ((nds L).drop i)) (fun _ r _ => n - (intOf r).toNat)
  case atStart => exact ⟨0, rfl, Nat.zero_le _, Below.refl _ _, rfl⟩
  case round =>
    obtain ⟨i, rfl, hi0, hbel, hinv⟩ := hrel
    have HI := hide hinv
    have HB := hide hbel
    by_cases hi : i < n
    · have hd : decide ((i : Int) < n) = true := by simpa using hi
      obtain ⟨ba, oa, rfl, hba, hca⟩ := (HL.out.below hbel).at (by omega)
      obtain ⟨c0, c1, c2, c3, c4, c5, c6, c7, c8, c9⟩ := hca i hi
      have HE := hide (nds_drop L i (by rw [HLN.out]; exact hi))
      obtain ⟨z, hz⟩ : ∃ z, p (gl L i).2 = z := ⟨_, rfl⟩
      have HZ := hide hz
      have HQ := hide (fun w1 hb => HP.out (gl L i) (gl_mem L i (by rw [HLN.out]; exact hi)) w1 hb)
      clear hca hinv hbel hz
      go_wp2_with fail
      refine (HQ.out _ HB.out).mono ?_
      rw [HZ.out]
      rintro e w1 ⟨rfl, hb1⟩
      have e1 := hide (HB.out.trans (hb1.mono HB.out.size))
      clear hb1
      cases z with
      | true =>
        go_wp2
        go_ret
        exact ⟨ret_int (by rw [HI.out, HE.out, fi, HZ.out]; rfl), e1.out⟩
      | false =>
        go_wp2
        refine ⟨⟨i + 1, by go_num, by omega, e1.out, ?_⟩, by simp [intOf]; omega⟩
        rw [HI.out, HE.out, fi, HZ.out]; rfl
    · have hd : decide ((i : Int) < n) = false := by simpa using hi
      go_wp2
      go_ret
      refine ⟨ret_int ?_, HB.out⟩
      rw [HI.out, List.drop_eq_nil_of_le (by rw [nds_length, HLN.out]; omega)]; rfl
theorem ContainsFunc_any (a : Option Addr) (n c : Nat) (L : List (Nv × Nod)) (fn : Nat) (caps : Array Value) (p : Nod → Bool) (w : World) (hl : Ns w a n L) (hc : n ≤ c) (hcm : c ≤ 9223372036854775807)
    (hen : ∀ (args : Array Value) (w : World), (callFunc fn args).run Tryz.prog w = .ok (.enter fn args) w) (hp : Asks fn caps p L w) :
    Calls Tryz.prog 98 #[.slice a n c, .func (.func fn) #[] caps] w fun e w' => e = .returned (.bool ((nds L).any p)) ∧ Below w.heap.size w w' := by
  have H := hide (IndexFunc_any a n c L fn caps p w hl hc hcm hen hp)
  have HE := hide (fi_ge p (nds L) 0)
  clear hl hp
  go_enter Tryz.func98, Tryz.ntmps98
  go_wp2_with (go_at_call 146; refine H.out.mono ?_; rintro e w' ⟨rfl, hb⟩)
  go_ret
  exact ⟨ret_bool HE.out, hb⟩
theorem isDeep_any (v : Nv) (n : Nod) (w : World) (h : Rep w v n) : Calls Tryz.prog 99 #[.agg v.cells] w fun e w' => e = .returned (.bool (deep n)) ∧ Below w.heap.size w w' := by
  have HE : Hid (decide ((16 : Int) < v.nn) = deep n) := by
    show _ = _
    rw [deep, h.names.1, Bool.eq_iff_iff, decide_eq_true_eq, decide_eq_true_eq]; omega
  clear h
  unfold Nv.cells
  go_enter Tryz.func99, Tryz.ntmps99
  go_wp2
  go_ret
  exact ⟨ret_bool (by rw [← HE.out]), (Below.refl _ _).alloc (Nat.le_refl _) _⟩
set_option maxRecDepth 100000 in
theorem wrongName_any (a : Option Addr) (n c : Nat) (L : List (Nv × Nod)) (w : World) (hl : Ns w a n L) (hc : n ≤ c) (hcm : c ≤ 9223372036854775807) :
    Calls Tryz.prog 97 #[.slice a n c] w fun e w' => e = .returned (.int .i64 (wrong (nds L))) ∧ Below w.heap.size w w' := by
  have HL := hide hl
  have HLN := hide hl.1
  clear hl
  go_enter Tryz.func97, Tryz.ntmps97
  go_wp2
  go_loopw [4, 6, 7, 10, 15, 16, 17] (fun _ _ _ r _ _ _ wr => ∃ i : Nat, r = .int .i64 i ∧ i ≤ n ∧ Below w.heap.size w wr ∧ wrong (nds L) = wrong ((nds L).drop i)) (fun _ _ _ r _ _ _ _ => n - (intOf r).toNat)
  case atStart => exact ⟨0, rfl, Nat.zero_le _, Below.refl _ _, rfl⟩
  case round =>
    obtain ⟨i, rfl, hi0, hbel, hinv⟩ := hrel
    have HI := hide hinv
    have HB := hide hbel
    by_cases hi : i < n
    · have hd : decide ((i : Int) < n) = true := by simpa using hi
      obtain ⟨ba, oa, rfl, hba, hca⟩ := (HL.out.below hbel).at (by omega)
      obtain ⟨c0, c1, c2, c3, c4, c5, c6, c7, c8, c9⟩ := hca i hi
      have HE := hide (nds_drop L i (by rw [HLN.out]; exact hi))
      have hr := HL.out.rep i hi
      obtain ⟨na, nn, nc, c0', hN, n1, n2⟩ : ∃ na nn nc, wr.cell? ⟨ba, oa + i * 10, none⟩ = some (.slice na nn nc) ∧ Rs w na nn (gl L i).2.names ∧ nn ≤ nc ∧ nc ≤ 9223372036854775807 := ⟨_, _, _, c0, hr.names, hr.nc, hr.ncm⟩
      have HN := hide hN
      have HNN := hide hN.1
      have bel : Hid (∀ o, Below w.heap.size w (wr.alloc o)) := fun o => HB.out.alloc HB.out.size _
      clear hca hinv hbel hr c0 hN
      go_wp2
      go_loopw [6, 7, 17] (fun _ _ r ws => ∃ k : Nat, r = .int .i64 k ∧ k ≤ nn ∧ Below w.heap.size w ws ∧ fv (gl L i).2.names = fv ((gl L i).2.names.drop k)) (fun _ _ r _ => nn - (intOf r).toNat)
      case atStart => exact ⟨0, rfl, Nat.zero_le _, bel.out _, rfl⟩
      case round =>
        obtain ⟨k, rfl, hk0, hbel2, hinv2⟩ := hrel
        have HI2 := hide hinv2
        have HB2 := hide hbel2
        by_cases hk : k < nn
        · have hd2 : decide ((k : Int) < nn) = true := by simpa using hk
          obtain ⟨bb, ob, rfl, hbb, hcb⟩ := (HN.out.below hbel2).at (by omega)
          have d1 := hcb k hk
          have HE2 := hide (fv_drop (gl L i).2.names k (by rw [HNN.out]; exact hk))
          obtain ⟨z, hz⟩ : ∃ z, valid (gs (gl L i).2.names k).toList = z := ⟨_, rfl⟩
          have HZ := hide hz
          clear hcb hinv2 hbel2 hz
          go_wp2_with (go_at_call 145; refine (Valid_any _ _).mono ?_)
          rw [HZ.out]
          rintro e w2 ⟨rfl, hb2⟩
          have e2 := hide (HB2.out.trans (hb2.mono HB2.out.size))
          clear hb2
          by_cases hzz : z = 0
          · have hz1 : (z != 0) = false := by simp [hzz]
            have HZZ := hide hzz
            clear hzz
            go_wp2
            refine ⟨⟨k + 1, by go_num, by omega, e2.out, ?_⟩, by simp [intOf]; omega⟩
            rw [HI2.out, HE2.out, HZ.out, if_pos HZZ.out]
          · have hz1 : (z != 0) = true := by simpa using hzz
            have HZZ := hide hzz
            clear hzz
            go_wp2
            go_ret
            refine ⟨ret_int ?_, e2.out⟩
            have hfv : fv (gl L i).2.names = z := by rw [HI2.out, HE2.out, HZ.out, if_neg HZZ.out]
            rw [HI.out, HE.out, wrong, hfv, if_neg HZZ.out]
        · have hd2 : decide ((k : Int) < nn) = false := by simpa using hk
          go_wp2
          refine ⟨⟨i + 1, by go_num, by omega, HB2.out, ?_⟩, by simp [intOf]; omega⟩
          have hfv : fv (gl L i).2.names = 0 := by rw [HI2.out, List.drop_eq_nil_of_le (by rw [HNN.out]; omega)]; rfl
          rw [HI.out, HE.out, wrong, if_pos hfv]
    · have hd : decide ((i : Int) < n) = false := by simpa using hi
      go_wp2
      go_ret
      refine ⟨ret_int ?_, HB.out⟩
      rw [HI.out, List.drop_eq_nil_of_le (by rw [nds_length, HLN.out]; omega)]; rfl
end Go.Proofs.YtchcejjoncihkaaGreatDoor

/- Layer 6: strings.Clone: a copy of a text, in a row of bytes of its own. -/
namespace Go.Proofs.YtchcejjoncihkaaGreatDoor
set_option linter.unusedVariables false
open Go.RowKit Go.Maps
open Nam

theorem cellsByte : Tryz.prog.cellsOf 5 = 1 := by kernel_rfl
end Go.Proofs.YtchcejjoncihkaaGreatDoor

/- Layer 6: a strings.Builder of the call's own: a byte and a text written to it, and what it holds as a text. -/
namespace Go.Proofs.YtchcejjoncihkaaGreatDoor
set_option linter.unusedVariables false
open Go.RowKit Go.Maps
open Nam

theorem sizeBuilder : (Tryz.prog.info? 237).map (·.size) = some 2 := by kernel_rfl
theorem liesBuilder : liesAt Tryz.prog Tryz.prog.depth 237 (2 / Tryz.prog.cellsOf 237) 0 237 1 = true := by kernel_rfl
/-- The builder in block b holds the bytes l; its blocks are from B on. -/
def Bu (w : World) (B b : Nat) (l : List UInt8) : Prop := Lib.IsBuilder 237 5 B b (Lib.byteCells l) w
theorem noEscape_run (x : Value) (w : World) : (callFunc 244 #[x]).run Tryz.prog w = .ok (.value x) w := by
  rw [run_callFunc_extern Tryz.func244 (by kernel_rfl) (by kernel_rfl) (by kernel_rfl) (e := Extern.AbiNoEscape.same) (by kernel_rfl)]
  rfl
set_option maxRecDepth 100000 in
theorem copyCheck_any (B b : Nat) (bs : List Value) (w : World) (h : Lib.IsBuilder 237 5 B b bs w) :
    Calls Tryz.prog 225 #[.pointer (some ⟨b, 0, none⟩)] w fun e w' => e = .returned (.tuple #[]) ∧ Lib.BuilderAt 237 5 B b (.pointer (some ⟨b, 0, none⟩)) bs w' ∧ Below B w w' := by
  obtain ⟨j, hj, hjs⟩ := Option.map_eq_some_iff.1 sizeBuilder
  rcases h with h | h
  · have h0 := h.cell0
    have hsh := h.shape
    have hfz := h.frozen0
    have H1 := hide (h.used (.pointer (some ⟨b, 0, none⟩)))
    have H2 := hide ((Below.refl B w).setCell (p := ⟨b, 0, none⟩) h.1 (.pointer (some ⟨b, 0, none⟩)))
    have k1 : (convert 235 279 (.pointer (some ⟨b, 0, none⟩))).run Tryz.prog w = .ok (.pointer (some ⟨b, 0, none⟩)) w :=
      Lib.run_to_unsafe w ⟨b, 0, none⟩ Tryz.underlying235 Tryz.underlying279 hj (by rw [hjs]; decide) hsh (Nat.zero_lt_succ 1)
    have k2 : (convert 279 235 (.pointer (some ⟨b, 0, none⟩))).run Tryz.prog w = .ok (.pointer (some ⟨b, 0, none⟩)) w :=
      Lib.run_from_unsafe w ⟨b, 0, none⟩ Tryz.underlying279 Tryz.underlying235 hj hsh liesBuilder
    have k3 := noEscape_run (.pointer (some ⟨b, 0, none⟩))
    have k4 : ∀ w : World, (binOp .neq 235 (.pointer (some ⟨b, 0, none⟩)) (.pointer (some ⟨b, 0, none⟩))).run Tryz.prog w = .ok (.bool false) w := fun w =>
      Lib.run_neq_ptr_same w _ Tryz.underlying235 hj
    have k5 : (w.setCell ⟨b, 0, none⟩ (.pointer (some ⟨b, 0, none⟩))).cell? ⟨b, 0, none⟩ = some (.pointer (some ⟨b, 0, none⟩)) := World.cell?_setCell_same _ _ _ h0
    clear h hsh
    go_enter Tryz.func225, Tryz.ntmps225
    go_wp2
    go_end0
    exact ⟨rfl, H1.out, H2.out⟩
  · have h0 := h.cell0
    have H1 := hide h
    have k3 : ∀ w : World, (binOp .neq 235 (.pointer (some ⟨b, 0, none⟩)) (.pointer (some ⟨b, 0, none⟩))).run Tryz.prog w = .ok (.bool false) w := fun w =>
      Lib.run_neq_ptr_same w _ Tryz.underlying235 hj
    clear h
    go_enter Tryz.func225, Tryz.ntmps225
    go_wp2
    go_end0
    exact ⟨rfl, H1.out, Below.refl _ _⟩
theorem builder_cells {w : World} {T e B b : Nat} {p : Value} {bs : List Value} (h : Lib.BuilderAt T e B b p bs w) : ∃ v, w.heap[b]? = some (.cells #[p, v] T (0, 0)) ∧ w.ownsRow B e 1 v bs.length bs ∧ some b ≠ v.ownBlock ∧ w.cell? ⟨b, 0, none⟩ = some p ∧ w.cell? ⟨b, 1, none⟩ = some v ∧ b < w.heap.size := by
  have hlt := h.lt
  obtain ⟨_, v, h1, h2, h3⟩ := h
  exact ⟨v, h1, h2, fun e => h3 e.symm, by rw [Lib.cell_of_heap h1]; rfl, by rw [Lib.cell_of_heap h1]; rfl, hlt⟩
theorem one_news (w : World) (c : UInt8) : ∀ j u, (Lib.byteCells [c])[j]? = some u → (w.alloc (.cells #[.int .u8 c.toNat] 5)).cell? ((⟨w.heap.size, 0, none⟩ : Addr).add j) = some u := by
  intro j u hj
  match j, hj with
  | 0, hj => simp [Lib.byteCells] at hj; subst hj; simp [Addr.add]
set_option maxRecDepth 100000 in
theorem WriteByte_any (B b : Nat) (l : List UInt8) (c : UInt8) (w : World) (h : Bu w B b l) (hlen : l.length ≤ 1000000000) (hB : B ≤ w.heap.size) :
    Calls Tryz.prog 194 #[.pointer (some ⟨b, 0, none⟩), .int .u8 c.toNat] w fun e w' => e = .returned .nilIface ∧ Bu w' B b (l ++ [c]) ∧ Below B w w' := by
  obtain ⟨i0, hi, hz0, hz1, hz2⟩ := info_parts infoByte
  have HC := hide (copyCheck_any B b _ w h)
  clear h
  go_enter Tryz.func194, Tryz.ntmps194
  go_wp2_with (go_at_call 225; refine HC.out.mono ?_)
  rintro e w1 ⟨rfl, h1, hb1⟩
  have hBb := h1.1
  obtain ⟨v, hbk, hown, hne, c0, c1, hlt⟩ := builder_cells h1
  rw [Lib.byteCells_length] at hown
  clear h1
  have hs1 := hb1.size
  go_wp2_with (at_builtin; refine wpList_append_own _ rfl _ _ 25 rfl B 5 i0 (.int .u8 0) 1 1 Tryz.underlying25 hi hz0 hz1 hz2 rfl (by decide) _ _ _ rfl (hown.alloc _) ⟨w1.heap.size, 0, none⟩ 1 1 (Lib.byteCells [c]) rfl rfl ?c1 ?c2 ?c3 ?c4 ?c5 ?_)
  case c1 => exact one_news _ _
  case c2 => exact Lib.byteCells_one _
  case c3 => unfold maxLen; omega
  case c4 => omega
  case c5 => simp; omega
  intro v' w2 hown' hgrow _
  have hg := grown_alloc hgrow
  have hb2 : w2.heap[b]? = some (.cells #[.pointer (some ⟨b, 0, none⟩), v] 237 (0, 0)) := (hg.block b hlt hne).trans hbk
  have hw2 : Below B w1 w2 := (Below.refl B w1).grown hg (by omega) (fun k hk => (hown.lt k hk).1)
  have d0 : w2.cell? ⟨b, 0, none⟩ = some (.pointer (some ⟨b, 0, none⟩)) := by rw [Lib.cell_of_heap hb2]; rfl
  have d1 : w2.cell? ⟨b, 1, none⟩ = some v := by rw [Lib.cell_of_heap hb2]; rfl
  have f1 : w2.frozen? ⟨b, 1, none⟩ = false := Lib.frozen_of_heap hb2 1
  obtain ⟨ao, cc, rfl⟩ := owns_shape hown'
  have H := hide (Lib.BuilderAt.put (T := 237) (e := 5) hBb hb2 (bs' := Lib.byteCells (l ++ [c])) (by rw [Lib.byteCells_length, Lib.byteCells_append, List.length_append]; exact hown') (by decide))
  have H2 := hide ((hb1.trans hw2).setCell (p := ⟨b, 1, none⟩) hBb (.slice ao (l.length + 1) cc))
  clear hgrow hg hown hown' hbk hb2 hb1 hw2 hne
  go_wp2
  go_ret
  exact ⟨rfl, .inr H.out, H2.out⟩
set_option maxRecDepth 100000 in
theorem WriteString_any (B b : Nat) (l : List UInt8) (s : ByteArray) (w : World) (h : Bu w B b l) (hlen : l.length + s.size ≤ 1000000000) (hB : B ≤ w.heap.size) :
    Calls Tryz.prog 195 #[.pointer (some ⟨b, 0, none⟩), .string s] w fun e w' => e = .returned (.tuple #[.int .i64 s.size, .nilIface]) ∧ Bu w' B b (l ++ s.toList) ∧ Below B w w' := by
  obtain ⟨i0, hi, hz0, hz1, hz2⟩ := info_parts infoByte
  have HC := hide (copyCheck_any B b _ w h)
  clear h
  go_enter Tryz.func195, Tryz.ntmps195
  go_wp2_with (go_at_call 225; refine HC.out.mono ?_)
  rintro e w1 ⟨rfl, h1, hb1⟩
  have hBb := h1.1
  obtain ⟨v, hbk, hown, hne, c0, c1, hlt⟩ := builder_cells h1
  rw [Lib.byteCells_length] at hown
  clear h1
  have hs1 := hb1.size
  go_wp2_with (at_builtin; refine Lib.wpList_append_own_string _ rfl _ _ 25 9 rfl B 5 i0 Tryz.underlying25 Tryz.underlying9 hi hz0 hz1 hz2 _ _ _ rfl hown s rfl ?c3 ?c4 ?c5 ?_)
  case c3 => unfold maxLen; omega
  case c4 => omega
  case c5 => omega
  intro v' w2 hown' hg _
  have hb2 : w2.heap[b]? = some (.cells #[.pointer (some ⟨b, 0, none⟩), v] 237 (0, 0)) := (hg.block b hlt hne).trans hbk
  have hw2 : Below B w1 w2 := (Below.refl B w1).grown hg (by omega) (fun k hk => (hown.lt k hk).1)
  have d0 : w2.cell? ⟨b, 0, none⟩ = some (.pointer (some ⟨b, 0, none⟩)) := by rw [Lib.cell_of_heap hb2]; rfl
  have d1 : w2.cell? ⟨b, 1, none⟩ = some v := by rw [Lib.cell_of_heap hb2]; rfl
  have f1 : w2.frozen? ⟨b, 1, none⟩ = false := Lib.frozen_of_heap hb2 1
  obtain ⟨ao, cc, rfl⟩ := owns_shape hown'
  have H := hide (Lib.BuilderAt.put (T := 237) (e := 5) hBb hb2 (bs' := Lib.byteCells (l ++ s.toList)) (by rw [Lib.byteCells_length, Lib.byteCells_append, List.length_append, toList_length, ByteArray.toList_eq]; exact hown') (by decide))
  have H2 := hide ((hb1.trans hw2).setCell (p := ⟨b, 1, none⟩) hBb (.slice ao (l.length + s.size) cc))
  clear hg hown hown' hbk hb2 hb1 hw2 hne
  go_wp2
  go_ret2
  exact ⟨rfl, .inr H.out, H2.out⟩
set_option maxRecDepth 100000 in
theorem String_any (B b : Nat) (l : List UInt8) (w : World) (h : Bu w B b l) (h0 : l ≠ []) (hlen : l.length ≤ 1000000000) :
    Calls Tryz.prog 196 #[.pointer (some ⟨b, 0, none⟩)] w fun e w' => e = .returned (.string ⟨l.toArray⟩) ∧ Below B w w' := by
  obtain ⟨v, hown, c1⟩ : ∃ v, w.ownsRow B 5 1 v l.length (Lib.byteCells l) ∧ w.cell? ⟨b, 1, none⟩ = some v := by
    rcases h with h | h
    all_goals
      obtain ⟨v, hbk, hown, hne, c0, c1, hlt⟩ := builder_cells h
      rw [Lib.byteCells_length] at hown
      exact ⟨v, hown, c1⟩
  obtain ⟨g, cap, cur, rfl, hBg, hg, hc, hm, hcs, ht⟩ : ∃ g cap cur, v = .slice (some ⟨g, 0, none⟩) l.length cap ∧ B ≤ g ∧ w.heap[g]? = some (.cells cur 5 (0, 0)) ∧ l.length ≤ cap ∧ cap ≤ maxLen ∧ cur.size = cap * 1 ∧ cur.toList.take (l.length * 1) = Lib.byteCells l := by
    rcases hown.2 with ⟨_, e⟩ | h
    · exact absurd (List.eq_nil_of_length_eq_zero e) h0
    · exact h
  have hl0 : l.length ≠ 0 := fun e => h0 (List.eq_nil_of_length_eq_zero e)
  have hSD : ∀ W : World, (Builtin.unsafeSliceData_ #[25] 266 #[.slice (some ⟨g, 0, none⟩) l.length cap]).run Tryz.prog W = .ok (.pointer (some ⟨g, 0, none⟩)) W := fun W => Lib.run_unsafeSliceData_row W _ _ _ _ _ (by omega)
  have hUS : (Builtin.unsafeString_ #[266, 3] 9 #[.pointer (some ⟨g, 0, none⟩), .int .i64 l.length]).run Tryz.prog w.drew = .ok (.string ⟨l.toArray⟩) (w.drew.freeze ⟨g, 0, none⟩ l.length) :=
    Lib.run_unsafeString_row w.drew 266 3 9 5 Tryz.underlying266 cellsByte g cur.size (by have hg' : w.drew.heap[g]? = some (.cells cur 5 (0, 0)) := hg; simp [World.shape?, hg']) l h0 (by omega) (by omega)
      (fun j x hx => hown.cells (g := g) rfl j (.int .u8 x.toNat) (by simp [Lib.byteCells, hx]))
  have H := hide (Lib.below_freeze (Below.drew (Below.refl B w)) (p := ⟨g, 0, none⟩) hBg l.length)
  have c2 : w.drew.cell? ⟨b, 1, none⟩ = some (.slice (some ⟨g, 0, none⟩) l.length cap) := c1
  clear hown hg hc hm hcs ht h
  go_enter Tryz.func196, Tryz.ntmps196
  go_wp2
  go_region
  all_goals (go_wp2; go_ret; exact ⟨rfl, H.out⟩)
end Go.Proofs.YtchcejjoncihkaaGreatDoor

/- Layer 6: Join, and the reference's. -/
namespace Go.Proofs.YtchcejjoncihkaaGreatDoor
set_option linter.unusedVariables false
open Go.RowKit Go.Maps
open Nam

/-- The path's bytes of some names. -/
def jn (l : List ByteArray) : List UInt8 := (nm l).flatMap (fun n => 47 :: n)
theorem jn_append (l m : List ByteArray) : jn (l ++ m) = jn l ++ jn m := by rw [jn, nm_append, List.flatMap_append]; rfl
theorem jn_snoc (l : List ByteArray) (i : Nat) (h : i < l.length) : jn (l.take (i + 1)) = (jn (l.take i) ++ [47]) ++ (gs l i).toList := by
  rw [List.take_succ_eq_append_getElem h, gs_lt l i h, jn_append, List.append_assoc]
  simp [jn, nm]
theorem jn_len (l : List ByteArray) (i : Nat) : (jn (l.take i)).length ≤ (jn l).length := by
  have : jn l = jn (l.take i) ++ jn (l.drop i) := by
    rw [← jn_append, List.take_append_drop]
  rw [this, List.length_append]; omega
theorem jn_ne (l : List ByteArray) (h : l ≠ []) : jn l ≠ [] := by
  obtain ⟨x, y, rfl⟩ := List.exists_cons_of_ne_nil h
  simp [jn, nm]
theorem join_jn (l : List ByteArray) (h : l ≠ []) : join (nm l) = jn l := by
  unfold join jn
  rw [if_neg (fun e => h (by simpa [nm] using e))]
/-- A builder that is new. -/
theorem bu_new (w : World) : Bu (w.alloc (.cells #[.pointer none, .slice none 0 0] 237)) w.heap.size w.heap.size [] :=
  .inl ⟨Nat.le_refl _, .slice none 0 0, heap_alloc_new w _, World.ownsRow_nil _ _ _ _, by simp [Value.ownBlock]⟩
theorem WriteSlash (B b : Nat) (l : List UInt8) (w : World) (h : Bu w B b l) (hlen : l.length ≤ 1000000000) (hB : B ≤ w.heap.size) :
    Calls Tryz.prog 194 #[.pointer (some ⟨b, 0, none⟩), .int .u8 47] w fun e w' => e = .returned .nilIface ∧ Bu w' B b (l ++ [47]) ∧ Below B w w' := WriteByte_any B b l 47 w h hlen hB
set_option maxRecDepth 100000 in
theorem Join_any (a : Option Addr) (n c : Nat) (l : List ByteArray) (w : World) (hl : Rs w a n l) (hn : n ≤ 1000000) (hs : (jn l).length ≤ 1000000000) :
    Calls Tryz.prog 147 #[.slice a n c] w fun e w' => e = .returned (.string ⟨(join (nm l)).toArray⟩) ∧ Below w.heap.size w w' := by
  have HLN := hide hl.1
  by_cases h0 : n = 0
  · have e : l = [] := List.eq_nil_of_length_eq_zero (by rw [HLN.out, h0])
    subst e
    subst h0
    clear hl hs
    go_enter Tryz.func147, Tryz.ntmps147
    go_wp2
    go_ret
    exact ⟨rfl, Below.refl _ _⟩
  · obtain ⟨ba, oa, rfl, hba, hca⟩ := hl.at (by omega)
    have HC := hide hca
    have hne : Hid (l ≠ []) := fun e => h0 (by rw [← HLN.out, e]; rfl)
    have h1 : ((n : Int) == 0) = false := beq_eq_false_iff_ne.2 (by omega)
    have HS := hide hs
    clear hl hca hs
    go_enter Tryz.func147, Tryz.ntmps147
    go_wp2
    go_loopw [5, 11] (fun _ r wr => ∃ i : Nat, r = .int .i64 i ∧ i ≤ n ∧ Bu wr w.heap.size w.heap.size (jn (l.take i)) ∧ Below w.heap.size w wr ∧ w.heap.size < wr.heap.size) (fun _ r _ => n - (intOf r).toNat)
    case atStart => exact ⟨0, rfl, Nat.zero_le _, bu_new w, (Below.refl _ _).alloc (Nat.le_refl _) _, by simp⟩
    case round =>
      obtain ⟨i, rfl, hi0, hbu, hbel, hsz⟩ := hrel
      have HB := hide hbu
      have HE := hide hbel
      by_cases hp : i < n
      · have hd : decide ((i : Int) < n) = true := by simpa using hp
        have c1 : wr.cell? ⟨ba, oa + i, none⟩ = some (.string (gs l i)) := (hbel.cell (by exact hba)).trans (HC.out i hp)
        have hj := jn_snoc l i (by rw [HLN.out]; exact hp)
        have hjl := jn_len l (i + 1)
        have HJ := hide hj
        have hq : (jn (l.take i)).length + 1 + (gs l i).size ≤ 1000000000 := by
          rw [hj, List.length_append, List.length_append, toList_length] at hjl
          have := HS.out
          simp only [List.length_cons, List.length_nil] at hjl
          omega
        have hq2 : Hid ((jn (l.take i) ++ [47]).length + (gs l i).size ≤ 1000000000) := by
          show _ ≤ _
          simp only [List.length_append, List.length_cons, List.length_nil]; omega
        clear hbu hbel hj hjl
        go_wp2_with (go_at_call 194; refine (WriteSlash w.heap.size w.heap.size (jn (l.take i)) wr HB.out (by omega) (by omega)).mono ?_; rintro e w1 ⟨rfl, hb1, he1⟩)
        have hs1 := he1.size
        have H1 := hide hb1
        have E1 := hide he1
        clear hb1 he1
        go_wp2_with (go_at_call 195; refine (WriteString_any w.heap.size w.heap.size (jn (l.take i) ++ [47]) (gs l i) w1 H1.out hq2.out (by omega)).mono ?_; rintro e w2 ⟨rfl, hb2, he2⟩)
        have hs2 := he2.size
        have H2 := hide hb2
        have E2 := hide he2
        clear hb2 he2
        go_wp2
        go_roundw
        case rel =>
          refine ⟨i + 1, by go_num, by omega, ?_, (HE.out.trans E1.out).trans E2.out, by omega⟩
          rw [HJ.out]; exact H2.out
        case measure => simp [intOf]; omega
      · have hd : decide ((i : Int) < n) = false := by simpa using hp
        have e : l.take i = l := List.take_of_length_le (by rw [HLN.out]; omega)
        rw [e] at hbu
        have HB' := hide hbu
        have HF := hide (join_jn l hne.out)
        have hjn := jn_ne l hne.out
        clear hbu hbel e HB
        go_wp2_with (go_at_call 196; refine (String_any w.heap.size w.heap.size (jn l) wr HB'.out hjn HS.out).mono ?_; rintro e w1 ⟨rfl, he1⟩)
        go_ret
        refine ⟨?_, HE.out.trans he1⟩
        rw [HF.out]; rfl
end Go.Proofs.YtchcejjoncihkaaGreatDoor

/- Layer 7: the places of nodes by their paths: byPath, isDir, haveParents. -/
namespace Go.Proofs.YtchcejjoncihkaaGreatDoor
set_option linter.unusedVariables false
open Go.RowKit Go.Maps
open Nam Tre

theorem make_hint (n : Nat) (w : World) : (Instr.makeMap 160 (some (.int .i64 (n : Int)))).run Tryz.prog w = .ok (.map (some w.heap.size)) (w.alloc (.map #[] 0)) := by
  simp [Instr.makeMap, run_underlying Tryz.underlying160, asInt, asIntOf, Result.andThen]
theorem jn_bound (l : List ByteArray) (k : Nat) (hs : ∀ s ∈ l, s.size ≤ 255) : (jn l).length ≤ 256 * l.length := by
  induction l with
  | nil => simp [jn, nm]
  | cons a r ih =>
    have h1 := hs a (by simp)
    have h2 := ih (fun s hs' => hs s (by simp [hs']))
    have : jn (a :: r) = (47 :: a.toList) ++ jn r := by simp [jn, nm]
    rw [this, List.length_append, List.length_cons, toList_length, List.length_cons]
    omega
namespace Tre
/-- Names that are short enough to be put together. -/
def Short (l : List ByteArray) : Prop := l.length ≤ 16 ∧ ∀ s ∈ l, s.size ≤ 255
theorem Short.jn {l : List ByteArray} (h : Short l) : (jn l).length ≤ 1000000000 := by
  have := jn_bound l 0 h.2
  have := h.1
  omega
/-- A node's path, as a key. -/
def pkey (m : List ByteArray) : Lit := .string (join (nm m))
def pkeys (l : List Nod) : List Lit := l.map (fun n => pkey n.names)
theorem pkeys_length (l : List Nod) : (pkeys l).length = l.length := by simp [pkeys]
theorem pkeys_lit (l : List Nod) : ∀ k ∈ pkeys l, WideAt.IsKeyLit k := by
  intro k hk
  simp only [pkeys, List.mem_map] at hk
  obtain ⟨n, _, rfl⟩ := hk
  exact trivial
end Tre
theorem pkeys_at (L : List (Nv × Nod)) (i : Nat) (h : i < L.length) : (pkeys (nds L)).getD i (.bool false) = pkey (gl L i).2.names := by
  have : i < (pkeys (nds L)).length := by rw [pkeys_length, nds_length]; exact h
  rw [List.getD_eq_getElem?_getD, List.getElem?_eq_getElem this, Option.getD_some, gl_lt L i h]
  simp [pkeys, nds]
theorem Short.join {m : List ByteArray} (h : Short m) : (join (nm m)).length ≤ 1000000000 := by
  by_cases e : m = []
  · subst e; simp [nm, Nam.join]
  · rw [join_jn m e]; exact h.jn
theorem joinKey (m : List ByteArray) (h : Short m) : keyOf Tryz.prog 9 (.string ⟨(join (nm m)).toArray⟩) = some (pkey m) := by
  rw [keyStr]
  · rfl
  · have := Short.join h
    unfold maxLen
    show (join (nm m)).toArray.size ≤ _
    simp; omega
theorem mapUnder : Tryz.prog.underlying 160 = some (.map 9 3) := Tryz.underlying160
set_option maxRecDepth 100000 in
theorem byPath_any (a : Option Addr) (n c : Nat) (L : List (Nv × Nod)) (w : World) (hl : Ns w a n L) (hc : n ≤ c) (hcm : c ≤ 9223372036854775807) (hn : n ≤ 100000) (hsh : ∀ p ∈ L, Short p.2.names) :
    Calls Tryz.prog 100 #[.slice a n c] w fun e w' => ∃ b, e = .returned (.map (some b)) ∧ w.heap.size ≤ b ∧ MpK 9 w' b (mcnt (pkeys (nds L)) n) (mlast (pkeys (nds L)) n) ∧ Below w.heap.size w w' := by
  have HL := hide hl
  have HLN := hide hl.1
  have HS := hide hsh
  have hn' : (n : Int) ≤ 100000 := by omega
  clear hl hsh
  have mk := make_hint n
  go_enter Tryz.func100, Tryz.ntmps100
  go_wp2
  go_loopw [4, 5, 11] (fun _ _ r wr => ∃ i : Nat, r = .int .i64 i ∧ i ≤ n ∧ Below w.heap.size w wr ∧ MpK 9 wr w.heap.size (mcnt (pkeys (nds L)) i) (mlast (pkeys (nds L)) i)) (fun _ _ r _ => n - (intOf r).toNat)
  case atStart => exact ⟨0, rfl, Nat.zero_le _, (Below.refl _ _).alloc (Nat.le_refl _) _, mpk_new _ w⟩
  case round =>
    obtain ⟨i, rfl, hi0, hbel, hmp⟩ := hrel
    have HB := hide hbel
    have HM := hide hmp
    by_cases hi : i < n
    · have hd : decide ((i : Int) < n) = true := by simpa using hi
      obtain ⟨ba, oa, rfl, hba, hca⟩ := (HL.out.below hbel).at (by omega)
      obtain ⟨c0, c1, c2, c3, c4, c5, c6, c7, c8, c9⟩ := hca i hi
      have hr := HL.out.rep i hi
      have HR := hide hr.names
      have hshi := HS.out (gl L i) (gl_mem L i (by rw [HLN.out]; exact hi))
      have HSh := hide hshi
      have hnn : (gl L i).1.nn ≤ 1000000 := by have := hr.names.1; have := hshi.1; omega
      have HK := hide (pkeys_at L i (by rw [HLN.out]; exact hi))
      have bel : Hid (∀ o, Below w.heap.size w (wr.alloc o)) := fun o => HB.out.alloc HB.out.size _
      have hsz := hmp.lt
      clear hca hbel hmp hr hshi mk
      go_wp2_with (go_at_call 147; refine (Join_any _ _ _ (gl L i).2.names _ (HR.out.below (bel.out _)) hnn HSh.out.jn).mono ?_)
      rintro e w1 ⟨rfl, hb1⟩
      have e1 := hide ((bel.out _).trans (hb1.mono (bel.out _).size))
      have hm1 : MpK 9 w1 w.heap.size (mcnt (pkeys (nds L)) i) (mlast (pkeys (nds L)) i) := (HM.out.below ((Below.refl _ wr).alloc (Nat.le_refl _) _)).below hb1
      obtain ⟨w2, hrun, hm2, hg2⟩ := hm1.store keyedStr mapUnder (joinKey (gl L i).2.names HSh.out) trivial (by have := mcnt_le (ks := pkeys (nds L)) i; omega) i
      have HM2 := hide hm2
      have e2 := hide (e1.out.grown hg2 e1.out.size (fun k hk => by cases hk; exact Nat.le_refl _))
      clear hm1 hm2 hg2 hb1
      go_wp2
      refine ⟨⟨i + 1, by go_num, by omega, e2.out, ?_⟩, by simp [intOf]; omega⟩
      rw [mcnt, mlast, HK.out]
      exact HM2.out
    · have hd : decide ((i : Int) < n) = false := by simpa using hi
      have e : i = n := by omega
      rw [e] at hmp
      have HM2 := hide hmp
      clear hmp hbel e HM mk
      go_wp2
      go_ret
      exact ⟨w.heap.size, rfl, Nat.le_refl _, HM2.out, HB.out⟩
/-- What the places tell of some names: whether they are a directory's. -/
def dirM (L : List (Nv × Nod)) (f : Lit → Option Nat) (m : List ByteArray) : Bool :=
  match f (pkey m) with
  | some j => decide ((gl L j).2.kind = 1)
  | none => false
set_option maxRecDepth 100000 in
theorem isDir_any (a : Option Addr) (n c : Nat) (L : List (Nv × Nod)) (b sz : Nat) (f : Lit → Option Nat) (na : Option Addr) (nn nc : Nat) (m : List ByteArray) (w : World) (hl : Ns w a n L) (hc : n ≤ c) (hcm : c ≤ 9223372036854775807)
    (hm : MpK 9 w b sz f) (hf : ∀ k j, f k = some j → j < n) (hr : Rs w na nn m) (hs : Short m) :
    Calls Tryz.prog 101 #[.slice a n c, .map (some b), .slice na nn nc] w fun e w' => e = .returned (.bool (dirM L f m)) ∧ Below w.heap.size w w' := by
  have HL := hide hl
  have HM := hide hm
  have HR := hide hr
  have HS := hide hs
  have hnn : nn ≤ 1000000 := by have := hr.1; have := hs.1; omega
  clear hr hs hm
  go_enter Tryz.func101, Tryz.ntmps101
  go_wp2_with (go_at_call 147; refine (Join_any _ _ _ m _ HR.out hnn HS.out.jn).mono ?_)
  rintro e w1 ⟨rfl, hb1⟩
  have HB := hide hb1
  have hk := (HM.out.below hb1).look keyedStr mapUnder (joinKey m HS.out) trivial
  cases hfm : f (pkey m) with
  | none =>
    have HD : Hid (dirM L f m = false) := by show _ = _; rw [dirM, hfm]
    rw [hfm] at hk
    simp only [Option.getD_none, Option.isSome_none] at hk
    clear hl hb1 hfm
    go_wp2
    go_ret
    exact ⟨ret_bool (by rw [HD.out]), HB.out⟩
  | some j =>
    have hj := hf _ _ hfm
    obtain ⟨ba, oa, rfl, hba, hca⟩ := (HL.out.below hb1).at (by omega)
    obtain ⟨c0, c1, c2, c3, c4, c5, c6, c7, c8, c9⟩ := hca j hj
    have HD : Hid (((gl L j).1.kind == 1) = dirM L f m) := by
      show _ = _
      rw [dirM, hfm, ← (hl.rep j hj).kind]
      rw [Bool.eq_iff_iff, beq_iff_eq, decide_eq_true_eq]
    rw [hfm] at hk
    simp only [Option.getD_some, Option.isSome_some] at hk
    have hj' : (j : Int) < n := by omega
    clear hl hb1 hfm hca
    go_wp2
    go_ret
    exact ⟨ret_bool HD.out, HB.out⟩
theorem dropLast_take (m : List ByteArray) : m.take (m.length - 1) = m.dropLast := List.dropLast_eq_take.symm
theorem Short.take {m : List ByteArray} (h : Short m) (k : Nat) : Short (m.take k) := ⟨by have := h.1; simp; omega, fun s hs => h.2 s (List.mem_of_mem_take hs)⟩
set_option maxRecDepth 100000 in
theorem parent_any (v : Nv) (x : Nod) (a : Option Addr) (n c : Nat) (L : List (Nv × Nod)) (b sz pl pm : Nat) (f : Lit → Option Nat) (w : World) (hx : Rep w v x) (hl : Ns w a n L) (hc : n ≤ c) (hcm : c ≤ 9223372036854775807)
    (hm : MpK 9 w b sz f) (hf : ∀ k j, f k = some j → j < n) (hs : Short x.names) (hpl : w.cell? ⟨pl, 0, none⟩ = some (.slice a n c)) (hpm : w.cell? ⟨pm, 0, none⟩ = some (.map (some b))) (lpl : pl < w.heap.size) (lpm : pm < w.heap.size) :
    Calls Tryz.prog 148 #[.agg v.cells, .pointer (some ⟨pl, 0, none⟩), .pointer (some ⟨pm, 0, none⟩)] w fun e w' => e = .returned (.bool (decide (x.names.length = 0) || dirM L f x.names.dropLast)) ∧ Below w.heap.size w w' := by
  have hnn := hx.names.1
  obtain ⟨na, nn, nc, hcells, hr, n1, n2, hnn⟩ : ∃ na nn nc, v.cells = #[.slice na nn nc, .int .i64 v.ino, .int .i64 v.kind, .int .i64 v.mode, .int .i64 v.uid, .int .i64 v.gid, .slice v.da v.dn v.dc, .string v.tg, .slice v.xa v.xn v.xc, .bool v.op] ∧ Rs w na nn x.names ∧ nn ≤ nc ∧ nc ≤ 9223372036854775807 ∧ x.names.length = nn :=
    ⟨_, _, _, rfl, hx.names, hx.nc, hx.ncm, hx.names.1⟩
  rw [hcells]
  have h16 : nn ≤ 16 := by rw [← hnn]; exact hs.1
  have HNN := hide hnn
  have bel : Hid (∀ o, Below w.heap.size w (w.alloc o)) := fun o => (Below.refl _ _).alloc (Nat.le_refl _) _
  by_cases h0 : nn = 0
  · subst h0
    have HD : Hid ((decide (x.names.length = 0) || dirM L f x.names.dropLast) = true) := by show _ = _; rw [hnn]; rfl
    clear hx hl hm hs hr hnn hcells
    go_enter Tryz.func148, Tryz.ntmps148
    go_wp2
    go_quiet (fail)
    go_wp2
    go_ret
    exact ⟨ret_bool HD.out.symm, (bel.out _).trans (drewN_below _ _)⟩
  · have HD : Hid ((decide (x.names.length = 0) || dirM L f x.names.dropLast) = dirM L f (x.names.take (nn - 1))) := by
      show _ = _
      rw [hnn, decide_eq_false h0, Bool.false_or, ← hnn, dropLast_take]
    have HK : Hid (∀ w1, Below w.heap.size w w1 → Calls Tryz.prog 101 #[.slice a n c, .map (some b), .slice na (nn - 1) nc] w1 fun e w' => e = .returned (.bool (dirM L f (x.names.take (nn - 1)))) ∧ Below w1.heap.size w1 w') := fun w1 hb =>
      isDir_any a n c L b sz f na (nn - 1) nc (x.names.take (nn - 1)) w1 (hl.below hb) hc hcm (hm.below hb) hf ((hr.below hb).take _ (by omega)) (Short.take hs _)
    obtain ⟨z, hz⟩ : ∃ z, dirM L f (x.names.take (nn - 1)) = z := ⟨_, rfl⟩
    rw [hz] at HK HD
    obtain ⟨k, rfl⟩ : ∃ k, nn = k + 1 := ⟨nn - 1, by omega⟩
    rw [Nat.add_sub_cancel] at HK
    have hk1 : decide ((k : Int) < 0) = false := by simp
    have k2 : (k : Int) ≤ 15 := by omega
    have q1 : (w.alloc (.cells #[.slice na (k + 1) nc, .int .i64 v.ino, .int .i64 v.kind, .int .i64 v.mode, .int .i64 v.uid, .int .i64 v.gid, .slice v.da v.dn v.dc, .string v.tg, .slice v.xa v.xn v.xc, .bool v.op] 37)).cell? ⟨pl, 0, none⟩ = some (.slice a n c) := ((bel.out _).cell (p := ⟨pl, 0, none⟩) lpl).trans hpl
    have q2 : (w.alloc (.cells #[.slice na (k + 1) nc, .int .i64 v.ino, .int .i64 v.kind, .int .i64 v.mode, .int .i64 v.uid, .int .i64 v.gid, .slice v.da v.dn v.dc, .string v.tg, .slice v.xa v.xn v.xc, .bool v.op] 37)).cell? ⟨pm, 0, none⟩ = some (.map (some b)) := ((bel.out _).cell (p := ⟨pm, 0, none⟩) lpm).trans hpm
    clear hx hl hm hs hr hnn hcells hz h0
    go_enter Tryz.func148, Tryz.ntmps148
    go_wp2
    have q3 : (w.alloc (.cells #[.slice na (k + 1) nc, .int .i64 v.ino, .int .i64 v.kind, .int .i64 v.mode, .int .i64 v.uid, .int .i64 v.gid, .slice v.da v.dn v.dc, .string v.tg, .slice v.xa v.xn v.xc, .bool v.op] 37)).cell? ⟨w.heap.size, 0, none⟩ = some (.slice na (k + 1) nc) := by simp
    have q4 := bel.out (.cells #[.slice na (k + 1) nc, .int .i64 v.ino, .int .i64 v.kind, .int .i64 v.mode, .int .i64 v.uid, .int .i64 v.gid, .slice v.da v.dn v.dc, .string v.tg, .slice v.xa v.xn v.xc, .bool v.op] 37)
    have q5 : w.heap.size < (w.alloc (.cells #[.slice na (k + 1) nc, .int .i64 v.ino, .int .i64 v.kind, .int .i64 v.mode, .int .i64 v.uid, .int .i64 v.gid, .slice v.da v.dn v.dc, .string v.tg, .slice v.xa v.xn v.xc, .bool v.op] 37)).heap.size := by simp
    revert q1 q2 q3 q4 q5
    generalize (w.alloc (.cells #[.slice na (k + 1) nc, .int .i64 v.ino, .int .i64 v.kind, .int .i64 v.mode, .int .i64 v.uid, .int .i64 v.gid, .slice v.da v.dn v.dc, .string v.tg, .slice v.xa v.xn v.xc, .bool v.op] 37)) = W
    intro q1 q2 q3 q4 q5
    have HQ := hide q4
    have HK2 := hide (HK.out W.drew (HQ.out.trans (drewN_below W 1)))
    have hWs := q4.size
    have b0 : (0 : Int) ≤ (k : Int) := by omega
    have b1 : (k : Int) ≤ (nc : Int) := by omega
    have b2 : (k : Int) ≤ (k : Int) + 1 := by omega
    clear q4 HK hpl hpm
    go_region_held3 (fun wX => wX.cell? ⟨pl, 0, none⟩ = some (.slice a n c) ∧ wX.cell? ⟨pm, 0, none⟩ = some (.map (some b)) ∧ wX.cell? ⟨w.heap.size, 0, none⟩ = some (.slice na (k + 1) nc)) (go_keep)
      ((first
        | (go_at_call 101; refine HK2.out.mono ?_; rintro r w5 ⟨rfl, hb5⟩; have hb6 : Below W.heap.size W w5 := ⟨hb5.os, hb5.tape, hb5.output, hb5.size, hb5.block⟩; have HB5 := hide hb6; have d1 := (hb6.cell (p := ⟨pl, 0, none⟩) (by show pl < W.heap.size; omega)).trans q1; have d2 := (hb6.cell (p := ⟨pm, 0, none⟩) (by show pm < W.heap.size; omega)).trans q2; have d3 := (hb6.cell (p := ⟨w.heap.size, 0, none⟩) q5).trans q3; clear hb5 hb6)))
    go_wp2_with fail
    go_ret
    exact ⟨ret_bool HD.out.symm, HQ.out.trans (HB5.out.mono HQ.out.size)⟩
/-- What haveParents asks of a node. -/
def parM (L : List (Nv × Nod)) (f : Lit → Option Nat) (x : Nod) : Bool := decide (x.names.length = 0) || dirM L f x.names.dropLast
set_option maxRecDepth 100000 in
theorem haveParents_any (a : Option Addr) (n c : Nat) (L : List (Nv × Nod)) (b sz : Nat) (f : Lit → Option Nat) (w : World) (hl : Ns w a n L) (hc : n ≤ c) (hcm : c ≤ 9223372036854775807)
    (hm : MpK 9 w b sz f) (hf : ∀ k j, f k = some j → j < n) (hsh : ∀ p ∈ L, Short p.2.names) :
    Calls Tryz.prog 102 #[.slice a n c, .map (some b)] w fun e w' => e = .returned (.bool ((nds L).all (parM L f))) ∧ Below w.heap.size w w' := by
  have hW : ∀ o p, Below w.heap.size w ((w.alloc o).alloc p) := fun o p => below_alloc2 w o p
  have HW := hide hW
  have HK : Hid (∀ W, Below w.heap.size w W → W.cell? ⟨w.heap.size, 0, none⟩ = some (.slice a n c) → W.cell? ⟨w.heap.size + 1, 0, none⟩ = some (.map (some b)) → w.heap.size + 1 < W.heap.size →
      Calls Tryz.prog 103 #[.slice a n c, .func (.func 148) #[] #[.pointer (some ⟨w.heap.size, 0, none⟩), .pointer (some ⟨w.heap.size + 1, 0, none⟩)]] W fun e w' => e = .returned (.bool ((nds L).all (parM L f))) ∧ Below W.heap.size W w') := by
    intro W hb h1 h2 h3
    refine all_any a n c L 148 _ (parM L f) W (hl.below hb) hc hcm (enters _ Tryz.func148 (by kernel_rfl) rfl) ?_
    intro q hq w1 hb1
    have hb2 : Below w.heap.size w w1 := hb.trans (hb1.mono hb.size)
    exact parent_any q.1 q.2 a n c L b sz w.heap.size (w.heap.size + 1) f w1 ((hl.2.1 q hq).below hb2) (hl.below hb2) hc hcm (hm.below hb2) hf (hsh q hq) ((hb1.cell (p := ⟨w.heap.size, 0, none⟩) (by show w.heap.size < W.heap.size; omega)).trans h1) ((hb1.cell (p := ⟨w.heap.size + 1, 0, none⟩) h3).trans h2) (by have := hb1.size; omega) (by have := hb1.size; omega)
  clear hl hm hf hsh hW
  go_enter Tryz.func102, Tryz.ntmps102
  go_wp2_with (go_at_call 103; refine (HK.out _ (HW.out _ _) (by simp) (by simp) (by simp)).mono ?_; rintro e w' ⟨rfl, hb⟩)
  go_ret
  exact ⟨rfl, (HW.out _ _).trans (hb.mono (by simp; omega))⟩
end Go.Proofs.YtchcejjoncihkaaGreatDoor

/- Layer 7: whether a node may be: mayBe and what it asks. -/
namespace Go.Proofs.YtchcejjoncihkaaGreatDoor
set_option linter.unusedVariables false
open Go.RowKit Go.Maps
open Nam Tre
open Lz (g)

theorem indexByte_neg (l : List UInt8) : decide (Lib.indexByte l 0 < 0) = !l.any (· == 0) := by
  induction l with
  | nil => rfl
  | cons b l ih =>
    unfold Lib.indexByte
    rw [List.any_cons]
    cases hb : b == 0 with
    | true => simp
    | false =>
      simp only [Bool.false_or]
      rw [← ih, if_neg (by simp)]
      have := Lib.indexByte_ge l 0
      by_cases e : Lib.indexByte l 0 = -1
      · rw [if_pos (by simpa using e), e]
      · rw [if_neg (by simpa using e)]
        rw [decide_eq_false (by omega), decide_eq_false (by omega)]
set_option maxHeartbeats 4000000 in
set_option maxRecDepth 100000 in
theorem liteIndex_any (s : ByteArray) (w : World) :
    Calls Tryz.prog 243 #[.string s, .int .u8 0] w fun e w' => e = .returned (.int .i64 (Lib.indexByte s.data.toList 0)) ∧ w' = w := by
  go_enter Tryz.func243, Tryz.ntmps243
  go_wp2
  rw [run_callFunc_extern Tryz.func253 (by kernel_rfl) (by kernel_rfl) (by kernel_rfl) (e := Extern.BytealgIndexByte.indexByte) (by kernel_rfl), Lib.run_indexByteString]
  simp only [Result.andThen]
  rw [Oper.upon_value]
  go_wp2
  go_ret
  exact ⟨rfl, rfl⟩
theorem indexByte_any (s : ByteArray) (w : World) (z : Int) (hz : Lib.indexByte s.data.toList 0 = z) :
    Calls Tryz.prog 222 #[.string s, .int .u8 0] w fun e w' => e = .returned (.int .i64 z) ∧ w' = w := by
  subst hz
  go_enter Tryz.func222, Tryz.ntmps222
  go_wp2_with (go_at_call 243; refine (liteIndex_any _ _).mono ?_; rintro e w' ⟨rfl, rfl⟩)
  go_ret
  exact ⟨rfl, rfl⟩
theorem txt_eq (s : ByteArray) (m : Nat) (a b c : Bool) (ha : s.toList.isEmpty = a) (hb : decide ((s.size : Int) ≤ m) = b) (hc : decide (Lib.indexByte s.data.toList 0 < 0) = c) : txt s.toList m = (!a && b && c) := by
  subst ha hb hc
  unfold txt
  rw [indexByte_neg, ← ByteArray.toList_eq, toList_length]
  congr 1
  congr 1
  · cases s.toList <;> simp
  · rw [Bool.eq_iff_iff, decide_eq_true_eq, decide_eq_true_eq]; omega
set_option maxRecDepth 100000 in
theorem isText_any (s : ByteArray) (m : Nat) (w : World) (q : Bool) (hq : txt s.toList m = q) (hm : m ≤ 1000) :
    Calls Tryz.prog 197 #[.string s, .int .i64 m] w fun e w' => e = .returned (.bool q) ∧ w' = w := by
  obtain ⟨a, ha⟩ : ∃ q, s.toList.isEmpty = q := ⟨_, rfl⟩
  obtain ⟨b, hb⟩ : ∃ q, decide ((s.size : Int) ≤ m) = q := ⟨_, rfl⟩
  obtain ⟨z, hz⟩ : ∃ z, Lib.indexByte s.data.toList 0 = z := ⟨_, rfl⟩
  obtain ⟨c, hc⟩ : ∃ q, decide (z < 0) = q := ⟨_, rfl⟩
  have HE := hide (txt_eq s m a b c ha hb (by rw [hz]; exact hc))
  have HZ := hide hz
  have HQ := hide hq
  clear hz hq
  cases a with
  | true =>
    go_enter Tryz.func197, Tryz.ntmps197
    go_wp2
    go_ret
    exact ⟨ret_bool (by rw [← HQ.out, HE.out]; rfl), rfl⟩
  | false =>
  cases b with
  | false =>
    have hb2 : ¬ s.size ≤ m := by have := of_decide_eq_false hb; omega
    go_enter Tryz.func197, Tryz.ntmps197
    go_wp2
    go_ret
    exact ⟨ret_bool (by rw [← HQ.out, HE.out]; rfl), rfl⟩
  | true =>
    have hb2 : s.size ≤ m := by have := of_decide_eq_true hb; omega
    go_enter Tryz.func197, Tryz.ntmps197
    go_wp2_with (go_at_call 222; refine (indexByte_any _ _ z HZ.out).mono ?_; rintro e w' ⟨rfl, rfl⟩)
    go_ret
    exact ⟨ret_bool (by rw [← HQ.out, HE.out]; simp), rfl⟩
/-- A number of 0 to m. -/
def upB (x m : Int) : Bool := decide (0 ≤ x ∧ x ≤ m)
theorem upTo_any (x m : Int) (w : World) :
    Calls Tryz.prog 198 #[.int .i64 x, .int .i64 m] w fun e w' => e = .returned (.bool (upB x m)) ∧ w' = w := by
  have HQ := hide (show upB x m = decide (0 ≤ x ∧ x ≤ m) from rfl)
  by_cases h : 0 ≤ x
  · go_enter Tryz.func198, Tryz.ntmps198
    go_wp2
    go_ret
    exact ⟨ret_bool (by rw [HQ.out]; simp [h]), rfl⟩
  · have h' : x < 0 := by omega
    go_enter Tryz.func198, Tryz.ntmps198
    go_wp2
    go_ret
    exact ⟨ret_bool (by rw [HQ.out]; simp; omega), rfl⟩
theorem attrB (n : Nod) : attrOk n = (upB n.mode 511 && upB n.uid 65535 && upB n.gid 65535) := by
  unfold attrOk upB
  rw [Bool.eq_iff_iff]
  simp only [Bool.and_eq_true, decide_eq_true_eq, and_assoc]
set_option maxRecDepth 100000 in
theorem attrMayBe_any (x y z : Int) (w : World) (q : Bool) (hq : (upB x 511 && upB y 65535 && upB z 65535) = q) :
    Calls Tryz.prog 150 #[.agg #[.int .i64 x, .int .i64 y, .int .i64 z]] w fun e w' => e = .returned (.bool q) ∧ Below w.heap.size w w' := by
  obtain ⟨a, ha⟩ : ∃ q, upB x 511 = q := ⟨_, rfl⟩
  obtain ⟨b, hb⟩ : ∃ q, upB y 65535 = q := ⟨_, rfl⟩
  have HE := hide hq
  have bel : Hid (∀ o, Below w.heap.size w (w.alloc o)) := fun o => (Below.refl _ _).alloc (Nat.le_refl _) _
  clear hq
  cases a with
  | false =>
    go_enter Tryz.func150, Tryz.ntmps150
    go_wp2_with (go_at_call 198; refine (upTo_any _ _ _).mono ?_; rintro e w' ⟨rfl, rfl⟩)
    go_ret
    exact ⟨ret_bool (by rw [← HE.out, ha]; rfl), bel.out _⟩
  | true =>
  cases b with
  | false =>
    go_enter Tryz.func150, Tryz.ntmps150
    go_wp2_with (go_at_call 198; refine (upTo_any _ _ _).mono ?_; rintro e w' ⟨rfl, rfl⟩)
    go_ret
    exact ⟨ret_bool (by rw [← HE.out, ha, hb]; rfl), bel.out _⟩
  | true =>
    go_enter Tryz.func150, Tryz.ntmps150
    go_wp2_with (go_at_call 198; refine (upTo_any _ _ _).mono ?_; rintro e w' ⟨rfl, rfl⟩)
    go_ret
    exact ⟨ret_bool (by rw [← HE.out, ha, hb]; rfl), bel.out _⟩
theorem kind_eq {w : World} {v : Nv} {n : Nod} (h : Rep w v n) (q : Bool) (hq : kdOk n = q) : (if v.kind = 1 then decide ((v.dn : Int) = 0) && v.tg.toList.isEmpty else if v.kind = 2 then decide ((v.dn : Int) ≤ 4096) && v.tg.toList.isEmpty else if v.kind = 3 then decide ((v.dn : Int) = 0) && txt v.tg.toList 200 else false) = q := by
  rw [← hq, kdOk, h.kind, h.tg, h.data.1]
  have e1 : decide ((v.dn : Int) = 0) = decide (v.dn = 0) := by rw [Bool.eq_iff_iff]; simp only [decide_eq_true_eq]; omega
  have e2 : decide ((v.dn : Int) ≤ 4096) = decide (v.dn ≤ 4096) := by rw [Bool.eq_iff_iff]; simp only [decide_eq_true_eq]; omega
  rw [e1, e2]
set_option maxRecDepth 100000 in
theorem kindMayBe_any (v : Nv) (n : Nod) (w : World) (h : Rep w v n) (q : Bool) (hq : kdOk n = q) :
    Calls Tryz.prog 149 #[.agg v.cells] w fun e w' => e = .returned (.bool q) ∧ Below w.heap.size w w' := by
  have HE := hide (kind_eq h q hq)
  have bel : Hid (∀ o, Below w.heap.size w (w.alloc o)) := fun o => (Below.refl _ _).alloc (Nat.le_refl _) _
  clear h hq
  unfold Nv.cells
  by_cases k1 : v.kind = 1
  · have k1' : (v.kind == 1) = true := by simpa using k1
    have HK := hide k1
    by_cases hz : v.dn = 0
    · have hz' : ((v.dn : Int) == 0) = true := by simpa using hz
      have HZ := hide hz
      clear k1 hz
      go_enter Tryz.func149, Tryz.ntmps149
      go_wp2
      go_ret
      exact ⟨ret_bool (by rw [← HE.out, if_pos HK.out, HZ.out]; rfl), bel.out _⟩
    · have hz' : ((v.dn : Int) == 0) = false := by simpa using hz
      have HZ := hide hz
      clear k1 hz
      go_enter Tryz.func149, Tryz.ntmps149
      go_wp2
      go_ret
      exact ⟨ret_bool (by rw [← HE.out, if_pos HK.out, decide_eq_false (by have := HZ.out; omega)]; rfl), bel.out _⟩
  · have k1' : (v.kind == 1) = false := by simpa using k1
    by_cases k2 : v.kind = 2
    · have k2' : (v.kind == 2) = true := by simpa using k2
      have HK := hide k1
      have HK2 := hide k2
      by_cases hz : v.dn ≤ 4096
      · have hz' : decide ((v.dn : Int) ≤ 4096) = true := by simp; omega
        have hz2 : (v.dn : Int) ≤ 4096 := by omega
        clear k1 k2
        go_enter Tryz.func149, Tryz.ntmps149
        go_wp2
        go_ret
        exact ⟨ret_bool (by rw [← HE.out, if_neg HK.out, if_pos HK2.out, hz']; rfl), bel.out _⟩
      · have hz' : decide ((v.dn : Int) ≤ 4096) = false := by simp; omega
        have hz2 : ¬ (v.dn : Int) ≤ 4096 := by omega
        clear k1 k2
        go_enter Tryz.func149, Tryz.ntmps149
        go_wp2
        go_ret
        exact ⟨ret_bool (by rw [← HE.out, if_neg HK.out, if_pos HK2.out, hz']; rfl), bel.out _⟩
    · have k2' : (v.kind == 2) = false := by simpa using k2
      by_cases k3 : v.kind = 3
      · have k3' : (v.kind == 3) = true := by simpa using k3
        have HK := hide k1
        have HK2 := hide k2
        have HK3 := hide k3
        by_cases hz : v.dn = 0
        · have hz' : ((v.dn : Int) == 0) = true := by simpa using hz
          have HZ := hide hz
          clear k1 k2 k3 hz
          go_enter Tryz.func149, Tryz.ntmps149
          go_wp2_with (go_at_call 197; refine (isText_any v.tg 200 _ (txt v.tg.toList 200) rfl (by omega)).mono ?_; rintro e w' ⟨rfl, rfl⟩)
          go_ret
          exact ⟨ret_bool (by rw [← HE.out, if_neg HK.out, if_neg HK2.out, if_pos HK3.out, HZ.out]; rfl), bel.out _⟩
        · have hz' : ((v.dn : Int) == 0) = false := by simpa using hz
          have HZ := hide hz
          clear k1 k2 k3 hz
          go_enter Tryz.func149, Tryz.ntmps149
          go_wp2_with (go_at_call 197; refine (isText_any v.tg 200 _ (txt v.tg.toList 200) rfl (by omega)).mono ?_; rintro e w' ⟨rfl, rfl⟩)
          go_ret
          exact ⟨ret_bool (by rw [← HE.out, if_neg HK.out, if_neg HK2.out, if_pos HK3.out, decide_eq_false (by have := HZ.out; omega)]; rfl), bel.out _⟩
      · have k3' : (v.kind == 3) = false := by simpa using k3
        have HK := hide k1
        have HK2 := hide k2
        have HK3 := hide k3
        clear k1 k2 k3
        go_enter Tryz.func149, Tryz.ntmps149
        go_wp2
        go_ret
        exact ⟨ret_bool (by rw [← HE.out, if_neg HK.out, if_neg HK2.out, if_neg HK3.out]), bel.out _⟩
end Go.Proofs.YtchcejjoncihkaaGreatDoor

/- Layer 7: attributes that may be, and mayBe as a whole. -/
namespace Go.Proofs.YtchcejjoncihkaaGreatDoor
set_option linter.unusedVariables false
open Go.RowKit Go.Maps
open Nam Tre
open Lz (g)

theorem xs1_step (s : List UInt8) (xs : List (ByteArray × List Int)) (i : Nat) (h : i < xs.length) : xs1 s (xs.drop i) = (Op.bytesLess s (gx xs i).1.toList && txt (gx xs i).1.toList 40 && decide ((gx xs i).2.length ≤ 200) && xs1 (gx xs i).1.toList (xs.drop (i + 1))) := by
  rw [xs_drop xs i h, xs1]
set_option maxRecDepth 100000 in
theorem xattrsMayBe_any (ao : Option Addr) (n c : Nat) (xs : List (ByteArray × List Int)) (w : World) (h : XsR w ao n xs) (hc : n ≤ c) (hcm : c ≤ 9223372036854775807) (q : Bool) (hq : xsOk xs = q) :
    Calls Tryz.prog 151 #[.slice ao n c] w fun e w' => e = .returned (.bool q) ∧ Below w.heap.size w w' := by
  have HN := hide h.1
  have HX := hide h
  by_cases h8 : n ≤ 8
  · have HE : Hid (q = xs1 [] (xs.drop 0)) := by
      show _ = _
      rw [← hq, xsOk, decide_eq_true (by have := h.1; omega), Bool.true_and]; rfl
    have h8' : decide ((8 : Int) < n) = false := by simp; omega
    have h8n : ¬ (8 : Int) < n := by omega
    clear hq h
    go_enter Tryz.func151, Tryz.ntmps151
    go_wp2
    go_loopw [3, 5, 11] (fun r3 _ r wr => ∃ (i : Nat) (s : ByteArray), r3 = .string s ∧ r = .int .i64 i ∧ i ≤ n ∧ Below w.heap.size w wr ∧ q = xs1 s.toList (xs.drop i)) (fun _ _ r _ => n - (intOf r).toNat)
    case atStart => exact ⟨0, ⟨#[]⟩, rfl, rfl, Nat.zero_le _, Below.refl _ _, by rw [toList_mk [], HE.out]⟩
    case round =>
      obtain ⟨i, s, rfl, rfl, hi0, hbel, hinv⟩ := hrel
      have HI := hide hinv
      have HB := hide hbel
      by_cases hp : i < n
      · have hd : decide ((i : Int) < n) = true := by simpa using hp
        obtain ⟨ba, oa, rfl, hba, hca⟩ := (HX.out.below hbel).at (by omega)
        obtain ⟨c1, va, vn, vc, c2, b1, _⟩ := hca i hp
        have HS := hide (xs1_step s.toList xs i (by rw [HN.out]; exact hp))
        have HL := hide b1.1
        clear hca b1 hinv hbel
        obtain ⟨q1, hq1⟩ : ∃ q, Op.bytesLess s.toList (gx xs i).1.toList = q := ⟨_, rfl⟩
        obtain ⟨q2, hq2⟩ : ∃ q, txt (gx xs i).1.toList 40 = q := ⟨_, rfl⟩
        have HQ2 := hide hq2
        have bel : Hid (∀ o, Below w.heap.size w (wr.alloc o)) := fun o => HB.out.alloc HB.out.size _
        clear hq2
        cases q1 with
        | false =>
          by_cases he : (gx xs i).1.toList = s.toList
          · have g1 : Op.bytesLess (gx xs i).1.toList s.toList = false := by rw [he]; exact bless_irrefl _
            have g2 : ((gx xs i).1.toList == s.toList) = true := by simpa using he
            have HQ1 := hide hq1
            clear he hq1
            go_wp2
            go_ret
            exact ⟨ret_bool (by rw [HI.out, HS.out, HQ1.out]; rfl), bel.out _⟩
          · have g1 : Op.bytesLess (gx xs i).1.toList s.toList = true := by
              rcases bless_total _ _ he with k | k
              · exact k
              · rw [k] at hq1; cases hq1
            have HQ1 := hide hq1
            clear he hq1
            go_wp2
            go_ret
            exact ⟨ret_bool (by rw [HI.out, HS.out, HQ1.out]; rfl), bel.out _⟩
        | true =>
        have g1 : Op.bytesLess (gx xs i).1.toList s.toList = false := bless_asymm _ _ hq1
        have g2 : ((gx xs i).1.toList == s.toList) = false := by
          rw [beq_eq_false_iff_ne]; intro he; rw [he, bless_irrefl] at hq1; cases hq1
        have g3 : ¬ (gx xs i).1.toList = s.toList := by simpa using g2
        cases q2 with
        | false =>
          go_wp2_with (go_at_call 197; refine (isText_any (gx xs i).1 40 _ false HQ2.out (by omega)).mono ?_; rintro e w' ⟨rfl, rfl⟩)
          go_ret
          exact ⟨ret_bool (by rw [HI.out, HS.out, hq1, HQ2.out]; rfl), bel.out _⟩
        | true =>
          by_cases hv : vn ≤ 200
          · have hv1 : decide ((200 : Int) < vn) = false := by simp; omega
            have hv2 : ¬ (200 : Int) < vn := by omega
            go_wp2_with (go_at_call 197; refine (isText_any (gx xs i).1 40 _ true HQ2.out (by omega)).mono ?_; rintro e w' ⟨rfl, rfl⟩)
            refine ⟨⟨i + 1, _, rfl, by go_num, by omega, bel.out _, ?_⟩, by simp [intOf]; omega⟩
            rw [HI.out, HS.out, hq1, HQ2.out, decide_eq_true (by rw [HL.out]; exact hv)]
            rfl
          · have hv1 : decide ((200 : Int) < vn) = true := by simp; omega
            have hv2 : (200 : Int) < vn := by omega
            go_wp2_with (go_at_call 197; refine (isText_any (gx xs i).1 40 _ true HQ2.out (by omega)).mono ?_; rintro e w' ⟨rfl, rfl⟩)
            go_ret
            exact ⟨ret_bool (by rw [HI.out, HS.out, hq1, HQ2.out, decide_eq_false (by rw [HL.out]; exact hv)]; rfl), bel.out _⟩
      · have hd : decide ((i : Int) < n) = false := by simpa using hp
        go_wp2
        go_ret
        refine ⟨ret_bool ?_, HB.out⟩
        rw [HI.out, List.drop_eq_nil_of_le (by rw [HN.out]; omega)]; rfl
  · have h8' : decide ((8 : Int) < n) = true := by simp; omega
    have h8n : (8 : Int) < n := by omega
    have HE : Hid (false = q) := by
      show _ = _
      rw [← hq, xsOk, decide_eq_false (by have := h.1; omega)]; rfl
    clear hq h
    go_enter Tryz.func151, Tryz.ntmps151
    go_wp2
    go_ret
    exact ⟨ret_bool HE.out, Below.refl _ _⟩
set_option maxRecDepth 100000 in
theorem mayBe_any (v : Nv) (n : Nod) (w : World) (h : Rep w v n) :
    Calls Tryz.prog 104 #[.agg v.cells] w fun e w' => e = .returned (.bool (may n)) ∧ Below w.heap.size w w' := by
  obtain ⟨a, ha⟩ : ∃ q, kdOk n = q := ⟨_, rfl⟩
  obtain ⟨b, hb⟩ : ∃ q, (upB v.mode 511 && upB v.uid 65535 && upB v.gid 65535) = q := ⟨_, rfl⟩
  obtain ⟨c, hc⟩ : ∃ q, xsOk n.xs = q := ⟨_, rfl⟩
  have HE : Hid (may n = (a && b && c && !v.op)) := by
    show _ = _
    rw [may, ha, attrB, h.mode, h.uid, h.gid, hb, hc, h.op]
  have HA := hide ha
  have HB := hide hb
  have HC := hide hc
  have HR := hide h
  have x1 := h.xc
  have x2 := h.xcm
  have bel : Hid (∀ o, Below w.heap.size w (w.alloc o)) := fun o => (Below.refl _ _).alloc (Nat.le_refl _) _
  clear ha hb hc h
  have HBX := hide (boxed w v)
  unfold Nv.cells
  cases a with
  | false =>
    go_enter Tryz.func104, Tryz.ntmps104
    go_wp2_with (go_at_call 149; refine (kindMayBe_any v n _ (HR.out.below (bel.out _)) false HA.out).mono ?_; rintro e w1 ⟨rfl, hb1⟩)
    go_ret
    exact ⟨ret_bool (by rw [HE.out]; rfl), (bel.out _).trans (hb1.mono (by simp))⟩
  | true =>
    go_enter Tryz.func104, Tryz.ntmps104
    go_wp2_with (go_at_call 149; refine (kindMayBe_any v n _ (HR.out.below (bel.out _)) true HA.out).mono ?_)
    rintro e w1 ⟨rfl, hb1⟩
    have B1 := hide (HBX.out.below hb1)
    have e1 := hide ((bel.out _).trans (hb1.mono (by simp)))
    have d3 := B1.out.c3
    have d4 := B1.out.c4
    have d5 := B1.out.c5
    clear hb1
    cases b with
    | false =>
      go_wp2_with (go_at_call 150; refine (attrMayBe_any _ _ _ _ false HB.out).mono ?_; rintro e w2 ⟨rfl, hb2⟩)
      go_ret
      exact ⟨ret_bool (by rw [HE.out]; rfl), e1.out.trans (hb2.mono e1.out.size)⟩
    | true =>
      go_wp2_with (go_at_call 150; refine (attrMayBe_any _ _ _ _ true HB.out).mono ?_)
      rintro e w2 ⟨rfl, hb2⟩
      have B2 := hide (B1.out.below hb2)
      have e2 := hide (e1.out.trans (hb2.mono e1.out.size))
      have d8 := B2.out.c8
      clear hb2 d3 d4 d5
      cases c with
      | false =>
        go_wp2_with (go_at_call 151; refine (xattrsMayBe_any _ _ _ n.xs _ (HR.out.below e2.out).xs x1 x2 false HC.out).mono ?_; rintro e w3 ⟨rfl, hb3⟩)
        go_ret
        exact ⟨ret_bool (by rw [HE.out]; rfl), e2.out.trans (hb3.mono e2.out.size)⟩
      | true =>
        go_wp2_with (go_at_call 151; refine (xattrsMayBe_any _ _ _ n.xs _ (HR.out.below e2.out).xs x1 x2 true HC.out).mono ?_)
        rintro e w3 ⟨rfl, hb3⟩
        have e3 := hide (e2.out.trans (hb3.mono e2.out.size))
        have d9 := (B2.out.below hb3).c9
        clear hb3 d8
        go_wp2
        go_ret
        exact ⟨ret_bool (by rw [HE.out]; rfl), e3.out⟩
end Go.Proofs.YtchcejjoncihkaaGreatDoor

/- Layer 7: Check. -/
namespace Go.Proofs.YtchcejjoncihkaaGreatDoor
set_option linter.unusedVariables false
open Go.RowKit Go.Maps
open Nam Tre

namespace Tre
/-- Names that all may be. -/
def Fine (m : List ByteArray) : Prop := ∀ s ∈ m, valid s.toList = 0
theorem pkey_inj {a b : List ByteArray} (ha : Fine a) (hb : Fine b) (h : pkey a = pkey b) : a = b := by
  have e : join (nm a) = join (nm b) := by simpa [pkey] using h
  refine nm_inj (join_inj ?_ ?_ e)
  · intro n hn
    simp only [nm, List.mem_map] at hn
    obtain ⟨s, hs, rfl⟩ := hn
    exact ha s hs
  · intro n hn
    simp only [nm, List.mem_map] at hn
    obtain ⟨s, hs, rfl⟩ := hn
    exact hb s hs
theorem fine_of {l : List Nod} (h : wrong l = 0) : ∀ n ∈ l, Fine n.names := fun n hn => fv_zero _ (wrong_zero l h n hn)
theorem short_of {l : List Nod} (h : wrong l = 0) (d : l.any deep = false) : ∀ n ∈ l, Short n.names := fun n hn => by
  refine ⟨?_, fun s hs => ?_⟩
  · rw [List.any_eq_false] at d
    have := d n hn
    simp [deep] at this
    exact this
  · have := (valid_zero (fine_of h n hn s hs)).1
    rw [toList_length] at this
    exact this
theorem nodup_pkeys : ∀ {l : List Nod}, (∀ n ∈ l, Fine n.names) → ((pkeys l).Nodup ↔ (l.map Nod.names).Nodup)
  | [], _ => by simp [pkeys]
  | n :: r, h => by
    have ih := nodup_pkeys (l := r) (fun x hx => h x (by simp [hx]))
    simp only [pkeys, List.map_cons, List.nodup_cons, List.mem_map] at ih ⊢
    rw [ih]
    refine and_congr_left fun _ => not_congr ?_
    constructor
    · rintro ⟨x, hx, e⟩
      exact ⟨x, hx, pkey_inj (h x (by simp [hx])) (h n (by simp)) e⟩
    · rintro ⟨x, hx, e⟩
      exact ⟨x, hx, by rw [e]⟩
theorem find_names : ∀ {l : List Nod} {m : List ByteArray} {j : Nat} (h : j < l.length), (l.map Nod.names).Nodup → l[j].names = m → l.find? (fun n => decide (n.names = m)) = some l[j]
  | n :: r, m, 0, h, hn, e => by rw [List.find?_cons]; simp at e; simp [e]
  | n :: r, m, j + 1, h, hn, e => by
    simp only [List.map_cons, List.nodup_cons, List.mem_map] at hn
    simp only [List.getElem_cons_succ] at e
    have hne : ¬ n.names = m := fun k => hn.1 ⟨r[j]'(by simpa using h), List.getElem_mem _, by rw [e, k]⟩
    rw [List.find?_cons]
    simp only [hne, decide_false]
    exact find_names (by simpa using h) hn.2 e
end Tre
theorem nds_get (L : List (Nv × Nod)) (j : Nat) (h : j < L.length) : (nds L)[j]'(by rw [nds_length]; exact h) = (gl L j).2 := by rw [gl_lt L j h]; simp [nds]
/-- What the places tell is what the document says. -/
theorem dirM_isDir (L : List (Nv × Nod)) (n : Nat) (hn : L.length = n) (hf : ∀ x ∈ nds L, Fine x.names) (hnd : ((nds L).map Nod.names).Nodup) (m : List ByteArray) (hm : Fine m) : dirM L (mlast (pkeys (nds L)) n) m = isDir (nds L) m := by
  have hlen : (pkeys (nds L)).length = n := by rw [pkeys_length, nds_length, hn]
  unfold dirM isDir
  cases h : mlast (pkeys (nds L)) n (pkey m) with
  | some j =>
    obtain ⟨hj, hjk⟩ := mlast_some (pkeys_lit _) n (by omega) _ _ h
    have hjl : j < (nds L).length := by rw [nds_length, hn]; exact hj
    have hk : pkey ((nds L)[j]).names = pkey m := by
      rw [pkeys, List.getElem?_map, List.getElem?_eq_getElem hjl] at hjk
      simpa using hjk
    have e := pkey_inj (hf _ (List.getElem_mem hjl)) hm hk
    rw [find_names hjl hnd e, nds_get L j (by omega)]
  | none =>
    have hnone : (nds L).find? (fun n => decide (n.names = m)) = none := by
      rw [List.find?_eq_none]
      intro x hx
      simp only [decide_eq_true_eq]
      intro e
      have hmem : pkey m ∈ (pkeys (nds L)).take n := by
        rw [List.take_of_length_le (by omega)]
        exact List.mem_map.2 ⟨x, hx, by rw [e]⟩
      have := (mlast_mem (pkeys_lit _) n (by omega) (pkey m)).2 hmem
      rw [h] at this
      cases this
    rw [hnone]
theorem parM_inDir (L : List (Nv × Nod)) (n : Nat) (hn : L.length = n) (hf : ∀ x ∈ nds L, Fine x.names) (hnd : ((nds L).map Nod.names).Nodup) : (nds L).all (parM L (mlast (pkeys (nds L)) n)) = (nds L).all (inDir (nds L)) := by
  rw [Bool.eq_iff_iff, List.all_eq_true, List.all_eq_true]
  refine forall_congr' fun x => forall_congr' fun hx => ?_
  rw [parM, inDir, dirM_isDir L n hn hf hnd _ (fun s hs => hf x hx s (List.dropLast_subset _ hs))]
theorem nds_mem {L : List (Nv × Nod)} {p : Nv × Nod} (h : p ∈ L) : p.2 ∈ nds L := List.mem_map.2 ⟨p, h, rfl⟩
theorem isDeep_asks (L : List (Nv × Nod)) (w : World) (h : ∀ p ∈ L, Rep w p.1 p.2) : Asks 99 #[] deep L w := fun q hq w1 hb => isDeep_any q.1 q.2 w1 ((h q hq).below hb)
theorem mayBe_asks (L : List (Nv × Nod)) (w : World) (h : ∀ p ∈ L, Rep w p.1 p.2) : Asks 104 #[] may L w := fun q hq w1 hb => mayBe_any q.1 q.2 w1 ((h q hq).below hb)
set_option maxRecDepth 100000 in
theorem Check_any (a : Option Addr) (n c : Nat) (L : List (Nv × Nod)) (w : World) (hl : Ns w a n L) (hc : n ≤ c) (hcm : c ≤ 9223372036854775807) :
    Calls Tryz.prog 43 #[.slice a n c] w fun e w' => e = .returned (.int .i64 (check (nds L))) ∧ Below w.heap.size w w' := by
  have hln : (nds L).length = n := by rw [nds_length]; exact hl.1
  by_cases h1 : 1024 < n
  · have h1' : (1024 : Int) < n := by omega
    have HE := hide (check_big (l := nds L) (by omega))
    clear hl
    go_enter Tryz.func43, Tryz.ntmps43
    go_wp2
    go_ret
    exact ⟨ret_int HE.out.symm, Below.refl _ _⟩
  have h1' : ¬ (1024 : Int) < n := by omega
  have g1 : ¬ 1024 < (nds L).length := by omega
  have HL := hide hl
  obtain ⟨z, hz⟩ : ∃ z, wrong (nds L) = z := ⟨_, rfl⟩
  have H1 := hide (wrongName_any a n c L w hl hc hcm)
  rw [hz] at H1
  by_cases h2 : z = 0
  · have hw0 : wrong (nds L) = 0 := hz.trans h2
    have H2 := hide (fun w1 (hb : Below w.heap.size w w1) => ContainsFunc_any a n c L 99 #[] deep w1 (hl.below hb) hc hcm (enters _ Tryz.func99 (by kernel_rfl) rfl) (isDeep_asks L w1 (hl.below hb).2.1))
    cases h3 : (nds L).any deep with
    | true =>
      have HE := hide (check_deep g1 hw0 h3)
      rw [h3] at H2
      have h2' : (z != 0) = false := by simp [h2]
      clear hl hz h2 h3 hw0
      go_enter Tryz.func43, Tryz.ntmps43
      go_wp2_with (go_at_call 97; refine H1.out.mono ?_; rintro e w1 ⟨rfl, hb1⟩)
      go_wp2_with (go_at_call 98; refine (H2.out _ hb1).mono ?_; rintro e w2 ⟨rfl, hb2⟩)
      go_ret
      exact ⟨ret_int HE.out.symm, hb1.trans (hb2.mono hb1.size)⟩
    | false =>
      have hfine := fine_of hw0
      have hshort := short_of hw0 h3
      have hsh : ∀ p ∈ L, Short p.2.names := fun p hp => hshort _ (nds_mem hp)
      rw [h3] at H2
      have H3 := hide (fun w1 (hb : Below w.heap.size w w1) => byPath_any a n c L w1 (hl.below hb) hc hcm (by omega) hsh)
      have h2' : (z != 0) = false := by simp [h2]
      have hlen : (pkeys (nds L)).length = n := by rw [pkeys_length, nds_length]; exact hl.1
      have hcnt := mcnt_nodup (pkeys_lit (nds L)) n (by omega)
      rw [List.take_of_length_le (by omega), nodup_pkeys hfine] at hcnt
      have hcle := mcnt_le (ks := pkeys (nds L)) n
      by_cases h4 : ((nds L).map Nod.names).Nodup
      · have hce : mcnt (pkeys (nds L)) n = n := hcnt.2 h4
        have hfn : ∀ k j, mlast (pkeys (nds L)) n k = some j → j < n := fun k j h => (mlast_some (pkeys_lit _) n (by omega) k j h).1
        have HD := hide (dirM_isDir L n hl.1 hfine h4 [] (fun s hs => by simp at hs))
        have HP := hide (parM_inDir L n hl.1 hfine h4)
        have H4 := hide (fun w1 b (hb : Below w.heap.size w w1) (hm : MpK 9 w1 b n (mlast (pkeys (nds L)) n)) => isDir_any a n c L b n _ none 0 0 [] w1 (hl.below hb) hc hcm hm hfn (Rs.nil _ _) ⟨by simp, fun s hs => by simp at hs⟩)
        have H5 := hide (fun w1 b (hb : Below w.heap.size w w1) (hm : MpK 9 w1 b n (mlast (pkeys (nds L)) n)) => haveParents_any a n c L b n _ w1 (hl.below hb) hc hcm hm hfn hsh)
        have H6 := hide (fun w1 (hb : Below w.heap.size w w1) => all_any a n c L 104 #[] may w1 (hl.below hb) hc hcm (enters _ Tryz.func104 (by kernel_rfl) rfl) (mayBe_asks L w1 (hl.below hb).2.1))
        have H7 := hide (fun w1 (hb : Below w.heap.size w w1) => linksAgree_any a n c L w1 (hl.below hb) hc hcm (by omega))
        rw [HD.out] at H4
        rw [HP.out] at H5
        rw [hce] at H3
        obtain ⟨r5, h5⟩ : ∃ r, isDir (nds L) [] = r := ⟨_, rfl⟩
        obtain ⟨r6, h6⟩ : ∃ r, (nds L).all (inDir (nds L)) = r := ⟨_, rfl⟩
        obtain ⟨r7, h7⟩ : ∃ r, (nds L).all may = r := ⟨_, rfl⟩
        obtain ⟨r8, h8⟩ : ∃ r, decide ((nds L).Pairwise Tre.one) = r := ⟨_, rfl⟩
        rw [h5] at H4
        rw [h6] at H5
        rw [h7] at H6
        rw [h8] at H7
        have HE : Hid (check (nds L) = if r5 = false then 4 else if r6 = false then 5 else if r7 = false then 7 else if r8 = false then 8 else 0) := by
          show _ = _
          cases r5 with
          | false => rw [check_root g1 hw0 h3 h4 h5]; rfl
          | true =>
            cases r6 with
            | false => rw [check_parent g1 hw0 h3 h4 h5 h6]; rfl
            | true =>
              cases r7 with
              | false => rw [check_kind g1 hw0 h3 h4 h5 h6 h7]; rfl
              | true =>
                cases r8 with
                | false => rw [check_links g1 hw0 h3 h4 h5 h6 h7 (of_decide_eq_false h8)]; rfl
                | true => rw [check_ok g1 hw0 h3 h4 h5 h6 h7 (of_decide_eq_true h8)]; rfl
        have hnn : ¬ (n : Int) < n := by omega
        clear hl hz h2 h3 hw0 hfine hshort hsh hlen hcnt h4 hcle hce HD HP h5 h6 h7 h8 hfn
        generalize mlast (pkeys (nds L)) n = f at *
        go_enter Tryz.func43, Tryz.ntmps43
        go_wp2_with (go_at_call 97; refine H1.out.mono ?_; rintro e w1 ⟨rfl, hb1⟩)
        have HB1 := hide hb1
        clear hb1
        go_wp2_with (go_at_call 98; refine (H2.out _ HB1.out).mono ?_; rintro e w2 ⟨rfl, hb2⟩)
        have HB2 := hide (HB1.out.trans (hb2.mono HB1.out.size))
        clear hb2
        go_wp2_with (go_at_call 100; refine (H3.out _ HB2.out).mono ?_)
        rintro e w3 ⟨b, rfl, hb, hm, hb3⟩
        have HB3 := hide (HB2.out.trans (hb3.mono HB2.out.size))
        have ml := hm.len mapUnder 3
        have HM := hide hm
        clear hb3 hm
        go_wp2_with (go_at_call 101; refine (H4.out _ b HB3.out HM.out).mono ?_)
        rintro e w4 ⟨rfl, hb4⟩
        have HM4 := hide (HM.out.below hb4)
        have HB4 := hide (HB3.out.trans (hb4.mono HB3.out.size))
        clear hb4 ml HM H1 H2 H3 H4
        cases r5 with
        | false =>
          go_wp2
          go_ret
          exact ⟨ret_int (by rw [HE.out]; rfl), HB4.out⟩
        | true =>
        go_wp2_with (go_at_call 102; refine (H5.out _ b HB4.out HM4.out).mono ?_)
        rintro e w5 ⟨rfl, hb5⟩
        have HB5 := hide (HB4.out.trans (hb5.mono HB4.out.size))
        clear hb5 HM4 H5
        cases r6 with
        | false =>
          go_wp2
          go_ret
          exact ⟨ret_int (by rw [HE.out]; rfl), HB5.out⟩
        | true =>
        go_wp2_with (go_at_call 103; refine (H6.out _ HB5.out).mono ?_)
        rintro e w6 ⟨rfl, hb6⟩
        have HB6 := hide (HB5.out.trans (hb6.mono HB5.out.size))
        clear hb6 H6
        cases r7 with
        | false =>
          go_wp2
          go_ret
          exact ⟨ret_int (by rw [HE.out]; rfl), HB6.out⟩
        | true =>
        go_wp2_with (go_at_call 105; refine (H7.out _ HB6.out).mono ?_)
        rintro e w7 ⟨rfl, hb7⟩
        have HB7 := hide (HB6.out.trans (hb7.mono HB6.out.size))
        clear hb7 H7
        cases r8 with
        | false =>
          go_wp2
          go_ret
          exact ⟨ret_int (by rw [HE.out]; rfl), HB7.out⟩
        | true =>
          go_wp2
          go_ret
          exact ⟨ret_int (by rw [HE.out]; rfl), HB7.out⟩
      · have HE := hide (check_twice g1 hw0 h3 h4)
        have hlt : mcnt (pkeys (nds L)) n < n := by
          have : ¬ mcnt (pkeys (nds L)) n = n := fun e => h4 (hcnt.1 e)
          omega
        generalize mcnt (pkeys (nds L)) n = cn at *
        clear hl hz h2 h3 hw0 hfine hshort hsh hlen hcnt h4
        go_enter Tryz.func43, Tryz.ntmps43
        go_wp2_with (go_at_call 97; refine H1.out.mono ?_; rintro e w1 ⟨rfl, hb1⟩)
        have HB1 := hide hb1
        clear hb1
        go_wp2_with (go_at_call 98; refine (H2.out _ HB1.out).mono ?_; rintro e w2 ⟨rfl, hb2⟩)
        have HB2 := hide (HB1.out.trans (hb2.mono HB1.out.size))
        clear hb2
        go_wp2_with (go_at_call 100; refine (H3.out _ HB2.out).mono ?_)
        rintro e w3 ⟨b, rfl, hb, hm, hb3⟩
        have HB3 := hide (HB2.out.trans (hb3.mono HB2.out.size))
        have ml := hm.len mapUnder 3
        clear hb3 hm
        go_wp2
        go_ret
        exact ⟨ret_int HE.out.symm, HB3.out⟩
  · have HE := hide (check_name g1 (by rw [hz]; exact h2))
    rw [hz] at HE
    have h2' : (z != 0) = true := by simpa using h2
    clear hl hz h2
    go_enter Tryz.func43, Tryz.ntmps43
    go_wp2_with (go_at_call 97; refine H1.out.mono ?_; rintro e w1 ⟨rfl, hb1⟩)
    go_ret
    exact ⟨ret_int HE.out.symm, hb1⟩
end Go.Proofs.YtchcejjoncihkaaGreatDoor

/- Layer 7: Canon. -/
namespace Go.Proofs.YtchcejjoncihkaaGreatDoor
set_option linter.unusedVariables false
open Go.RowKit Go.Maps
open Nam Tre

namespace Tre
/-- Nodes in order, and numbered. -/
def IsCanon (l r : List Nod) : Prop := ∃ s, s.Perm l ∧ s.Pairwise (fun p q => ltn q p = false) ∧ r = numb s
theorem xs1_vals : ∀ (a : List UInt8) (xs : List (ByteArray × List Int)), xs1 a xs = true → ∀ y ∈ xs, y.2.length ≤ 200
  | _, [], _, y, hy => by simp at hy
  | a, x :: r, h, y, hy => by
    simp only [xs1, Bool.and_eq_true, decide_eq_true_eq] at h
    rcases List.mem_cons.1 hy with rfl | hy
    · exact h.1.2
    · exact xs1_vals _ r h.2 y hy
theorem may_lean {n : Nod} (h : may n = true) : n.data.length ≤ 4096 ∧ n.xs.length ≤ 8 ∧ ∀ y ∈ n.xs, y.2.length ≤ 200 := by
  simp only [may, Bool.and_eq_true] at h
  obtain ⟨⟨⟨h1, _⟩, h3⟩, _⟩ := h
  simp only [xsOk, Bool.and_eq_true, decide_eq_true_eq] at h3
  refine ⟨?_, h3.1, xs1_vals _ _ h3.2⟩
  unfold kdOk at h1
  split at h1
  · simp only [Bool.and_eq_true, decide_eq_true_eq] at h1; omega
  · split at h1
    · simp only [Bool.and_eq_true, decide_eq_true_eq] at h1; omega
    · split at h1
      · simp only [Bool.and_eq_true, decide_eq_true_eq] at h1; omega
      · cases h1
end Tre
theorem lean_of {w : World} {v : Nv} {x : Nod} (hr : Rep w v x) (hm : may x = true) (hs : x.names.length ≤ 16) : Lean1 v x := by
  obtain ⟨h1, h2, h3⟩ := may_lean hm
  exact ⟨by rw [← hr.names.1]; omega, by rw [← hr.data.1]; omega, by rw [← hr.xs.1]; omega, fun y hy => Nat.le_trans (h3 y hy) (by omega)⟩
/-- A whole node stored within a row. -/
def putAt (w : World) (b o : Nat) (u : Nv) : World := ((((((((((w.setCell ⟨b, o, none⟩ (.slice u.na u.nn u.nc)).setCell ⟨b, o + 1, none⟩ (.int .i64 u.ino)).setCell ⟨b, o + 2, none⟩ (.int .i64 u.kind)).setCell ⟨b, o + 3, none⟩ (.int .i64 u.mode)).setCell ⟨b, o + 4, none⟩ (.int .i64 u.uid)).setCell ⟨b, o + 5, none⟩ (.int .i64 u.gid)).setCell ⟨b, o + 6, none⟩ (.slice u.da u.dn u.dc)).setCell ⟨b, o + 7, none⟩ (.string u.tg)).setCell ⟨b, o + 8, none⟩ (.slice u.xa u.xn u.xc)).setCell ⟨b, o + 9, none⟩ (.bool u.op))
theorem putAt_other (w : World) (b o : Nat) (u : Nv) (i : Nat) (hi : i ≠ b) : (putAt w b o u).heap[i]? = w.heap[i]? := by
  unfold putAt
  rw [set_other _ _ _ _ _ hi, set_other _ _ _ _ _ hi, set_other _ _ _ _ _ hi, set_other _ _ _ _ _ hi, set_other _ _ _ _ _ hi, set_other _ _ _ _ _ hi, set_other _ _ _ _ _ hi, set_other _ _ _ _ _ hi, set_other _ _ _ _ _ hi, set_other _ _ _ _ _ hi]
theorem putAt_size (w : World) (b o : Nat) (u : Nv) : (putAt w b o u).heap.size = w.heap.size := by unfold putAt; simp
theorem putAt_but (w : World) (b o : Nat) (u : Nv) : But b w (putAt w b o u) := ⟨by rw [putAt_size]; omega, fun i _ hne => putAt_other w b o u i hne⟩
theorem putAt_below {w w' : World} {B b o : Nat} (h : Below B w w') (hr : B ≤ b) (u : Nv) : Below B w (putAt w' b o u) :=
  ((((((((((h.setCell (p := ⟨b, o, none⟩) hr _).setCell (p := ⟨b, o + 1, none⟩) hr _).setCell (p := ⟨b, o + 2, none⟩) hr _).setCell (p := ⟨b, o + 3, none⟩) hr _).setCell (p := ⟨b, o + 4, none⟩) hr _).setCell (p := ⟨b, o + 5, none⟩) hr _).setCell (p := ⟨b, o + 6, none⟩) hr _).setCell (p := ⟨b, o + 7, none⟩) hr _).setCell (p := ⟨b, o + 8, none⟩) hr _).setCell (p := ⟨b, o + 9, none⟩) hr _)
theorem nvs_put (V : List Nv) (i : Nat) (u : Nv) (h : i < V.length) : ((((((((((nvs V).set (i * 10) (.slice u.na u.nn u.nc)).set (i * 10 + 1) (.int .i64 u.ino)).set (i * 10 + 2) (.int .i64 u.kind)).set (i * 10 + 3) (.int .i64 u.mode)).set (i * 10 + 4) (.int .i64 u.uid)).set (i * 10 + 5) (.int .i64 u.gid)).set (i * 10 + 6) (.slice u.da u.dn u.dc)).set (i * 10 + 7) (.string u.tg)).set (i * 10 + 8) (.slice u.xa u.xn u.xc)).set (i * 10 + 9) (.bool u.op) = nvs (V.set i u) := by
  induction V generalizing i with
  | nil => simp at h
  | cons v r ih =>
    have e : ∀ y l, nvs (y :: l) = y.cells.toList ++ nvs l := by simp [nvs]
    cases i with
    | zero =>
      rw [e, List.set_cons_zero, e]
      rfl
    | succ i =>
      have hs : ∀ (l : List Value) (k : Nat) (z : Value), (v.cells.toList ++ l).set ((i + 1) * 10 + k) z = v.cells.toList ++ l.set (i * 10 + k) z := fun l k z => by
        rw [List.set_append_right _ _ (by rw [cells_length]; omega), cells_length, show (i + 1) * 10 + k - 10 = i * 10 + k by omega]
      have hs0 : ∀ (l : List Value) (z : Value), (v.cells.toList ++ l).set ((i + 1) * 10) z = v.cells.toList ++ l.set (i * 10) z := fun l z => hs l 0 z
      rw [e, hs0, hs, hs, hs, hs, hs, hs, hs, hs, hs, List.set_cons_succ, e, ← ih i (by simpa using h)]
theorem own_put {w : World} {B g cap n i : Nat} {V : List Nv} (h : w.ownsRow B 37 10 (.slice (some ⟨g, 0, none⟩) n cap) n (nvs V)) (hi : i < n) (u : Nv) : (putAt w g (i * 10) u).ownsRow B 37 10 (.slice (some ⟨g, 0, none⟩) n cap) n (nvs (V.set i u)) := by
  have hl : V.length = n := by have := h.1; rw [nvs_length] at this; omega
  have h0 := (h.stored (i * 10) (.slice u.na u.nn u.nc)).1
  have h1 := (h0.stored (i * 10 + 1) (.int .i64 u.ino)).1
  have h2 := (h1.stored (i * 10 + 2) (.int .i64 u.kind)).1
  have h3 := (h2.stored (i * 10 + 3) (.int .i64 u.mode)).1
  have h4 := (h3.stored (i * 10 + 4) (.int .i64 u.uid)).1
  have h5 := (h4.stored (i * 10 + 5) (.int .i64 u.gid)).1
  have h6 := (h5.stored (i * 10 + 6) (.slice u.da u.dn u.dc)).1
  have h7 := (h6.stored (i * 10 + 7) (.string u.tg)).1
  have h8 := (h7.stored (i * 10 + 8) (.slice u.xa u.xn u.xc)).1
  have h9 := (h8.stored (i * 10 + 9) (.bool u.op)).1
  rw [nvs_put V i u (by omega)] at h9
  exact h9
theorem made_nodes (n : Nat) : (madeCells (Nv.cells nv0) (n * 10)).toList = nvs (List.replicate n nv0) := by
  apply List.ext_getElem?
  intro t
  by_cases ht : t < n * 10
  · rw [nvs_flat _ t (by simpa using ht)]
    simp only [List.getElem_replicate]
    have hc : t % 10 < (Nv.cells nv0).size := by show t % 10 < 10; omega
    simp [madeCells, ht, Nv.cells]
    rw [List.getElem?_eq_getElem (by show t % 10 < 10; omega)]
    rfl
  · rw [List.getElem?_eq_none (by simp [madeCells]; omega), List.getElem?_eq_none (by rw [nvs_length, List.length_replicate]; omega)]
/-- The row with the first i nodes copied. -/
structure CP (w wr : World) (blk n : Nat) (L C : List (Nv × Nod)) (i : Nat) : Prop where
  row : wr.ownsRow w.heap.size 37 10 (.slice (some ⟨blk, 0, none⟩) n n) n (nvs (C.map (·.1) ++ List.replicate (n - i) nv0))
  len : C.length = i
  nds : C.map (·.2) = (nds L).take i
  good : ∀ p ∈ C, Good wr blk p
  bel : Below w.heap.size w wr
theorem CP.step {w wr w1 w2 : World} {blk n i : Nat} {L C : List (Nv × Nod)} (h : CP w wr blk n L C i) (hL : L.length = n) (hi : i < n) (h1 : Below wr.heap.size wr w1) (h2 : Below w1.heap.size w1 w2) (u : Nv) (hr : Rep w2 u (gl L i).2) (ha : Abv w2 w1.heap.size u) (hf : (gl L i).2.names.length ≤ 1000000) :
    CP w (putAt w2 blk (i * 10) u) blk n L (C ++ [(u, (gl L i).2)]) (i + 1) := by
  have hblk := h.row.lt blk rfl
  have h12 : Below wr.heap.size wr w2 := h1.trans (h2.mono h1.size)
  have s1 := h1.size
  have row2 := owns_below h.row h12
  have hbut : But blk w2 (putAt w2 blk (i * 10) u) := putAt_but _ _ _ _
  refine ⟨?_, by simp [h.len], ?_, ?_, putAt_below (h.bel.trans (h12.mono h.bel.size)) hblk.1 u⟩
  · have := own_put row2 hi u
    have e : (List.map (fun x : Nv × Nod => x.fst) C ++ List.replicate (n - i) nv0).set i u = List.map (fun x : Nv × Nod => x.fst) (C ++ [(u, (gl L i).2)]) ++ List.replicate (n - (i + 1)) nv0 := by
      rw [List.set_append_right _ _ (by simp [h.len]), List.length_map, h.len, Nat.sub_self, show n - i = (n - (i + 1)) + 1 by omega, List.replicate_succ, List.set_cons_zero]
      simp
    rw [e] at this
    exact this
  · rw [List.map_append, h.nds, nds_take L i (by omega)]; rfl
  · intro p hp
    rcases List.mem_append.1 hp with hp | hp
    · exact ((h.good p hp).but (But.of_below h12)).but hbut
    · rw [List.mem_singleton] at hp
      subst hp
      have hg : Good w2 blk (u, (gl L i).2) := ⟨hr, ⟨fun a e => Nat.le_trans (by omega) (ha.na a e), fun a e => Nat.le_trans (by omega) (ha.da a e), fun a e => Nat.le_trans (by omega) (ha.xa a e), fun b off hb j hj va vn vc hc a e => Nat.le_trans (by omega) (ha.xs b off hb j hj va vn vc hc a e)⟩, hf⟩
      exact hg.but hbut
set_option maxRecDepth 100000 in
set_option maxHeartbeats 4000000 in
theorem Canon_ok (a : Option Addr) (n c : Nat) (L : List (Nv × Nod)) (w : World) (hl : Ns w a n L) (hc : n ≤ c) (hcm : c ≤ 9223372036854775807) (h0 : check (nds L) = 0) :
    Calls Tryz.prog 18 #[.slice a n c] w fun e w' => ∃ blk L', e = .returned (.tuple #[.slice (some ⟨blk, 0, none⟩) n n, .int .i64 0]) ∧ w'.ownsRow w.heap.size 37 10 (.slice (some ⟨blk, 0, none⟩) n n) n (nvs (L'.map (·.1))) ∧ (∀ p ∈ L', Good w' blk p) ∧ IsCanon (nds L) (nds L') ∧ Below w.heap.size w w' := by
  obtain ⟨k1, k2, k3, k4, k5, k6, k7, k8⟩ := check_zero h0
  have hLn := hl.1
  have hn1 : n ≤ 1024 := by rw [nds_length, hLn] at k1; exact k1
  have hn0 : 0 < n := by
    rcases Nat.eq_zero_or_pos n with e | e
    · rw [e] at hLn
      have : L = [] := List.eq_nil_of_length_eq_zero hLn
      rw [this] at k5; simp [nds, isDir] at k5
    · exact e
  have HC := hide (Check_any a n c L w hl hc hcm)
  rw [h0] at HC
  have HL := hide hl
  have HLN := hide hLn
  have HSH := hide (short_of k2 k3)
  have HMA : Hid (∀ x ∈ nds L, may x = true) := List.all_eq_true.1 k7
  obtain ⟨i0, hi0', hz0, hz1, hz2⟩ := info_parts infoNode
  have hn' : (n : Int) ≤ 1024 := by omega
  clear hl h0 k1 k2 k3 k4 k5 k6 k7 k8 hLn
  go_enter Tryz.func18, Tryz.ntmps18
  go_wp2_with (go_at_call 43; refine HC.out.mono ?_)
  rintro e w1 ⟨rfl, hb1⟩
  obtain ⟨w2, mk, own2, gr2⟩ := run_make_full (P := Tryz.prog) w1 w.heap.size 22 37 i0 (.agg (Nv.cells nv0)) 10 Tryz.underlying22 hi0' hz0 hz1 .i64 .i64 n (by rw [hz2]; omega) (by unfold maxLen; omega) hb1.size
  obtain ⟨blk, hblk⟩ : ∃ blk, blk = w1.heap.size := ⟨_, rfl⟩
  rw [← hblk] at mk own2
  clear hblk
  have HCP : Hid (CP w w2 blk n L [] 0) := by
    refine ⟨?_, rfl, by simp, fun p hp => by simp at hp, hb1.trans (grownBy_below gr2 hb1.size)⟩
    have e : (madeCells (Value.agg (Nv.cells nv0)).cells (n * 10)).toList = nvs (List.replicate n nv0) := made_nodes n
    rw [e] at own2
    simpa using own2
  clear hb1 own2 gr2 hi0' hz0 hz1 hz2 HC
  go_wp2
  go_loopw [6, 7, 18] (fun _ _ r wr => ∃ (i : Nat) (C : List (Nv × Nod)), r = .int .i64 i ∧ i ≤ n ∧ CP w wr blk n L C i) (fun _ _ r _ => n - (intOf r).toNat)
  case atStart => exact ⟨0, [], rfl, Nat.zero_le _, HCP.out⟩
  case round =>
    obtain ⟨i, C, rfl, hi0, hcp⟩ := hrel
    have HP := hide hcp
    by_cases hi : i < n
    · have hd : decide ((i : Int) < n) = true := by simpa using hi
      obtain ⟨ba, oa, rfl, hba, hca⟩ := (HL.out.below hcp.bel).at (by omega)
      obtain ⟨c0, c1, c2, c3, c4, c5, c6, c7, c8, c9⟩ := hca i hi
      have hmem := gl_mem L i (by rw [HLN.out]; exact hi)
      have hr := (HL.out.below hcp.bel).rep i hi
      have hsh := HSH.out _ (nds_mem hmem)
      have HCC : Hid (∀ o, Calls Tryz.prog 44 #[.agg (gl L i).1.cells] (wr.alloc o) fun e w' => ∃ v', e = .returned (.agg v'.cells) ∧ Rep w' v' (gl L i).2 ∧ Abv w' (wr.alloc o).heap.size v' ∧ Below (wr.alloc o).heap.size (wr.alloc o) w') := fun o =>
        copied_any (gl L i).1 (gl L i).2 (wr.alloc o) (hr.below ((Below.refl _ _).alloc (Nat.le_refl _) _)) (lean_of hr (HMA.out _ (nds_mem hmem)) hsh.1)
      have hfw : (gl L i).2.names.length ≤ 1000000 := by have := hsh.1; omega
      have hi1 : (i : Int) < n := by omega
      have bel1 : Hid (∀ o, Below wr.heap.size wr (wr.alloc o)) := fun o => (Below.refl _ _).alloc (Nat.le_refl _) _
      simp only [Nv.cells] at HCC
      clear hcp hca hr hsh mk
      go_wp2_with (go_at_call 44; refine (HCC.out _).mono ?_)
      rintro e w3 ⟨u, rfl, hru, hau, hb3⟩
      have HST := hide (HP.out.step HLN.out hi (bel1.out _) hb3 u hru hau hfw)
      have row3 := owns_below HP.out.row ((bel1.out _).trans (hb3.mono (bel1.out _).size))
      obtain ⟨b', off', hbo, hb', hat⟩ := (sh_of_owns row3).at (by omega)
      obtain ⟨rfl, rfl⟩ : blk = b' ∧ 0 = off' := by simpa using hbo
      obtain ⟨o, hat2⟩ : ∃ o, NodAt w3 blk (i * 10) o := ⟨_, by have := hat i hi; rw [Nat.zero_add] at this; exact this⟩
      obtain ⟨d0, d1, d2, d3, d4, d5, d6, d7, d8, d9⟩ := hat2
      have z0 := row3.frozenAt (i * 10)
      have z1 := row3.frozenAt (i * 10 + 1)
      have z2 := row3.frozenAt (i * 10 + 2)
      have z3 := row3.frozenAt (i * 10 + 3)
      have z4 := row3.frozenAt (i * 10 + 4)
      have z5 := row3.frozenAt (i * 10 + 5)
      have z6 := row3.frozenAt (i * 10 + 6)
      have z7 := row3.frozenAt (i * 10 + 7)
      have z8 := row3.frozenAt (i * 10 + 8)
      have z9 := row3.frozenAt (i * 10 + 9)
      clear hat row3 hbo hru hau hb3 c0 c1 c2 c3 c4 c5 c6 c7 c8 c9 HCC
      go_wp2
      exact ⟨⟨i + 1, _, by go_num, by omega, HST.out⟩, by simp [intOf]; omega⟩
    · have hd : decide ((i : Int) < n) = false := by simpa using hi
      obtain rfl : i = n := by omega
      have hrow : wr.ownsRow w.heap.size 37 10 (.slice (some ⟨blk, 0, none⟩) i i) i (nvs (C.map (·.1))) := by
        have := hcp.row
        rw [Nat.sub_self] at this
        simpa using this
      have hnd : nds C = nds L := by
        have := hcp.nds
        rw [List.take_of_length_le (by rw [nds_length, HLN.out]; omega)] at this
        exact this
      have HSO := hide (SortNodes_any blk i i w.heap.size C wr hrow hn0 (by omega) hcp.good)
      have hblk2 := (hrow.lt blk rfl)
      clear hcp mk hrow
      go_wp2_with (go_at_call 45; refine HSO.out.mono ?_)
      rintro e w4 ⟨rfl, L4, hp4, hs4, own4, good4, but4, q1, q2, q3⟩
      have E4 : Hid (Below w.heap.size w w4) := HP.out.bel.trans ⟨q1, q2, q3, but4.1, fun j hj => but4.2 j (by omega) (by omega)⟩
      have HNU := hide (numberInos_any blk i i w.heap.size L4 w4 own4 (by omega) good4)
      have hL4 : L4.length = i := by rw [hp4.length_eq]; have := congrArg List.length hnd; rw [nds_length, nds_length, HLN.out] at this; exact this
      have HIC : Hid (IsCanon (nds L) (nds (rl (ikeys (nds L4)) L4 i))) := by
        refine ⟨nds L4, ?_, ?_, ?_⟩
        · rw [← hnd]; exact hp4.map _
        · rw [nds, List.pairwise_map]; exact hs4
        · rw [← hL4]; exact rl_end L4
      have HG4 : Hid (∀ p ∈ rl (ikeys (nds L4)) L4 i, Good w4 blk p) := by
        intro p hp
        obtain ⟨j, hj, rfl⟩ := List.getElem_of_mem hp
        rw [rl_length] at hj
        have := rl_get (ikeys (nds L4)) L4 i (by omega) j
        rw [gl_lt _ _ (by rw [rl_length]; exact hj), if_pos (by omega)] at this
        rw [this]
        have hnb := (nno_range (ikeys_lit (nds L4)) (i := j) (by rw [ikeys_length, nds_length]; exact hj)).2
        have hnl := nst_le (ikeys (nds L4)) (j + 1)
        exact good_rn (good4 _ (gl_mem L4 j hj)) _ (by omega)
      have hs4' := but4.1
      clear hp4 hs4 own4 good4 but4 q1 q2 q3 hnd HSO
      go_wp2_with (go_at_call 47; refine HNU.out.mono ?_)
      rintro e w5 ⟨rfl, hni⟩
      have HNI := hide hni
      clear hni
      go_wp2
      go_ret2
      refine ⟨blk, rl (ikeys (nds L4)) L4 i, rfl, HNI.out.row, fun p hp => (HG4.out p hp).but HNI.out.but, HIC.out, ?_⟩
      exact E4.out.trans (HNI.out.bel.mono hblk2.1)
theorem Canon_no (a : Option Addr) (n c : Nat) (L : List (Nv × Nod)) (w : World) (hl : Ns w a n L) (hc : n ≤ c) (hcm : c ≤ 9223372036854775807) (z : Int) (hz : check (nds L) = z) (h0 : z ≠ 0) :
    Calls Tryz.prog 18 #[.slice a n c] w fun e w' => e = .returned (.tuple #[.slice none 0 0, .int .i64 z]) ∧ Below w.heap.size w w' := by
  have HC := hide (Check_any a n c L w hl hc hcm)
  rw [hz] at HC
  have h1 : (z != 0) = true := by simpa using h0
  clear hl hz
  go_enter Tryz.func18, Tryz.ntmps18
  go_wp2_with (go_at_call 43; refine HC.out.mono ?_; rintro e w1 ⟨rfl, hb1⟩)
  go_ret2
  exact ⟨rfl, hb1⟩
end Go.Proofs.YtchcejjoncihkaaGreatDoor

/- Layer 7, on lists alone: nodes in order are so in one way. -/
namespace Go.Proofs.YtchcejjoncihkaaGreatDoor
set_option linter.unusedVariables false
open Go.RowKit Go.Maps
open Nam Tre

namespace Tre
theorem names_inj : ∀ {l : List Nod}, (l.map Nod.names).Nodup → ∀ a ∈ l, ∀ b ∈ l, a.names = b.names → a = b
  | [], _, a, ha, _, _, _ => by simp at ha
  | n :: r, h, a, ha, b, hb, e => by
    rw [List.map_cons, List.nodup_cons] at h
    rcases List.mem_cons.1 ha with h1 | h1 <;> rcases List.mem_cons.1 hb with h2 | h2
    · rw [h1, h2]
    · exact absurd (List.mem_map.2 ⟨b, h2, by rw [← e, h1]⟩) h.1
    · exact absurd (List.mem_map.2 ⟨a, h1, by rw [e, h2]⟩) h.1
    · exact names_inj h.2 a h1 b h2 e
theorem order_one {l s t : List Nod} (hd : (l.map Nod.names).Nodup) (h1 : s.Perm l) (h2 : t.Perm l) (o1 : s.Pairwise (fun p q => ltn q p = false)) (o2 : t.Pairwise (fun p q => ltn q p = false)) : s = t := by
  refine List.Perm.eq_of_pairwise ?_ o1 o2 (h1.trans h2.symm)
  intro a b ha hb hab hba
  refine names_inj hd a (h1.mem_iff.1 ha) b (h2.mem_iff.1 hb) ?_
  by_cases e : a.names = b.names
  · exact e
  · rcases less_total (nm a.names) (nm b.names) (fun q => e (nm_inj q)) with q | q
    · have : ltn a b = true := q
      rw [this] at hba; cases hba
    · have : ltn b a = true := q
      rw [this] at hab; cases hab
theorem canon_one {l r t : List Nod} (hd : (l.map Nod.names).Nodup) (h1 : IsCanon l r) (h2 : IsCanon l t) : r = t := by
  obtain ⟨s, p1, o1, rfl⟩ := h1
  obtain ⟨u, p2, o2, rfl⟩ := h2
  rw [order_one hd p1 p2 o1 o2]
end Tre
end Go.Proofs.YtchcejjoncihkaaGreatDoor

/- Layer 7, on lists alone: what holds of a canonical row. -/
namespace Go.Proofs.YtchcejjoncihkaaGreatDoor
set_option linter.unusedVariables false
open Go.RowKit Go.Maps
open Nam Tre

namespace Tre
theorem isDir_mem {l : List Nod} {m : List ByteArray} (h : isDir l m = true) : ∃ n ∈ l, n.names = m ∧ n.kind = 1 := by
  unfold isDir at h
  cases hf : l.find? (fun n => decide (n.names = m)) with
  | none => rw [hf] at h; cases h
  | some n =>
    rw [hf] at h
    exact ⟨n, List.mem_of_find?_eq_some hf, by simpa using List.find?_some hf, by simpa using h⟩
/-- The node at a place. -/
def gn (r : List Nod) (i : Nat) : Nod := r.getD i nod0
theorem gn_lt (r : List Nod) (i : Nat) (h : i < r.length) : gn r i = r[i] := by simp [gn, h]
/-- The greatest Ino of the first i. -/
def tp (r : List Nod) : Nat → Int
  | 0 => 0
  | i + 1 => max (tp r i) (gn r i).ino
theorem gn_numb (s : List Nod) (i : Nat) (h : i < s.length) : gn (numb s) i = { s[i] with ino := (nno (ikeys s) i : Int) } := by
  rw [gn_lt _ _ (by rw [numb_length]; exact h)]; exact numb_get s i h
theorem tp_numb (s : List Nod) : ∀ i, i ≤ s.length → tp (numb s) i = ((nst (ikeys s) i).1 : Int)
  | 0, _ => rfl
  | i + 1, h => by
    have hl : i < (ikeys s).length := by rw [ikeys_length]; omega
    rw [tp, tp_numb s i (by omega), gn_numb s i (by omega)]
    show max _ ((nno (ikeys s) i : Nat) : Int) = _
    by_cases hm : (ikeys s)[i] ∈ (ikeys s).take i
    · have h1 := nst_same (ikeys_lit s) hl hm
      have h2 := (nno_range (ikeys_lit s) hl).2
      rw [h1] at h2 ⊢
      omega
    · obtain ⟨h1, h2⟩ := nno_new (ikeys_lit s) hl hm
      rw [h1, h2]; omega
/-- What holds of a canonical row. -/
structure CanF (l r : List Nod) : Prop where
  len : r.length = l.length
  pos : 0 < r.length
  root : (gn r 0).names = []
  ord : ∀ i, 0 < i → i < r.length → ltn (gn r (i - 1)) (gn r i) = true
  ino : ∀ i, i < r.length → 1 ≤ (gn r i).ino ∧ (gn r i).ino ≤ tp r i + 1
  top : ∀ i, i ≤ r.length → 0 ≤ tp r i ∧ tp r i ≤ i
  par : ∀ i, i < r.length → (gn r i).names ≠ [] → ∃ k, k < i ∧ (gn r k).names = (gn r i).names.dropLast ∧ (gn r k).kind = 1
theorem less_drop {m : List ByteArray} (h : m ≠ []) : less (nm m.dropLast) (nm m) = true := by
  have e : m = m.dropLast ++ [m.getLast h] := (List.dropLast_concat_getLast h).symm
  conv => lhs; arg 2; rw [e]
  rw [nm_append]
  exact less_append _ _ _
theorem canF {l r : List Nod} (h0 : check l = 0) (h : IsCanon l r) : CanF l r := by
  obtain ⟨k1, k2, k3, k4, k5, k6, k7, k8⟩ := check_zero h0
  obtain ⟨s, hp, ho, rfl⟩ := h
  have hnd : (s.map Nod.names).Nodup := (hp.map Nod.names).nodup_iff.2 k4
  have hst : ∀ i j (hi : i < s.length) (hj : j < s.length), i < j → ltn s[i] s[j] = true := fun i j hi hj hij => by
    have h1 : ltn s[j] s[i] = false := List.pairwise_iff_getElem.1 ho i j hi hj hij
    have hne : s[i].names ≠ s[j].names := fun e => by
      have := List.pairwise_iff_getElem.1 hnd i j (by simpa using hi) (by simpa using hj) hij
      simp at this
      exact this e
    rcases less_total (nm s[i].names) (nm s[j].names) (fun q => hne (nm_inj q)) with q | q
    · exact q
    · rw [show ltn s[j] s[i] = true from q] at h1; cases h1
  have hlt : ∀ i j (hi : i < s.length) (hj : j < s.length), ltn s[i] s[j] = true → i < j := fun i j hi hj h => by
    rcases Nat.lt_trichotomy i j with q | q | q
    · exact q
    · subst q; rw [show ltn s[i] s[i] = false from less_irrefl _] at h; cases h
    · have := hst j i hj hi q
      rw [less_asymm _ _ (show less (nm s[j].names) (nm s[i].names) = true from this) |> (show ltn s[i] s[j] = false from ·)] at h; cases h
  have hmem : ∀ n ∈ l, ∃ j, ∃ (hj : j < s.length), s[j] = n := fun n hn => by
    obtain ⟨j, hj, e⟩ := List.getElem_of_mem (hp.mem_iff.2 hn)
    exact ⟨j, hj, e⟩
  obtain ⟨n0, hn0, hn1, hn2⟩ := isDir_mem k5
  obtain ⟨j0, hj0, hj1⟩ := hmem n0 hn0
  have hz : j0 = 0 := by
    rcases Nat.eq_zero_or_pos j0 with q | q
    · exact q
    · have := hst 0 j0 (by omega) hj0 q
      rw [hj1] at this
      unfold ltn at this
      rw [hn1] at this
      have e : less (nm (s[0]'(by omega)).names) (nm []) = false := less_end_right _
      rw [e] at this; cases this
  have hpos : 0 < s.length := by omega
  refine ⟨by rw [numb_length]; exact hp.length_eq, by rw [numb_length]; exact hpos, ?_, ?_, ?_, ?_, ?_⟩
  · rw [gn_numb s 0 hpos]
    subst hz
    show s[0].names = []
    rw [hj1]; exact hn1
  · intro i hi hl
    rw [numb_length] at hl
    rw [gn_numb s (i - 1) (by omega), gn_numb s i hl]
    exact hst (i - 1) i (by omega) hl (by omega)
  · intro i hi
    rw [numb_length] at hi
    have hl : i < (ikeys s).length := by rw [ikeys_length]; omega
    rw [tp_numb s i (by omega), gn_numb s i hi]
    show 1 ≤ ((nno (ikeys s) i : Nat) : Int) ∧ ((nno (ikeys s) i : Nat) : Int) ≤ _
    have hr := nno_range (ikeys_lit s) hl
    by_cases hm : (ikeys s)[i] ∈ (ikeys s).take i
    · have h1 := nst_same (ikeys_lit s) hl hm
      omega
    · obtain ⟨h1, h2⟩ := nno_new (ikeys_lit s) hl hm
      omega
  · intro i hi
    rw [numb_length] at hi
    rw [tp_numb s i hi]
    have := nst_le (ikeys s) i
    omega
  · intro i hi hne
    rw [numb_length] at hi
    rw [gn_numb s i hi] at hne ⊢
    have hne' : s[i].names ≠ [] := hne
    have hd := List.all_eq_true.1 k6 s[i] (hp.mem_iff.1 (List.getElem_mem hi))
    unfold inDir at hd
    rw [decide_eq_false (by intro q; exact hne' (List.eq_nil_of_length_eq_zero q)), Bool.false_or] at hd
    obtain ⟨n, hn, e1, e2⟩ := isDir_mem hd
    obtain ⟨k, hk, e3⟩ := hmem n hn
    have hki : k < i := hlt k i hk hi (by unfold ltn; rw [e3, e1]; exact less_drop hne')
    refine ⟨k, hki, ?_, ?_⟩
    · rw [gn_numb s k hk]; show s[k].names = _; rw [e3]; exact e1
    · rw [gn_numb s k hk]; show s[k].kind = 1; rw [e3]; exact e2
end Tre
theorem gn_nds (L : List (Nv × Nod)) (i : Nat) (h : i < L.length) : gn (nds L) i = (gl L i).2 := by
  rw [gn_lt _ _ (by rw [nds_length]; exact h), gl_lt L i h]; simp [nds]
end Go.Proofs.YtchcejjoncihkaaGreatDoor

/- Layer 7: a row of numbers, put in order as slices.SortStableFunc does it: the pure part (a row as a function of its place). -/
namespace Go.Proofs.YtchcejjoncihkaaGreatDoor
set_option linter.unusedVariables false

namespace Stb
def swp (C : Nat → Nat) (i j : Nat) : Nat → Nat := fun k => if k = i then C j else if k = j then C i else C k
/-- Two stretches of n exchanged. -/
def swr (C : Nat → Nat) (a b n : Nat) : Nat → Nat := fun k => if a ≤ k ∧ k < a + n then C (k + (b - a)) else if b ≤ k ∧ k < b + n then C (k - (b - a)) else C k
/-- What lies from lo to m, and what lies from m to hi, exchanged. -/
def rot (C : Nat → Nat) (lo m hi : Nat) : Nat → Nat := fun k => if lo ≤ k ∧ k < lo + (hi - m) then C (k + (m - lo)) else if lo + (hi - m) ≤ k ∧ k < hi then C (k - (hi - m)) else C k
theorem swr_zero (C : Nat → Nat) (a b : Nat) : swr C a b 0 = C := by
  funext k
  unfold swr
  rw [if_neg (by omega), if_neg (by omega)]
theorem swr_succ (C : Nat → Nat) (a b n : Nat) (h : a + n < b) : swp (swr C a b n) (a + n) (b + n) = swr C a b (n + 1) := by
  funext k
  simp only [swp, swr]
  repeat' split
  all_goals first | rfl | (exfalso; omega) | (congr 1; omega)
theorem rot_gt (C : Nat → Nat) (i j m : Nat) (hi : i ≤ m) (h : j < i) : rot (swr C (m - i) m j) (m - (i - j)) m (m + j) = rot C (m - i) m (m + j) := by
  funext k
  simp only [rot, swr]
  repeat' split
  all_goals first | rfl | (exfalso; omega) | (congr 1; omega)
theorem rot_lt (C : Nat → Nat) (i j m : Nat) (hi : i ≤ m) (h : i < j) : rot (swr C (m - i) (m + j - i) i) (m - i) m (m + (j - i)) = rot C (m - i) m (m + j) := by
  funext k
  simp only [rot, swr]
  repeat' split
  all_goals first | rfl | (exfalso; omega) | (congr 1; omega)
theorem rot_eq (C : Nat → Nat) (i m : Nat) (hi : i ≤ m) : swr C (m - i) m i = rot C (m - i) m (m + i) := by
  funext k
  simp only [rot, swr]
  repeat' split
  all_goals first | rfl | (exfalso; omega) | (congr 1; omega)
theorem rot_none (C : Nat → Nat) (s m e : Nat) (h1 : s ≤ m) (h2 : m ≤ e) (h : s = m ∨ e = m) : rot C s m e = C := by
  funext k
  unfold rot
  repeat' split
  all_goals first | rfl | (exfalso; omega) | (congr 1; omega)
theorem rot_up (C : Nat → Nat) (a k : Nat) (h : a ≤ k) : swp (rot C a (a + 1) (k + 1)) k (k + 1) = rot C a (a + 1) (k + 2) := by
  funext x
  simp only [rot, swp]
  repeat' split
  all_goals first | rfl | (exfalso; omega) | (congr 1; omega)
theorem rot_down (C : Nat → Nat) (k m : Nat) (h : k < m) : swp (rot C (k + 1) m (m + 1)) (k + 1) k = rot C k m (m + 1) := by
  funext x
  simp only [rot, swp]
  repeat' split
  all_goals first | rfl | (exfalso; omega) | (congr 1; omega)
theorem rot_out (C : Nat → Nat) {s m e k : Nat} (h1 : s ≤ m) (h2 : m ≤ e) (h : k < s ∨ e ≤ k) : rot C s m e k = C k := by
  unfold rot
  rw [if_neg (by omega), if_neg (by omega)]
theorem rot_one (C : Nat → Nat) {s m e k : Nat} (h1 : s ≤ k) (h : k < s + (e - m)) : rot C s m e k = C (k + (m - s)) := by
  unfold rot
  rw [if_pos ⟨h1, h⟩]
theorem rot_two (C : Nat → Nat) {s m e k : Nat} (h1 : s + (e - m) ≤ k) (h : k < e) : rot C s m e k = C (k - (e - m)) := by
  unfold rot
  rw [if_neg (by omega), if_pos ⟨h1, h⟩]

def In (C : Nat → Nat) (a b x : Nat) : Prop := ∃ k, a ≤ k ∧ k < b ∧ C k = x
def Srd (lt : Nat → Nat → Prop) (C : Nat → Nat) (a b : Nat) : Prop := ∀ i j, a ≤ i → i < j → j < b → lt (C i) (C j)
def Idx (C : Nat → Nat) (a m b : Nat) : Prop := ∀ i j, a ≤ i → i < m → m ≤ j → j < b → C i < C j
structure Mg (lt : Nat → Nat → Prop) (C D : Nat → Nat) (a b : Nat) : Prop where
  out : ∀ k, k < a ∨ b ≤ k → D k = C k
  inn : ∀ x, In D a b x ↔ In C a b x
  srd : Srd lt D a b
theorem In.rot {C : Nat → Nat} {a s m e b x : Nat} (h1 : a ≤ s) (h2 : s ≤ m) (h3 : m ≤ e) (h4 : e ≤ b) : In (rot C s m e) a b x ↔ In C a b x := by
  constructor
  · rintro ⟨k, k1, k2, rfl⟩
    by_cases c1 : k < s ∨ e ≤ k
    · exact ⟨k, k1, k2, (rot_out C h2 h3 c1).symm⟩
    · by_cases c2 : k < s + (e - m)
      · exact ⟨k + (m - s), by omega, by omega, (rot_one C (by omega) c2).symm⟩
      · exact ⟨k - (e - m), by omega, by omega, (rot_two C (by omega) (by omega)).symm⟩
  · rintro ⟨k, k1, k2, rfl⟩
    by_cases c1 : k < s ∨ e ≤ k
    · exact ⟨k, k1, k2, rot_out C h2 h3 c1⟩
    · by_cases c2 : k < m
      · exact ⟨k + (e - m), by omega, by omega, by rw [rot_two C (by omega) (by omega)]; congr 1; omega⟩
      · exact ⟨k - (m - s), by omega, by omega, by rw [rot_one C (by omega) (by omega)]; congr 1; omega⟩
theorem Srd.le {lt : Nat → Nat → Prop} {C : Nat → Nat} {a b i j k : Nat} (tr : ∀ x y z, lt x y → lt y z → lt x z) (h : Srd lt C a b) (h1 : a ≤ i) (h2 : i ≤ j) (h3 : j < b) {z : Nat} (hz : lt (C j) z) : lt (C i) z := by
  rcases Nat.lt_or_ge i j with c | c
  · exact tr _ _ _ (h i j h1 c h3) hz
  · obtain rfl : i = j := by omega
    exact hz
theorem Srd.ge {lt : Nat → Nat → Prop} {C : Nat → Nat} {a b i j : Nat} (tr : ∀ x y z, lt x y → lt y z → lt x z) (h : Srd lt C a b) (h1 : a ≤ i) (h2 : i ≤ j) (h3 : j < b) {z : Nat} (hz : lt z (C i)) : lt z (C j) := by
  rcases Nat.lt_or_ge i j with c | c
  · exact tr _ _ _ hz (h i j h1 c h3)
  · obtain rfl : i = j := by omega
    exact hz
theorem mg_down {lt : Nat → Nat → Prop} (tr : ∀ x y z, lt x y → lt y z → lt x z) {C : Nat → Nat} {a s m : Nat} (hs : Srd lt C a m) (h1 : a ≤ s) (h2 : s ≤ m) (h3 : s = a ∨ lt (C (s - 1)) (C m)) (h4 : s = m ∨ lt (C m) (C s)) :
    Mg lt C (rot C s m (m + 1)) a (m + 1) := by
  refine ⟨fun k hk => rot_out C h2 (by omega) (by omega), fun x => In.rot h1 h2 (by omega) (Nat.le_refl _), fun i j e1 e2 e3 => ?_⟩
  have f1 : ∀ k, k < s → rot C s m (m + 1) k = C k := fun k hk => rot_out C h2 (by omega) (.inl hk)
  have f2 : rot C s m (m + 1) s = C m := by rw [rot_one C (Nat.le_refl _) (by omega)]; congr 1; omega
  have f3 : ∀ k, s < k → k < m + 1 → rot C s m (m + 1) k = C (k - 1) := fun k hk hm => by rw [rot_two C (by omega) hm]; congr 1; omega
  have low : ∀ i, a ≤ i → i < s → lt (C i) (C m) := fun i q1 q2 => by
    rcases h3 with h3 | h3
    · omega
    · exact hs.le (k := 0) tr q1 (by omega) (by omega) h3
  have high : ∀ j, s ≤ j → j < m → lt (C m) (C j) := fun j q1 q2 => by
    rcases h4 with h4 | h4
    · omega
    · exact hs.ge tr h1 q1 q2 h4
  rcases Nat.lt_trichotomy j s with c | c | c
  · rw [f1 i (by omega), f1 j c]; exact hs i j e1 e2 (by omega)
  · subst c; rw [f1 i e2, f2]; exact low i e1 e2
  · rw [f3 j c e3]
    rcases Nat.lt_trichotomy i s with d | d | d
    · rw [f1 i d]; exact hs i (j - 1) e1 (by omega) (by omega)
    · subst d; rw [f2]; exact high _ (by omega) (by omega)
    · rw [f3 i d (by omega)]; exact hs (i - 1) (j - 1) (by omega) (by omega) (by omega)
theorem mg_up {lt : Nat → Nat → Prop} (tr : ∀ x y z, lt x y → lt y z → lt x z) {C : Nat → Nat} {a s b : Nat} (hs : Srd lt C (a + 1) b) (h1 : a + 1 ≤ s) (h2 : s ≤ b) (h3 : s = a + 1 ∨ lt (C (s - 1)) (C a)) (h4 : s = b ∨ lt (C a) (C s)) :
    Mg lt C (rot C a (a + 1) s) a b := by
  refine ⟨fun k hk => rot_out C (by omega) (by omega) (by omega), fun x => In.rot (Nat.le_refl _) (by omega) h1 h2, fun i j e1 e2 e3 => ?_⟩
  have f1 : ∀ k, s ≤ k → rot C a (a + 1) s k = C k := fun k hk => rot_out C (by omega) (by omega) (.inr hk)
  have f2 : rot C a (a + 1) s (s - 1) = C a := by rw [rot_two C (by omega) (by omega)]; congr 1; omega
  have f3 : ∀ k, a ≤ k → k < s - 1 → rot C a (a + 1) s k = C (k + 1) := fun k hk hm => by rw [rot_one C hk (by omega)]; congr 1; omega
  have low : ∀ i, a + 1 ≤ i → i < s → lt (C i) (C a) := fun i q1 q2 => by
    rcases h3 with h3 | h3
    · omega
    · exact hs.le (k := 0) tr q1 (by omega) (by omega) h3
  have high : ∀ j, s ≤ j → j < b → lt (C a) (C j) := fun j q1 q2 => by
    rcases h4 with h4 | h4
    · omega
    · exact hs.ge tr h1 q1 q2 h4
  by_cases c : s ≤ i
  · rw [f1 i c, f1 j (by omega)]; exact hs i j (by omega) e2 e3
  · by_cases d : i = s - 1
    · rw [d, f2, f1 j (by omega)]; exact high j (by omega) e3
    · rw [f3 i e1 (by omega)]
      by_cases e : s ≤ j
      · rw [f1 j e]; exact hs (i + 1) j (by omega) (by omega) e3
      · by_cases f : j = s - 1
        · rw [f, f2]; exact low _ (by omega) (by omega)
        · rw [f3 j (by omega) (by omega)]; exact hs (i + 1) (j + 1) (by omega) (by omega) (by omega)
/-- What is in a stretch is in its two parts. -/
theorem In.parts {C : Nat → Nat} {a m b x : Nat} (h1 : a ≤ m) (h2 : m ≤ b) : In C a b x ↔ In C a m x ∨ In C m b x := by
  constructor
  · rintro ⟨k, k1, k2, rfl⟩
    rcases Nat.lt_or_ge k m with c | c
    · exact .inl ⟨k, k1, c, rfl⟩
    · exact .inr ⟨k, c, k2, rfl⟩
  · rintro (⟨k, k1, k2, rfl⟩ | ⟨k, k1, k2, rfl⟩)
    · exact ⟨k, k1, by omega, rfl⟩
    · exact ⟨k, by omega, k2, rfl⟩
theorem In.same {C D : Nat → Nat} {a b x : Nat} (h : ∀ k, a ≤ k → k < b → D k = C k) : In D a b x ↔ In C a b x :=
  ⟨fun ⟨k, k1, k2, e⟩ => ⟨k, k1, k2, (h k k1 k2).symm.trans e⟩, fun ⟨k, k1, k2, e⟩ => ⟨k, k1, k2, (h k k1 k2).trans e⟩⟩
theorem Srd.same {lt : Nat → Nat → Prop} {C D : Nat → Nat} {a b : Nat} (h : Srd lt C a b) (e : ∀ k, a ≤ k → k < b → D k = C k) : Srd lt D a b := fun i j h1 h2 h3 => by
  rw [e i h1 (by omega), e j (by omega) h3]; exact h i j h1 h2 h3
theorem Idx.same {C D : Nat → Nat} {a m b : Nat} (h : Idx C a m b) (e : ∀ k, a ≤ k → k < b → D k = C k) : Idx D a m b := fun i j h1 h2 h3 h4 => by
  rw [e i h1 (by omega), e j (by omega) h4]; exact h i j h1 h2 h3 h4
/-- Where the place s was found: the two halves. -/
structure Half (lt : Nat → Nat → Prop) (C D : Nat → Nat) (a s mid e b : Nat) : Prop where
  s1 : Srd lt D a s
  s2 : Srd lt D s mid
  s3 : Srd lt D mid e
  s4 : Srd lt D e b
  i1 : Idx D a s mid
  i2 : Idx D mid e b
  inn : ∀ x, In D a b x ↔ In C a b x
  out : ∀ k, k < a ∨ b ≤ k → D k = C k
  cross : ∀ x y, In D a mid x → In D mid b y → lt x y
theorem half {lt : Nat → Nat → Prop} (tr : ∀ x y z, lt x y → lt y z → lt x z) {C : Nat → Nat} {a s m mid e b : Nat} (hl : Srd lt C a m) (hr : Srd lt C m b) (hi : Idx C a m b)
    (h1 : a ≤ s) (h2 : s ≤ m) (h3 : m ≤ e) (h4 : e ≤ b) (he : s + e = mid + m)
    (c1 : s = a ∨ e = b ∨ lt (C (s - 1)) (C e)) (c2 : s = m ∨ e = m ∨ lt (C (e - 1)) (C s)) : Half lt C (rot C s m e) a s mid e b := by
  have f1 : ∀ k, k < s → rot C s m e k = C k := fun k hk => rot_out C h2 h3 (.inl hk)
  have f2 : ∀ k, s ≤ k → k < mid → rot C s m e k = C (k + (m - s)) := fun k hk hm => rot_one C hk (by omega)
  have f3 : ∀ k, mid ≤ k → k < e → rot C s m e k = C (k - (e - m)) := fun k hk hm => rot_two C (by omega) hm
  have f4 : ∀ k, e ≤ k → rot C s m e k = C k := fun k hk => rot_out C h2 h3 (.inr hk)
  refine ⟨?_, ?_, ?_, ?_, ?_, ?_, fun x => In.rot h1 h2 h3 h4, fun k hk => rot_out C h2 h3 (by omega), ?_⟩
  · intro i j e1 e2 e3; rw [f1 i (by omega), f1 j e3]; exact hl i j e1 e2 (by omega)
  · intro i j e1 e2 e3; rw [f2 i e1 (by omega), f2 j (by omega) e3]; exact hr _ _ (by omega) (by omega) (by omega)
  · intro i j e1 e2 e3; rw [f3 i e1 (by omega), f3 j (by omega) e3]; exact hl _ _ (by omega) (by omega) (by omega)
  · intro i j e1 e2 e3; rw [f4 i e1, f4 j (by omega)]; exact hr _ _ (by omega) (by omega) (by omega)
  · intro i j e1 e2 e3 e4; rw [f1 i e2, f2 j e3 e4]; exact hi _ _ e1 (by omega) (by omega) (by omega)
  · intro i j e1 e2 e3 e4; rw [f3 i e1 e2, f4 j e3]; exact hi _ _ (by omega) (by omega) (by omega) (by omega)
  · rintro x y ⟨i, i1, i2, rfl⟩ ⟨j, j1, j2, rfl⟩
    by_cases ci : i < s
    · rw [f1 i ci]
      by_cases cj : j < e
      · rw [f3 j j1 cj]; exact hl _ _ i1 (by omega) (by omega)
      · rw [f4 j (by omega)]
        rcases c1 with c | c | c
        · omega
        · omega
        · exact hr.ge tr h3 (by omega) j2 (hl.le (k := 0) tr i1 (by omega) (by omega) c)
    · rw [f2 i (by omega) i2]
      by_cases cj : j < e
      · rw [f3 j j1 cj]
        rcases c2 with c | c | c
        · omega
        · omega
        · exact hl.ge tr h1 (by omega) (by omega) (hr.le (k := 0) tr (by omega) (by omega) (by omega) c)
      · rw [f4 j (by omega)]; exact hr _ _ (by omega) (by omega) (by omega)
theorem Mg.none {lt : Nat → Nat → Prop} {C : Nat → Nat} {a m b : Nat} (h1 : Srd lt C a m) (h2 : Srd lt C m b) (h : ¬ (a < m ∧ m < b)) (ha : a ≤ m) (hb : m ≤ b) : Mg lt C C a b := by
  refine ⟨fun _ _ => rfl, fun _ => Iff.rfl, ?_⟩
  by_cases c : a < m
  · obtain rfl : m = b := by omega
    exact h1
  · obtain rfl : a = m := by omega
    exact h2
theorem Half.mg {lt : Nat → Nat → Prop} {C D E G : Nat → Nat} {a s mid e b : Nat} (h : Half lt C D a s mid e b) (ha : a ≤ mid) (hb : mid ≤ b) (m1 : Mg lt D E a mid) (m2 : Mg lt E G mid b) : Mg lt C G a b := by
  have g1 : ∀ k, a ≤ k → k < mid → G k = E k := fun k _ hk => m2.out k (.inl hk)
  have e1 : ∀ k, mid ≤ k → k < b → E k = D k := fun k hk _ => m1.out k (.inr hk)
  refine ⟨fun k hk => ?_, fun x => ?_, fun i j i1 i2 i3 => ?_⟩
  · rw [m2.out k (by omega), m1.out k (by omega)]; exact h.out k hk
  · rw [← h.inn x, In.parts ha hb, In.parts ha hb, In.same g1, m1.inn, m2.inn, In.same e1]
  · rcases Nat.lt_or_ge j mid with c | c
    · exact (m1.srd.same g1) i j i1 i2 c
    · rcases Nat.lt_or_ge i mid with d | d
      · refine h.cross _ _ ((m1.inn _).1 ⟨i, i1, d, (g1 i i1 d).symm⟩) ?_
        exact (In.same e1).1 ((m2.inn _).1 ⟨j, c, i3, rfl⟩)
      · exact m2.srd i j d i2 i3
theorem Half.again2 {lt : Nat → Nat → Prop} {C D E : Nat → Nat} {a s mid e b : Nat} (h : Half lt C D a s mid e b) (h3 : mid ≤ e) (h4 : e ≤ b) (m1 : Mg lt D E a mid) : Srd lt E mid e ∧ Srd lt E e b ∧ Idx E mid e b :=
  have e1 : ∀ k, mid ≤ k → k < b → E k = D k := fun k hk _ => m1.out k (.inr hk)
  ⟨h.s3.same fun k a b => e1 k a (by omega), h.s4.same fun k a b => e1 k (by omega) b, h.i2.same e1⟩
/-- A stretch in order that holds what it held at first. -/
structure St (lt : Nat → Nat → Prop) (C0 C : Nat → Nat) (a b : Nat) : Prop where
  srd : Srd lt C a b
  inn : ∀ x, In C a b x ↔ In C0 a b x
theorem St.same {lt : Nat → Nat → Prop} {C0 C D : Nat → Nat} {a b : Nat} (h : St lt C0 C a b) (e : ∀ k, a ≤ k → k < b → D k = C k) : St lt C0 D a b := ⟨h.srd.same e, fun x => (In.same e).trans (h.inn x)⟩
theorem St.idx {lt : Nat → Nat → Prop} {C0 C : Nat → Nat} {a m b n : Nat} (h0 : ∀ i j, i < j → j < n → C0 i < C0 j) (hb : b ≤ n) (h1 : St lt C0 C a m) (h2 : St lt C0 C m b) : Idx C a m b := fun i j e1 e2 e3 e4 => by
  obtain ⟨p, p1, p2, p3⟩ := (h1.inn _).1 ⟨i, e1, e2, rfl⟩
  obtain ⟨q, q1, q2, q3⟩ := (h2.inn _).1 ⟨j, e3, e4, rfl⟩
  rw [← p3, ← q3]
  exact h0 p q (by omega) (by omega)
theorem St.mg {lt : Nat → Nat → Prop} {C0 C D : Nat → Nat} {a m b : Nat} (ha : a ≤ m) (hb : m ≤ b) (h1 : St lt C0 C a m) (h2 : St lt C0 C m b) (h : Mg lt C D a b) : St lt C0 D a b :=
  ⟨h.srd, fun x => by rw [h.inn, In.parts ha hb, In.parts ha hb, h1.inn, h2.inn]⟩
theorem Mg.more {lt : Nat → Nat → Prop} {C D E : Nat → Nat} {a i : Nat} (hi : a ≤ i) (h : Mg lt C D a i) (k : Mg lt D E a (i + 1)) : Mg lt C E a (i + 1) :=
  ⟨fun x hx => (k.out x hx).trans (h.out x (by omega)), fun x => by
    rw [k.inn, In.parts hi (Nat.le_succ i), In.parts hi (Nat.le_succ i), h.inn, In.same (C := C) fun k h1 h2 => h.out k (.inr h1)], k.srd⟩
/-- Two rows in order with the same in them are the same. -/
theorem srd_one {lt : Nat → Nat → Prop} (ir : ∀ x, ¬ lt x x) (tr : ∀ x y z, lt x y → lt y z → lt x z) : ∀ (l k : List Nat), l.Pairwise lt → k.Pairwise lt → (∀ x, x ∈ l ↔ x ∈ k) → l = k
  | [], [], _, _, _ => rfl
  | [], y :: k, _, _, h => by have := (h y).2 (by simp); simp at this
  | x :: l, [], _, _, h => by have := (h x).1 (by simp); simp at this
  | x :: l, y :: k, h1, h2, h => by
    rw [List.pairwise_cons] at h1 h2
    have e : x = y := by
      rcases List.mem_cons.1 ((h x).1 (by simp)) with e | e
      · exact e
      · rcases List.mem_cons.1 ((h y).2 (by simp)) with f | f
        · exact f.symm
        · exact absurd (tr _ _ _ (h1.1 y f) (h2.1 x e)) (ir x)
    subst e
    congr 1
    refine srd_one ir tr l k h1.2 h2.2 fun z => ⟨fun hz => ?_, fun hz => ?_⟩
    · rcases List.mem_cons.1 ((h z).1 (by simp [hz])) with e | e
      · rw [e] at hz; exact absurd (h1.1 x hz) (ir x)
      · exact e
    · rcases List.mem_cons.1 ((h z).2 (by simp [hz])) with e | e
      · rw [e] at hz; exact absurd (h2.1 x hz) (ir x)
      · exact e
end Stb
end Go.Proofs.YtchcejjoncihkaaGreatDoor

/- Layer 7: the reference's Find and isDir. -/
namespace Go.Proofs.YtchcejjoncihkaaGreatDoor
set_option linter.unusedVariables false
open Go.RowKit Go.Maps
open Nam Tre

theorem nm_dec (l k : List ByteArray) : decide (nm l = nm k) = decide (l = k) := by
  rw [Bool.eq_iff_iff, decide_eq_true_eq, decide_eq_true_eq]
  exact ⟨nm_inj, fun h => by rw [h]⟩
namespace Tre
end Tre
end Go.Proofs.YtchcejjoncihkaaGreatDoor

/- Layer 7: slices.SortStableFunc of ints, walked: a row of numbers in memory; two stretches exchanged. -/
namespace Go.Proofs.YtchcejjoncihkaaGreatDoor
set_option linter.unusedVariables false
open Go.RowKit Go.Maps
open Stb

def ivs (n : Nat) (C : Nat → Nat) : List Value := (List.range n).map fun k => Value.int .i64 (C k : Int)
theorem ivs_length (n : Nat) (C : Nat → Nat) : (ivs n C).length = n := by simp [ivs]
theorem ivs_get (n : Nat) (C : Nat → Nat) (k : Nat) (h : k < n) : (ivs n C)[k]? = some (.int .i64 (C k : Int)) := by simp [ivs, h]
theorem ivs_set (n : Nat) (C : Nat → Nat) (i z : Nat) : (ivs n C).set i (.int .i64 (z : Int)) = ivs n (fun k => if k = i then z else C k) := by
  apply List.ext_getElem?
  intro k
  rw [List.getElem?_set]
  by_cases hk : k < n
  · rw [ivs_get _ _ k hk, ivs_get _ _ k hk]
    by_cases e : i = k
    · subst e; simp [ivs_length, hk]
    · simp [e, Ne.symm e]
  · rw [List.getElem?_eq_none (by rw [ivs_length]; omega), List.getElem?_eq_none (by rw [ivs_length]; omega)]
    by_cases e : i = k
    · subst e; simp [ivs_length, hk]
    · simp [e]
/-- A row of ints of one's own; the world is as it was but for that row. -/
structure IR (w0 : World) (B blk n cap : Nat) (w : World) (C : Nat → Nat) : Prop where
  row : w.ownsRow B 3 1 (.slice (some ⟨blk, 0, none⟩) n cap) n (ivs n C)
  bel : Below blk w0 w
theorem IR.set {w0 w : World} {B blk n cap : Nat} {C : Nat → Nat} (h : IR w0 B blk n cap w C) (i z : Nat) : IR w0 B blk n cap (w.setCell ⟨blk, i, none⟩ (.int .i64 (z : Int))) (fun k => if k = i then z else C k) := by
  exact ⟨by have := (h.row.stored i (.int .i64 (z : Int))).1; rw [ivs_set] at this; exact this, h.bel.setCell (Nat.le_refl _) _⟩
theorem IR.same {w0 w : World} {B blk n cap : Nat} {C D : Nat → Nat} (h : IR w0 B blk n cap w C) (e : ∀ k, k < n → D k = C k) : IR w0 B blk n cap w D := by
  have : ivs n D = ivs n C := List.map_congr_left fun k hk => by rw [e k (by simpa using hk)]
  exact ⟨by rw [this]; exact h.row, h.bel⟩
theorem IR.swap {w0 w : World} {B blk n cap : Nat} {C : Nat → Nat} (h : IR w0 B blk n cap w C) (i j : Nat) (hne : i ≠ j) : IR w0 B blk n cap ((w.setCell ⟨blk, i, none⟩ (.int .i64 (C j : Int))).setCell ⟨blk, j, none⟩ (.int .i64 (C i : Int))) (swp C i j) := by
  refine ((h.set i (C j)).set j (C i)).same fun k _ => ?_
  simp only [swp]
  by_cases e : k = i
  · simp only [if_pos e, if_neg (show ¬ k = j by omega)]
  · by_cases f : k = j
    · simp only [if_pos f, if_neg e]
    · simp only [if_neg f, if_neg e]
theorem IR.swap' {w0 w : World} {B blk n cap : Nat} {C : Nat → Nat} (h : IR w0 B blk n cap w C) (i j : Nat) (hne : i ≠ j) : IR w0 B blk n cap ((w.setCell ⟨blk, j, none⟩ (.int .i64 (C i : Int))).setCell ⟨blk, i, none⟩ (.int .i64 (C j : Int))) (swp C i j) := by
  refine ((h.set j (C i)).set i (C j)).same fun k _ => ?_
  simp only [swp]
/-- What a region that exchanges two places wants. -/
theorem IR.swaps {w0 w : World} {B blk n cap : Nat} {C : Nat → Nat} (h : IR w0 B blk n cap w C) {i j : Nat} (hi : i < n) (hj : j < n) (hne : i ≠ j) :
    w.cell? ⟨blk, i, none⟩ = some (.int .i64 (C i : Int)) ∧ w.cell? ⟨blk, j, none⟩ = some (.int .i64 (C j : Int)) ∧ w.frozen? ⟨blk, i, none⟩ = false ∧ w.frozen? ⟨blk, j, none⟩ = false ∧
    (w.setCell ⟨blk, i, none⟩ (.int .i64 (C j : Int))).cell? ⟨blk, j, none⟩ = some (.int .i64 (C j : Int)) ∧ (w.setCell ⟨blk, j, none⟩ (.int .i64 (C i : Int))).cell? ⟨blk, i, none⟩ = some (.int .i64 (C i : Int)) ∧
    (w.setCell ⟨blk, i, none⟩ (.int .i64 (C j : Int))).frozen? ⟨blk, j, none⟩ = false ∧ (w.setCell ⟨blk, j, none⟩ (.int .i64 (C i : Int))).frozen? ⟨blk, i, none⟩ = false := by
  have hc : ∀ {W : World} {D : Nat → Nat}, IR w0 B blk n cap W D → ∀ k, k < n → W.cell? ⟨blk, k, none⟩ = some (.int .i64 (D k : Int)) := fun h k hk => by rw [h.row.cellAt k (by omega), ivs_get _ _ _ hk]
  refine ⟨hc h i hi, hc h j hj, h.row.frozenAt _, h.row.frozenAt _, ?_, ?_, (h.set i (C j)).row.frozenAt _, (h.set j (C i)).row.frozenAt _⟩
  · rw [hc (h.set i (C j)) j hj, if_neg (Ne.symm hne)]
  · rw [hc (h.set j (C i)) i hi, if_neg hne]
theorem IR.drew {w0 w : World} {B blk n cap : Nat} {C : Nat → Nat} (h : IR w0 B blk n cap w C) (q : Nat) : IR w0 B blk n cap (w.drewN q) C := by
  exact ⟨h.row, ⟨h.bel.os, h.bel.tape, h.bel.output, h.bel.size, h.bel.block⟩⟩
theorem IR.drew1 {w0 w : World} {B blk n cap : Nat} {C : Nat → Nat} (h : IR w0 B blk n cap w C) : IR w0 B blk n cap w.drew C := ⟨h.row, h.bel.drew⟩
theorem IR.cell {w0 w : World} {B blk n cap : Nat} {C : Nat → Nat} (h : IR w0 B blk n cap w C) {k : Nat} (hk : k < n) : w.cell? ⟨blk, k, none⟩ = some (.int .i64 (C k : Int)) := by
  rw [h.row.cellAt k (by omega), ivs_get _ _ _ hk]
set_option maxRecDepth 100000 in
theorem swapRange_any (w0 : World) (B blk n cap : Nat) (fv : Value) (a b m : Nat) (C : Nat → Nat) (w : World) (h : IR w0 B blk n cap w C) (hn : n ≤ 1000) (h1 : a + m ≤ b) (h2 : b + m ≤ n) :
    Calls Tryz.prog 256 #[.slice (some ⟨blk, 0, none⟩) n cap, .int .i64 a, .int .i64 b, .int .i64 m, fv] w fun e w' => e = .returned (.tuple #[]) ∧ IR w0 B blk n cap w' (swr C a b m) := by
  have H := hide h
  clear h
  go_enter Tryz.func256, Tryz.ntmps256
  go_wp2
  go_loopw [10] (fun r wr => ∃ i : Nat, r = .int .i64 i ∧ i ≤ m ∧ IR w0 B blk n cap wr (swr C a b i)) (fun r _ => m - (intOf r).toNat)
  case atStart => exact ⟨0, rfl, Nat.zero_le _, by rw [swr_zero]; exact H.out⟩
  case round =>
    obtain ⟨i, rfl, hi0, hir⟩ := hrel
    have HI := hide hir
    by_cases hi : i < m
    · have hd : decide ((i : Int) < m) = true := by simpa using hi
      have w1 : IntKind.i64.wrap ((a : Int) + i) = ((a + i : Nat) : Int) := by rw [IntWalk.i64_in _ (by omega)]; omega
      have w2 : IntKind.i64.wrap ((b : Int) + i) = ((b + i : Nat) : Int) := by rw [IntWalk.i64_in _ (by omega)]; omega
      obtain ⟨c1, c2, z1, z2, c3, c4, z3, z4⟩ := hir.swaps (i := a + i) (j := b + i) (by omega) (by omega) (by omega)
      have HS := hide (hir.swap (a + i) (b + i) (by omega))
      have HS2 := hide (hir.swap' (a + i) (b + i) (by omega))
      have HE := hide (swr_succ C a b i (by omega))
      have i1 : ((a + i : Nat) : Int) < n := by omega
      have i2 : ((b + i : Nat) : Int) < n := by omega
      generalize swr C a b i (a + i) = x1 at *
      generalize swr C a b i (b + i) = x2 at *
      obtain ⟨p1, hp1⟩ : ∃ p, p = a + i := ⟨_, rfl⟩
      obtain ⟨p2, hp2⟩ : ∃ p, p = b + i := ⟨_, rfl⟩
      rw [← hp1] at w1 c1 z1 c3 c4 z3 z4 i1 HS HS2 HE
      rw [← hp2] at w2 c2 z2 c3 c4 z3 z4 i2 HS HS2 HE
      clear hir hp1 hp2
      go_wp2_with fail
      go_region
      have HR : Hid (∀ o, o = ((wr.setCell ⟨blk, p1, none⟩ (.int .i64 (x2 : Int))).setCell ⟨blk, p2, none⟩ (.int .i64 (x1 : Int))).drew → IR w0 B blk n cap o (swr C a b (i + 1))) := fun o e => by rw [e, ← HE.out]; exact HS.out.drew1
      clear HS HS2 HE c1 c2 c3 c4 z1 z2 z3 z4
      go_wp2
      exact ⟨⟨i + 1, by go_num, by omega, HR.out _ rfl⟩, by simp [intOf]; omega⟩
    · have hd : decide ((i : Int) < m) = false := by simpa using hi
      obtain rfl : i = m := by omega
      go_wp2
      go_end0
      exact ⟨rfl, HI.out⟩
set_option maxRecDepth 100000 in
theorem rotate_any (w0 : World) (B blk n cap : Nat) (fv : Value) (a m b : Nat) (C : Nat → Nat) (w : World) (h : IR w0 B blk n cap w C) (hn : n ≤ 1000) (h1 : a < m) (h2 : m < b) (h3 : b ≤ n) :
    Calls Tryz.prog 255 #[.slice (some ⟨blk, 0, none⟩) n cap, .int .i64 a, .int .i64 m, .int .i64 b, fv] w fun e w' => e = .returned (.tuple #[]) ∧ IR w0 B blk n cap w' (rot C a m b) := by
  have H := hide h
  have v1 : IntKind.i64.wrap ((m : Int) - a) = ((m - a : Nat) : Int) := by rw [IntWalk.i64_in _ (by omega)]; omega
  have v2 : IntKind.i64.wrap ((b : Int) - m) = ((b - m : Nat) : Int) := by rw [IntWalk.i64_in _ (by omega)]; omega
  clear h
  go_enter Tryz.func255, Tryz.ntmps255
  go_wp2
  go_loopw [10, 11] (fun r10 r11 wr => ∃ (i j : Nat) (D : Nat → Nat), r10 = .int .i64 i ∧ r11 = .int .i64 j ∧ 0 < i ∧ 0 < j ∧ i ≤ m ∧ m + j ≤ n ∧ IR w0 B blk n cap wr D ∧ rot D (m - i) m (m + j) = rot C a m b) (fun r10 r11 _ => (intOf r10).toNat + (intOf r11).toNat)
  case atStart => exact ⟨m - a, b - m, C, rfl, rfl, by omega, by omega, by omega, by omega, H.out, by congr 1 <;> omega⟩
  case round =>
    obtain ⟨i, j, D, rfl, rfl, hi0, hj0, him, hjn, hir, hrot⟩ := hrel
    have HI := hide hir
    have HRT := hide hrot
    clear hir hrot v1 v2
    have v1 : IntKind.i64.wrap ((m : Int) - i) = ((m - i : Nat) : Int) := by rw [IntWalk.i64_in _ (by omega)]; omega
    rcases Nat.lt_trichotomy i j with c | c | c
    · have hd : ((i : Int) != j) = true := by simp; omega
      have hd2 : decide ((i : Int) > j) = false := by simp; omega
      have hd3 : decide ((j : Int) < i) = false := by simp; omega
      have v2 : IntKind.i64.wrap ((m : Int) + j) = ((m + j : Nat) : Int) := by rw [IntWalk.i64_in _ (by omega)]; omega
      have v3 : IntKind.i64.wrap (((m + j : Nat) : Int) - i) = ((m + j - i : Nat) : Int) := by rw [IntWalk.i64_in _ (by omega)]; omega
      have v4 : IntKind.i64.wrap ((j : Int) - i) = ((j - i : Nat) : Int) := by rw [IntWalk.i64_in _ (by omega)]; omega
      have HC := hide (swapRange_any w0 B blk n cap fv (m - i) (m + j - i) i D wr HI.out hn (by omega) (by omega))
      have HE := hide (rot_lt D i j m him c)
      generalize m + j - i = p3 at *
      generalize hp4 : j - i = p4 at *
      generalize hp2 : m + j = p2 at *
      generalize hp1 : m - i = p1 at *
      go_wp2_with (go_at_call 256; refine HC.out.mono ?_)
      rintro e w1 ⟨rfl, hir1⟩
      have HI1 := hide hir1
      clear hir1 HC
      go_wp2
      exact ⟨⟨i, p4, _, rfl, rfl, hi0, by omega, him, by omega, HI1.out, by rw [hp1, HE.out, HRT.out]⟩, by simp [intOf]; omega⟩
    · subst c
      have hd : ((i : Int) != i) = false := by simp
      have HC := hide (swapRange_any w0 B blk n cap fv (m - i) m i D wr HI.out hn (by omega) (by omega))
      have HE := hide (rot_eq D i m him)
      generalize m - i = p1 at *
      go_wp2_with (go_at_call 256; refine HC.out.mono ?_)
      rintro e w1 ⟨rfl, hir1⟩
      have HI1 := hide hir1
      clear hir1 HC
      go_wp2
      go_end0
      exact ⟨rfl, by rw [← HRT.out, ← HE.out]; exact HI1.out⟩
    · have hd : ((i : Int) != j) = true := by simp; omega
      have hd2 : decide ((i : Int) > j) = true := by simp; omega
      have hd3 : decide ((j : Int) < i) = true := by simp; omega
      have v4 : IntKind.i64.wrap ((i : Int) - j) = ((i - j : Nat) : Int) := by rw [IntWalk.i64_in _ (by omega)]; omega
      have HC := hide (swapRange_any w0 B blk n cap fv (m - i) m j D wr HI.out hn (by omega) (by omega))
      have HE := hide (rot_gt D i j m him c)
      generalize hp4 : i - j = p4 at *
      generalize m - i = p1 at *
      go_wp2_with (go_at_call 256; refine HC.out.mono ?_)
      rintro e w1 ⟨rfl, hir1⟩
      have HI1 := hide hir1
      clear hir1 HC
      go_wp2
      exact ⟨⟨p4, j, _, rfl, rfl, by omega, hj0, by omega, hjn, HI1.out, by rw [← HRT.out, ← HE.out]⟩, by simp [intOf]; omega⟩
end Go.Proofs.YtchcejjoncihkaaGreatDoor

/- Layer 7: slices.SortStableFunc of ints, walked: the insertion sort of a stretch. -/
namespace Go.Proofs.YtchcejjoncihkaaGreatDoor
set_option linter.unusedVariables false
open Go.RowKit Go.Maps
open Stb

/-- What the function that is handed in answers of two numbers, wherever all but the row is as it was. -/
def Cmps (fn : Nat) (caps : Array Value) (kc : Nat → Nat → Int) (S : Nat → Prop) (w0 : World) (blk : Nat) : Prop :=
  ∀ w : World, Below blk w0 w → ∀ x y, S x → S y →
    Calls Tryz.prog fn (#[.int .i64 (x : Int), .int .i64 (y : Int)] ++ caps) w fun e w' => e = .returned (.int .i64 (kc x y)) ∧ ∃ q, w' = w.drewN q
structure Odr (kc : Nat → Nat → Int) (lt : Nat → Nat → Prop) : Prop where
  neg : ∀ x y, y < x → kc x y < 0 → lt x y
  pos : ∀ x y, y < x → ¬ kc x y < 0 → lt y x
  tr : ∀ x y z, lt x y → lt y z → lt x z
theorem Cmps.quiet {fn : Nat} {caps : Array Value} {kc : Nat → Nat → Int} {S : Nat → Prop} {w0 : World} {blk B n cap : Nat} (h : Cmps fn caps kc S w0 blk) {w : World} {C : Nat → Nat} (hir : IR w0 B blk n cap w C) (x y : Nat) (hx : S x) (hy : S y) (k : Nat) :
    Calls Tryz.prog fn (#[.int .i64 (x : Int), .int .i64 (y : Int)] ++ caps) (w.drewN k) fun e w' => e = .returned (.int .i64 (kc x y)) ∧ ∃ q, w' = w.drewN q := by
  refine (h (w.drewN k) (hir.drew k).bel x y hx hy).mono ?_
  rintro e w' ⟨rfl, q, rfl⟩
  exact ⟨rfl, k + q, World.drewN_drewN w k q⟩
theorem rot_all {S : Nat → Prop} {C : Nat → Nat} {n s m e : Nat} (h : ∀ k, k < n → S (C k)) (h1 : s ≤ m) (h2 : m ≤ e) (h3 : e ≤ n) : ∀ k, k < n → S (rot C s m e k) := fun k hk => by
  obtain ⟨j, _, j2, e⟩ := (In.rot (C := C) (a := 0) (Nat.zero_le _) h1 h2 h3).1 ⟨k, Nat.zero_le _, hk, rfl⟩
  rw [← e]; exact h j j2
theorem Mg.all {lt : Nat → Nat → Prop} {S : Nat → Prop} {C D : Nat → Nat} {n a b : Nat} (h : Mg lt C D a b) (hb : b ≤ n) (hs : ∀ k, k < n → S (C k)) : ∀ k, k < n → S (D k) := fun k hk => by
  by_cases c : k < a ∨ b ≤ k
  · rw [h.out k c]; exact hs k hk
  · obtain ⟨j, _, j2, e⟩ := (h.inn _).1 ⟨k, by omega, by omega, rfl⟩
    rw [← e]; exact hs j (by omega)
set_option maxRecDepth 100000 in
set_option maxHeartbeats 4000000 in
theorem insertion_any (w0 : World) (B blk n cap : Nat) (fn : Nat) (caps : Array Value) (kc : Nat → Nat → Int) (lt : Nat → Nat → Prop) (S : Nat → Prop) (a b : Nat) (C : Nat → Nat) (w : World)
    (hen : ∀ (args : Array Value) (w : World), (callFunc fn args).run Tryz.prog w = .ok (.enter fn args) w) (hq : Cmps fn caps kc S w0 blk) (ho : Odr kc lt)
    (h : IR w0 B blk n cap w C) (hn : n ≤ 1000) (hab : a ≤ b) (hb : b ≤ n) (hS : ∀ k, k < n → S (C k)) (hc : ∀ i j, a ≤ i → i < j → j < b → C i < C j) :
    Calls Tryz.prog 249 #[.slice (some ⟨blk, 0, none⟩) n cap, .int .i64 a, .int .i64 b, .func (.func fn) #[] caps] w fun e w' => e = .returned (.tuple #[]) ∧ ∃ D, IR w0 B blk n cap w' D ∧ Mg lt C D a b := by
  have H := hide h
  have HQ := hide hq
  have HO := hide ho
  have HS := hide hS
  have HC := hide hc
  have v1 : IntKind.i64.wrap ((a : Int) + 1) = ((a + 1 : Nat) : Int) := by rw [IntWalk.i64_in _ (by omega)]; omega
  clear h hq ho hS hc
  go_enter Tryz.func249, Tryz.ntmps249
  go_wp2
  go_loopw [8, 9] (fun r _ wr => ∃ (i : Nat) (D : Nat → Nat), r = .int .i64 i ∧ a < i ∧ (i ≤ b ∨ (i = a + 1 ∧ D = C)) ∧ IR w0 B blk n cap wr D ∧ Mg lt C D a i) (fun r _ _ => b - (intOf r).toNat)
  case atStart => exact ⟨a + 1, C, rfl, by omega, .inr ⟨rfl, rfl⟩, H.out, fun _ _ => rfl, fun _ => Iff.rfl, fun i j h1 h2 h3 => by omega⟩
  case round =>
    obtain ⟨i, D, rfl, hai, hib, hir, hmg⟩ := hrel
    have HM := hide hmg
    by_cases hi : i < b
    · have hd : decide ((i : Int) < b) = true := by simpa using hi
      have HI := hide hir
      have HI0 : Hid (IR w0 B blk n cap wr (rot D i i (i + 1))) := by
        show IR _ _ _ _ _ _ _
        rw [rot_none D i i (i + 1) (Nat.le_refl _) (by omega) (.inl rfl)]; exact hir
      have HDS := hide (Mg.all hmg (by omega) HS.out)
      have HDX : Hid (∀ k, a ≤ k → k < i → D k < D i) := fun k k1 k2 => by
        obtain ⟨p, p1, p2, p3⟩ := (hmg.inn _).1 ⟨k, k1, k2, rfl⟩
        rw [← p3, hmg.out i (.inr (Nat.le_refl _))]
        exact HC.out p i p1 p2 hi
      clear hir hmg hib v1
      obtain ⟨W, rfl⟩ : ∃ W, W = wr := ⟨wr, rfl⟩
      go_wp2
      go_loopw [9] (fun r wr => ∃ j : Nat, r = .int .i64 j ∧ a ≤ j ∧ j ≤ i ∧ IR w0 B blk n cap wr (rot D j i (i + 1)) ∧ (j = i ∨ lt (D i) (D j))) (fun r _ => (intOf r).toNat)
      case atStart => exact ⟨i, rfl, by omega, Nat.le_refl _, HI0.out, .inl rfl⟩
      case round =>
        obtain ⟨j, rfl, haj, hji, hir, hlt⟩ := hrel
        have HLT := hide hlt
        have HJ := hide hir
        by_cases hj : a < j
        · have hdj : decide ((j : Int) > a) = true := by simpa using hj
          have hdj2 : decide ((a : Int) < j) = true := by simpa using hj
          obtain ⟨t, hjt⟩ : ∃ t, j = t + 1 := ⟨j - 1, by omega⟩
          have HJT := hide hjt
          have v1 : IntKind.i64.wrap ((j : Int) - 1) = (t : Int) := by rw [IntWalk.i64_in _ (by omega)]; omega
          have e1 : rot D j i (i + 1) j = D i := by rw [rot_one D (Nat.le_refl _) (by omega)]; congr 1; omega
          have e2 : rot D j i (i + 1) t = D t := rot_out D hji (by omega) (.inl (by omega))
          have HSW := hide (fun q => hir.drew q)
          have c1 := hir.cell (k := j) (by omega)
          have c2 := hir.cell (k := t) (by omega)
          have HRD : Hid (swp (rot D j i (i + 1)) j t = rot D t i (i + 1)) := by rw [hjt]; exact rot_down D t i (by omega)
          rw [e1] at c1
          rw [e2] at c2
          have HQ1 := hide (HQ.out.quiet hir (D i) (D t) (HDS.out i (by omega)) (HDS.out t (by omega)))
          have hx := HDX.out t (by omega) (by omega)
          have HNEG := hide (HO.out.neg _ _ hx)
          have HPOS := hide (HO.out.pos _ _ hx)
          have i1 : (j : Int) < n := by omega
          have i2 : (t : Int) < n := by omega
          generalize hx1 : D i = x1 at *
          generalize hx2 : D t = x2 at *
          generalize kc x1 x2 = z at *
          have HX2 := hide hx2
          have HX1 := hide hx1
          have HE1 := hide e1
          have HE2 := hide e2
          clear hir hlt hx e1 e2 hx2 hx1 hjt
          by_cases hz : z < 0
          · have hdz : decide (z < 0) = true := by simpa using hz
            have HN := hide (HNEG.out hz)
            clear HNEG HPOS hz
            go_wp2_with fail
            go_quiet ((exact HQ1.out _))
            obtain ⟨w2, hw2⟩ : ∃ w2, w2 = wr.drewN nq := ⟨_, rfl⟩
            rw [← hw2]
            have hir2 : IR w0 B blk n cap w2 (rot D j i (i + 1)) := by rw [hw2]; exact HSW.out nq
            have hjt : j ≠ t := by have := HJT.out; omega
            obtain ⟨c1, c2, z1, z2, c3, c4, z3, z4⟩ := hir2.swaps (i := j) (j := t) (by omega) (by omega) hjt
            have HS2 := hide (hir2.swap j t hjt)
            rw [HE1.out] at c1 c4 z4 HS2
            rw [HE2.out] at c2 c3 z3 HS2
            clear hir2 hw2 hjt
            go_wp2_with fail
            go_region
            have HR : Hid (∀ o, o = ((w2.setCell ⟨blk, j, none⟩ (.int .i64 (x2 : Int))).setCell ⟨blk, t, none⟩ (.int .i64 (x1 : Int))).drew → IR w0 B blk n cap o (rot D t i (i + 1))) := fun o e => by rw [e, ← HRD.out]; exact HS2.out.drew1
            clear c1 c2 z1 z2 c3 c4 z3 z4 HS2
            go_wp2
            have := HJT.out
            exact ⟨⟨t, rfl, by omega, by omega, HR.out _ rfl, .inr (by rw [HX2.out]; exact HN.out)⟩, by simp [intOf]; omega⟩
          · have hdz : decide (z < 0) = false := by simpa using hz
            have HP := hide (HPOS.out hz)
            clear HNEG HPOS hz
            go_wp2_with fail
            go_quiet ((exact HQ1.out _))
            have HR : Hid (∀ o, o = wr.drewN nq → IR w0 B blk n cap o (rot D j i (i + 1))) := fun o e => by rw [e]; exact HSW.out nq
            have HFIN := hide (HM.out.more (by omega) (mg_down HO.out.tr HM.out.srd haj hji (.inr (by rw [show j - 1 = t by have := HJT.out; omega, HX2.out, HX1.out]; exact HP.out)) (by rw [HX1.out]; exact HLT.out)))
            go_wp2
            exact ⟨⟨i + 1, _, by go_num, by omega, .inl (by omega), HR.out _ rfl, HFIN.out⟩, by simp [intOf]; omega⟩
        · have hdj : decide ((j : Int) > a) = false := by simpa using hj
          have hdj2 : decide ((a : Int) < j) = false := by simpa using hj
          have HFIN := hide (HM.out.more (by omega) (mg_down HO.out.tr HM.out.srd haj hji (.inl (by omega)) HLT.out))
          have HSW := hide (fun q => hir.drew q)
          clear hir hlt
          go_wp2_with fail
          go_quiet (fail)
          have HR : Hid (∀ o, o = wr.drewN nq → IR w0 B blk n cap o (rot D j i (i + 1))) := fun o e => by rw [e]; exact HSW.out nq
          go_wp2
          exact ⟨⟨i + 1, _, by go_num, by omega, .inl (by omega), HR.out _ rfl, HFIN.out⟩, by simp [intOf]; omega⟩
    · have hd : decide ((i : Int) < b) = false := by simpa using hi
      go_wp2
      go_end0
      refine ⟨rfl, D, hir, ?_⟩
      rcases hib with c | ⟨c, rfl⟩
      · obtain rfl : i = b := by omega
        exact hmg
      · exact ⟨fun _ _ => rfl, fun _ => Iff.rfl, fun i j h1 h2 h3 => by omega⟩
end Go.Proofs.YtchcejjoncihkaaGreatDoor

/- Layer 7: slices.SortStableFunc of ints, walked: two stretches in order merged, where one of them is a single one. -/
namespace Go.Proofs.YtchcejjoncihkaaGreatDoor
set_option linter.unusedVariables false
open Go.RowKit Go.Maps
open Stb

set_option maxRecDepth 100000 in
set_option maxHeartbeats 4000000 in
theorem symMerge_up (w0 : World) (B blk n cap : Nat) (fn : Nat) (caps : Array Value) (kc : Nat → Nat → Int) (lt : Nat → Nat → Prop) (S : Nat → Prop) (a m b : Nat) (C : Nat → Nat) (w : World)
    (hen : ∀ (args : Array Value) (w : World), (callFunc fn args).run Tryz.prog w = .ok (.enter fn args) w) (hq : Cmps fn caps kc S w0 blk) (ho : Odr kc lt)
    (h : IR w0 B blk n cap w C) (hn : n ≤ 1000) (hm : m = a + 1) (hmb : m < b) (hb : b ≤ n) (hS : ∀ k, k < n → S (C k)) (h2 : Srd lt C m b) (hx : Idx C a m b) :
    Calls Tryz.prog 250 #[.slice (some ⟨blk, 0, none⟩) n cap, .int .i64 a, .int .i64 m, .int .i64 b, .func (.func fn) #[] caps] w fun e w' => e = .returned (.tuple #[]) ∧ ∃ D, IR w0 B blk n cap w' D ∧ Mg lt C D a b := by
  have H := hide h
  have HQ := hide hq
  have HO := hide ho
  have HS := hide hS
  have H2 := hide h2
  have HX := hide hx
  have HM := hide hm
  have v0 : IntKind.i64.wrap ((m : Int) - a) = 1 := by rw [IntWalk.i64_in _ (by omega)]; omega
  clear h hq ho hS h2 hx hm
  go_enter Tryz.func250, Tryz.ntmps250
  go_wp2
  go_loopw [10, 11, 12] (fun r10 r11 _ wr => ∃ i j : Nat, r10 = .int .i64 i ∧ r11 = .int .i64 j ∧ IR w0 B blk n cap wr C ∧ m ≤ i ∧ i ≤ j ∧ j ≤ b ∧ (i = m ∨ lt (C (i - 1)) (C a)) ∧ (j = b ∨ lt (C a) (C j))) (fun r10 r11 _ _ => (intOf r11).toNat - (intOf r10).toNat)
  case atStart => exact ⟨m, b, rfl, rfl, H.out, Nat.le_refl _, by omega, Nat.le_refl _, .inl rfl, .inl rfl⟩
  case round =>
    obtain ⟨i, j, rfl, rfl, hir, hmi, hij, hjb, hl, hr⟩ := hrel
    have HI := hide hir
    have HL := hide hl
    have HR := hide hr
    clear hl hr hir
    by_cases hlt : i < j
    · have hd : decide ((i : Int) < j) = true := by simpa using hlt
      obtain ⟨t, ht⟩ : ∃ t, t = (i + j) / 2 := ⟨_, rfl⟩
      have vh : ((i : Int) + j) / 2 = (t : Int) := by omega
      have t1 : i ≤ t := by omega
      have t2 : t < j := by omega
      have c1 := HI.out.cell (k := t) (by omega)
      have c2 := HI.out.cell (k := a) (by have := HM.out; omega)
      have i1 : (t : Int) < n := by omega
      have i2 : (a : Int) < n := by have := HM.out; omega
      have hx := HX.out a t (Nat.le_refl _) (by have := HM.out; omega) (by omega) (by omega)
      have HNEG := hide (HO.out.neg _ _ hx)
      have HPOS := hide (HO.out.pos _ _ hx)
      have HQ1 := hide (HQ.out.quiet HI.out (C t) (C a) (HS.out t (by omega)) (HS.out a (by have := HM.out; omega)))
      generalize hx1 : C t = x1 at *
      generalize hx2 : C a = x2 at *
      generalize kc x1 x2 = z at *
      have HX1 := hide hx1
      clear hx1 hx2 hx ht
      by_cases hz : z < 0
      · have hdz : decide (z < 0) = true := by simpa using hz
        have HN := hide (HNEG.out hz)
        clear HNEG HPOS hz
        go_wp2_with fail
        go_quiet ((exact HQ1.out _))
        have HI2 : Hid (∀ o, o = wr.drewN nq → IR w0 B blk n cap o C) := fun o e => by rw [e]; exact HI.out.drew nq
        go_wp2
        exact ⟨⟨t + 1, j, by go_num, rfl, HI2.out _ rfl, by omega, by omega, hjb, .inr (by rw [show t + 1 - 1 = t by omega, HX1.out]; exact HN.out), HR.out⟩, by simp [intOf]; omega⟩
      · have hdz : decide (z < 0) = false := by simpa using hz
        have HP := hide (HPOS.out hz)
        clear HNEG HPOS hz
        go_wp2_with fail
        go_quiet ((exact HQ1.out _))
        have HI2 : Hid (∀ o, o = wr.drewN nq → IR w0 B blk n cap o C) := fun o e => by rw [e]; exact HI.out.drew nq
        go_wp2
        exact ⟨⟨i, t, rfl, rfl, HI2.out _ rfl, hmi, by omega, by omega, HL.out, .inr (by rw [HX1.out]; exact HP.out)⟩, by simp [intOf]; omega⟩
    · have hd : decide ((i : Int) < j) = false := by simpa using hlt
      have hij' : i = j := by omega
      have HF : Hid (Mg lt C (rot C a m i) a b) := by
        have e := HM.out
        subst e
        exact mg_up HO.out.tr H2.out hmi (by omega) HL.out (by rw [hij']; exact HR.out)
      have HI0 := HI
      obtain ⟨s, hs⟩ : ∃ s, i = s + 1 := ⟨i - 1, by have := HM.out; omega⟩
      have HSI := hide hs
      have hsa : a ≤ s := by have := HM.out; omega
      have hsn : s < n := by omega
      have vs : IntKind.i64.wrap ((i : Int) - 1) = (s : Int) := by rw [IntWalk.i64_in _ (by omega)]; omega
      clear hij' hs HL HR hmi hij hjb
      obtain ⟨W, rfl⟩ : ∃ W, W = wr := ⟨wr, rfl⟩
      go_wp2
      go_loopw [13] (fun r wr => ∃ k : Nat, r = .int .i64 k ∧ a ≤ k ∧ k ≤ s ∧ IR w0 B blk n cap wr (rot C a m (k + 1))) (fun r _ => s - (intOf r).toNat)
      case atStart => exact ⟨a, rfl, Nat.le_refl _, hsa, by rw [rot_none C a m (a + 1) (by have := HM.out; omega) (by have := HM.out; omega) (.inr HM.out.symm)]; exact HI0.out⟩
      case round =>
        obtain ⟨k, rfl, hak, hks, hir⟩ := hrel
        by_cases hk : k < s
        · have hdk : decide ((k : Int) < s) = true := by simpa using hk
          obtain ⟨p, hp⟩ : ∃ p, p = k + 1 := ⟨_, rfl⟩
          have vp : IntKind.i64.wrap ((k : Int) + 1) = (p : Int) := by rw [IntWalk.i64_in _ (by omega)]; omega
          have HP := hide hp
          obtain ⟨c1, c2, z1, z2, c3, c4, z3, z4⟩ := hir.swaps (i := k) (j := p) (by omega) (by omega) (by omega)
          have hsw := hir.swap k p (by omega)
          have e : swp (rot C a m (k + 1)) k p = rot C a m (p + 1) := by rw [HM.out, hp]; exact rot_up C a k hak
          rw [e] at hsw
          have HS2 := hide hsw
          have i1 : (k : Int) < n := by omega
          have i2 : (p : Int) < n := by omega
          generalize rot C a m (k + 1) k = x1 at *
          generalize rot C a m (k + 1) p = x2 at *
          clear hir hp e hsw
          go_wp2_with fail
          go_region
          have HR : Hid (∀ o, o = ((wr.setCell ⟨blk, k, none⟩ (.int .i64 (x2 : Int))).setCell ⟨blk, p, none⟩ (.int .i64 (x1 : Int))).drew → IR w0 B blk n cap o (rot C a m (p + 1))) := fun o e => by rw [e]; exact HS2.out.drew1
          clear c1 c2 z1 z2 c3 c4 z3 z4 HS2
          go_wp2
          have := HP.out
          exact ⟨⟨p, rfl, by omega, by omega, HR.out _ rfl⟩, by simp [intOf]; omega⟩
        · have hdk : decide ((k : Int) < s) = false := by simpa using hk
          have HJ := hide hir
          have e : k = s := by omega
          have HE := hide e
          clear hir e
          go_wp2
          refine bodyPost_ret (results_none rfl _ _ _) rfl ?_
          exact ⟨rfl, _, HJ.out, by rw [HE.out, ← HSI.out]; exact HF.out⟩
set_option maxRecDepth 100000 in
set_option maxHeartbeats 4000000 in
theorem symMerge_down (w0 : World) (B blk n cap : Nat) (fn : Nat) (caps : Array Value) (kc : Nat → Nat → Int) (lt : Nat → Nat → Prop) (S : Nat → Prop) (a m b : Nat) (C : Nat → Nat) (w : World)
    (hen : ∀ (args : Array Value) (w : World), (callFunc fn args).run Tryz.prog w = .ok (.enter fn args) w) (hq : Cmps fn caps kc S w0 blk) (ho : Odr kc lt)
    (h : IR w0 B blk n cap w C) (hn : n ≤ 1000) (ham : a + 1 < m) (hm : b = m + 1) (hb : b ≤ n) (hS : ∀ k, k < n → S (C k)) (h1 : Srd lt C a m) (hx : Idx C a m b) :
    Calls Tryz.prog 250 #[.slice (some ⟨blk, 0, none⟩) n cap, .int .i64 a, .int .i64 m, .int .i64 b, .func (.func fn) #[] caps] w fun e w' => e = .returned (.tuple #[]) ∧ ∃ D, IR w0 B blk n cap w' D ∧ Mg lt C D a b := by
  have H := hide h
  have HQ := hide hq
  have HO := hide ho
  have HS := hide hS
  have H1 := hide h1
  have HX := hide hx
  have HM := hide hm
  have hmn : m < n := by omega
  obtain ⟨d, hd⟩ : ∃ d, d = m - a := ⟨_, rfl⟩
  have v0 : IntKind.i64.wrap ((m : Int) - a) = (d : Int) := by rw [IntWalk.i64_in _ (by omega)]; omega
  have v1 : ((d : Int) == 1) = false := by simp; omega
  have v1' : ¬ d = 1 := by omega
  have v2 : IntKind.i64.wrap ((b : Int) - m) = 1 := by rw [IntWalk.i64_in _ (by omega)]; omega
  clear h hq ho hS h1 hx hm hd
  go_enter Tryz.func250, Tryz.ntmps250
  go_wp2
  go_loopw [14, 15, 16] (fun r10 r11 _ wr => ∃ i j : Nat, r10 = .int .i64 i ∧ r11 = .int .i64 j ∧ IR w0 B blk n cap wr C ∧ a ≤ i ∧ i ≤ j ∧ j ≤ m ∧ (i = a ∨ lt (C (i - 1)) (C m)) ∧ (j = m ∨ lt (C m) (C j))) (fun r10 r11 _ _ => (intOf r11).toNat - (intOf r10).toNat)
  case atStart => exact ⟨a, m, rfl, rfl, H.out, Nat.le_refl _, by omega, Nat.le_refl _, .inl rfl, .inl rfl⟩
  case round =>
    obtain ⟨i, j, rfl, rfl, hir, hmi, hij, hjb, hl, hr⟩ := hrel
    have HI := hide hir
    have HL := hide hl
    have HR := hide hr
    clear hl hr hir
    by_cases hlt : i < j
    · have hd : decide ((i : Int) < j) = true := by simpa using hlt
      obtain ⟨t, ht⟩ : ∃ t, t = (i + j) / 2 := ⟨_, rfl⟩
      have vh : ((i : Int) + j) / 2 = (t : Int) := by omega
      have t1 : i ≤ t := by omega
      have t2 : t < j := by omega
      have c1 := HI.out.cell (k := m) hmn
      have c2 := HI.out.cell (k := t) (by omega)
      have i1 : (t : Int) < n := by omega
      have i2 : (m : Int) < n := by omega
      have hx := HX.out t m (by omega) (by omega) (by omega) (by have := HM.out; omega)
      have HNEG := hide (HO.out.neg _ _ hx)
      have HPOS := hide (HO.out.pos _ _ hx)
      have HQ1 := hide (HQ.out.quiet HI.out (C m) (C t) (HS.out m hmn) (HS.out t (by omega)))
      generalize hx1 : C t = x1 at *
      generalize hx2 : C m = x2 at *
      generalize kc x2 x1 = z at *
      have HX1 := hide hx1
      clear hx1 hx2 hx ht
      by_cases hz : z < 0
      · have hdz : decide (z < 0) = true := by simpa using hz
        have HN := hide (HNEG.out hz)
        clear HNEG HPOS hz
        go_wp2_with fail
        go_quiet ((exact HQ1.out _))
        have HI2 : Hid (∀ o, o = wr.drewN nq → IR w0 B blk n cap o C) := fun o e => by rw [e]; exact HI.out.drew nq
        go_wp2
        exact ⟨⟨i, t, rfl, rfl, HI2.out _ rfl, hmi, by omega, by omega, HL.out, .inr (by rw [HX1.out]; exact HN.out)⟩, by simp [intOf]; omega⟩
      · have hdz : decide (z < 0) = false := by simpa using hz
        have HP := hide (HPOS.out hz)
        clear HNEG HPOS hz
        go_wp2_with fail
        go_quiet ((exact HQ1.out _))
        have HI2 : Hid (∀ o, o = wr.drewN nq → IR w0 B blk n cap o C) := fun o e => by rw [e]; exact HI.out.drew nq
        go_wp2
        exact ⟨⟨t + 1, j, by go_num, rfl, HI2.out _ rfl, by omega, by omega, hjb, .inr (by rw [show t + 1 - 1 = t by omega, HX1.out]; exact HP.out), HR.out⟩, by simp [intOf]; omega⟩
    · have hd : decide ((i : Int) < j) = false := by simpa using hlt
      have hij' : i = j := by omega
      have him : i ≤ m := by omega
      have HF : Hid (Mg lt C (rot C i m b) a b) := by
        have e := HM.out
        subst e
        exact mg_down HO.out.tr H1.out hmi (by omega) HL.out (by rw [hij']; exact HR.out)
      clear hij' HL HR hij hjb
      obtain ⟨W, rfl⟩ : ∃ W, W = wr := ⟨wr, rfl⟩
      go_wp2
      go_loopw [17] (fun r wr => ∃ k : Nat, r = .int .i64 k ∧ i ≤ k ∧ k ≤ m ∧ IR w0 B blk n cap wr (rot C k m b)) (fun r _ => (intOf r).toNat)
      case atStart => exact ⟨m, rfl, him, Nat.le_refl _, by rw [rot_none C m m b (Nat.le_refl _) (by have := HM.out; omega) (.inl rfl)]; exact HI.out⟩
      case round =>
        obtain ⟨k, rfl, hak, hks, hir⟩ := hrel
        by_cases hk : i < k
        · have hdk : decide ((k : Int) > i) = true := by simpa using hk
          have hdk2 : decide ((i : Int) < k) = true := by simpa using hk
          obtain ⟨p, hp⟩ : ∃ p, k = p + 1 := ⟨k - 1, by omega⟩
          have vp : IntKind.i64.wrap ((k : Int) - 1) = (p : Int) := by rw [IntWalk.i64_in _ (by omega)]; omega
          have HP := hide hp
          obtain ⟨c1, c2, z1, z2, c3, c4, z3, z4⟩ := hir.swaps (i := k) (j := p) (by omega) (by omega) (by omega)
          have hsw := hir.swap k p (by omega)
          have e : swp (rot C k m b) k p = rot C p m b := by rw [HM.out, hp]; exact rot_down C p m (by omega)
          rw [e] at hsw
          have HS2 := hide hsw
          have i1 : (k : Int) < n := by omega
          have i2 : (p : Int) < n := by omega
          generalize rot C k m b k = x1 at *
          generalize rot C k m b p = x2 at *
          clear hir hp e hsw
          go_wp2_with fail
          go_region
          have HR : Hid (∀ o, o = ((wr.setCell ⟨blk, k, none⟩ (.int .i64 (x2 : Int))).setCell ⟨blk, p, none⟩ (.int .i64 (x1 : Int))).drew → IR w0 B blk n cap o (rot C p m b)) := fun o e => by rw [e]; exact HS2.out.drew1
          clear c1 c2 z1 z2 c3 c4 z3 z4 HS2
          go_wp2
          have := HP.out
          exact ⟨⟨p, rfl, by omega, by omega, HR.out _ rfl⟩, by simp [intOf]; omega⟩
        · have hdk : decide ((k : Int) > i) = false := by simpa using hk
          have hdk2 : decide ((i : Int) < k) = false := by simpa using hk
          have HJ := hide hir
          have e : k = i := by omega
          have HE := hide e
          clear hir e
          go_wp2
          refine bodyPost_ret (results_none rfl _ _ _) rfl ?_
          exact ⟨rfl, _, HJ.out, by rw [HE.out]; exact HF.out⟩
end Go.Proofs.YtchcejjoncihkaaGreatDoor

/- Layer 7: slices.SortStableFunc of ints, walked: two stretches in order merged. -/
namespace Go.Proofs.YtchcejjoncihkaaGreatDoor
set_option linter.unusedVariables false
open Go.RowKit Go.Maps
open Stb

/-- What a merge of two stretches answers. -/
def Merges (w0 : World) (B blk n cap fn : Nat) (caps : Array Value) (lt : Nat → Nat → Prop) (S : Nat → Prop) (a m b : Nat) : Prop :=
  ∀ (C : Nat → Nat) (w : World), IR w0 B blk n cap w C → (∀ k, k < n → S (C k)) → Srd lt C a m → Srd lt C m b → Idx C a m b →
    Calls Tryz.prog 250 #[.slice (some ⟨blk, 0, none⟩) n cap, .int .i64 a, .int .i64 m, .int .i64 b, .func (.func fn) #[] caps] w fun e w' => e = .returned (.tuple #[]) ∧ ∃ D, IR w0 B blk n cap w' D ∧ Mg lt C D a b
set_option maxRecDepth 100000 in
set_option maxHeartbeats 4000000 in
theorem symMerge_mid (w0 : World) (B blk n cap : Nat) (fn : Nat) (caps : Array Value) (kc : Nat → Nat → Int) (lt : Nat → Nat → Prop) (S : Nat → Prop) (a m b : Nat) (C : Nat → Nat) (w : World)
    (hen : ∀ (args : Array Value) (w : World), (callFunc fn args).run Tryz.prog w = .ok (.enter fn args) w) (hq : Cmps fn caps kc S w0 blk) (ho : Odr kc lt)
    (hrec : ∀ a' m' b', a' < m' → m' < b' → b' ≤ n → b' - a' < b - a → Merges w0 B blk n cap fn caps lt S a' m' b')
    (h : IR w0 B blk n cap w C) (hn : n ≤ 1000) (ham : a + 1 < m) (hmb : m + 1 < b) (hb : b ≤ n) (hS : ∀ k, k < n → S (C k)) (h1 : Srd lt C a m) (h2 : Srd lt C m b) (hx : Idx C a m b) :
    Calls Tryz.prog 250 #[.slice (some ⟨blk, 0, none⟩) n cap, .int .i64 a, .int .i64 m, .int .i64 b, .func (.func fn) #[] caps] w fun e w' => e = .returned (.tuple #[]) ∧ ∃ D, IR w0 B blk n cap w' D ∧ Mg lt C D a b := by
  have H := hide h
  have HQ := hide hq
  have HO := hide ho
  have HS := hide hS
  have H1 := hide h1
  have H2 := hide h2
  have HX := hide hx
  have HREC := hide hrec
  obtain ⟨d, hd⟩ : ∃ d, d = m - a := ⟨_, rfl⟩
  obtain ⟨d', hd'⟩ : ∃ d, d = b - m := ⟨_, rfl⟩
  have v0 : IntKind.i64.wrap ((m : Int) - a) = (d : Int) := by rw [IntWalk.i64_in _ (by omega)]; omega
  have v1 : ((d : Int) == 1) = false := by simp; omega
  have v1' : ¬ d = 1 := by omega
  have v2 : IntKind.i64.wrap ((b : Int) - m) = (d' : Int) := by rw [IntWalk.i64_in _ (by omega)]; omega
  have v3 : ((d' : Int) == 1) = false := by simp; omega
  have v3' : ¬ d' = 1 := by omega
  obtain ⟨mid, hmid⟩ : ∃ t, t = (a + b) / 2 := ⟨_, rfl⟩
  have vh : ((a : Int) + b) / 2 = (mid : Int) := by omega
  obtain ⟨N, hN⟩ : ∃ t, t = mid + m := ⟨_, rfl⟩
  have vN : IntKind.i64.wrap ((mid : Int) + m) = (N : Int) := by rw [IntWalk.i64_in _ (by omega)]; omega
  have q1 : a < mid := by omega
  have q2 : mid < b := by omega
  have q3 : 2 * mid ≤ a + b := by omega
  have q4 : a + b ≤ 2 * mid + 1 := by omega
  have HN := hide hN
  clear h hq ho hS h1 h2 hx hrec hd hd' hmid hN
  go_enter Tryz.func250, Tryz.ntmps250
  go_upto_if 140 with fail
  go_cut [20, 21] from 138 (fun s20 s21 wx => ∃ lo r0 : Nat, s20 = .int .i64 lo ∧ s21 = .int .i64 r0 ∧ wx = w ∧ a ≤ lo ∧ lo ≤ r0 ∧ r0 ≤ m ∧ r0 ≤ mid ∧ N ≤ b + lo ∧ (lo = a ∨ lo + b = N) ∧ (r0 = m ∨ r0 = mid))
  case first =>
    have := HN.out
    by_cases c : mid < m
    · have hd : decide ((m : Int) > mid) = true := by simpa using c
      have hd2 : decide ((mid : Int) < m) = true := by simpa using c
      obtain ⟨lo, hlo⟩ : ∃ t, t = N - b := ⟨_, rfl⟩
      have vl : IntKind.i64.wrap ((N : Int) - b) = (lo : Int) := by rw [IntWalk.i64_in _ (by omega)]; omega
      have HLO := hide hlo
      clear hlo this
      go_wp2_with fail
      go_meet
      have := HN.out
      have := HLO.out
      exact ⟨lo, mid, rfl, rfl, rfl, by omega, by omega, by omega, by omega, by omega, by omega, by omega⟩
    · have hd : decide ((m : Int) > mid) = false := by simpa using c
      have hd2 : decide ((mid : Int) < m) = false := by simpa using c
      clear this
      go_wp2_with fail
      go_meet
      have := HN.out
      exact ⟨a, m, rfl, rfl, rfl, by omega, by omega, by omega, by omega, by omega, by omega, by omega⟩
  case rest =>
    obtain ⟨lo, r0, rfl, rfl, rfl, g1, g2, g3, g4, g5, g6, g7⟩ := hcut
    have HG6 := hide g6
    have HG7 := hide g7
    obtain ⟨p, hp⟩ : ∃ p, N = p + 1 := ⟨N - 1, by have := HN.out; omega⟩
    have vp : IntKind.i64.wrap ((N : Int) - 1) = (p : Int) := by have := HN.out; rw [IntWalk.i64_in _ (by omega)]; omega
    have HP := hide hp
    clear g6 g7 hp
    go_wp2
    go_loopw [20, 21, 23] (fun r20 r21 _ wr => ∃ s r : Nat, r20 = .int .i64 s ∧ r21 = .int .i64 r ∧ IR w0 B blk n cap wr C ∧ lo ≤ s ∧ s ≤ r ∧ r ≤ r0 ∧ (s = lo ∨ lt (C (s - 1)) (C (p - (s - 1)))) ∧ (r = r0 ∨ lt (C (p - r)) (C r))) (fun r20 r21 _ _ => (intOf r21).toNat - (intOf r20).toNat)
    case atStart => exact ⟨lo, r0, rfl, rfl, H.out, Nat.le_refl _, g2, Nat.le_refl _, .inl rfl, .inl rfl⟩
    case round =>
      obtain ⟨s, r, rfl, rfl, hir, hls, hsr, hrr, hl, hr⟩ := hrel
      have HI := hide hir
      have HL := hide hl
      have HR := hide hr
      clear hl hr hir
      by_cases hlt : s < r
      · have hd : decide ((s : Int) < r) = true := by simpa using hlt
        obtain ⟨t, ht⟩ : ∃ t, t = (s + r) / 2 := ⟨_, rfl⟩
        have vh : ((s : Int) + r) / 2 = (t : Int) := by omega
        have t1 : s ≤ t := by omega
        have t2 : t < r := by omega
        obtain ⟨u, hu⟩ : ∃ u, u = p - t := ⟨_, rfl⟩
        have u1 : m ≤ u := by have := HN.out; have := HP.out; omega
        have u2 : u < b := by have := HN.out; have := HP.out; omega
        have vu : IntKind.i64.wrap ((p : Int) - t) = (u : Int) := by have := HN.out; have := HP.out; rw [IntWalk.i64_in _ (by omega)]; omega
        have c1 := HI.out.cell (k := u) (by omega)
        have c2 := HI.out.cell (k := t) (by omega)
        have i1 : (t : Int) < n := by omega
        have i2 : (u : Int) < n := by omega
        have hx := HX.out t u (by omega) (by omega) u1 u2
        have HNEG := hide (HO.out.neg _ _ hx)
        have HPOS := hide (HO.out.pos _ _ hx)
        have HQ1 := hide (HQ.out.quiet HI.out (C u) (C t) (HS.out u (by omega)) (HS.out t (by omega)))
        generalize hx1 : C t = x1 at *
        generalize hx2 : C u = x2 at *
        generalize kc x2 x1 = z at *
        have HX1 := hide hx1
        have HX2 := hide hx2
        have HU := hide hu
        clear hx1 hx2 hx ht hu
        by_cases hz : z < 0
        · have hdz : decide (z < 0) = true := by simpa using hz
          have HNN := hide (HNEG.out hz)
          clear HNEG HPOS hz
          go_wp2_with fail
          go_quiet ((exact HQ1.out _))
          have HI2 : Hid (∀ o, o = wr.drewN nq → IR w0 B blk n cap o C) := fun o e => by rw [e]; exact HI.out.drew nq
          go_wp2
          exact ⟨⟨s, t, rfl, rfl, HI2.out _ rfl, hls, by omega, by omega, HL.out, .inr (by rw [← HU.out, HX1.out, HX2.out]; exact HNN.out)⟩, by simp [intOf]; omega⟩
        · have hdz : decide (z < 0) = false := by simpa using hz
          have HPP := hide (HPOS.out hz)
          clear HNEG HPOS hz
          go_wp2_with fail
          go_quiet ((exact HQ1.out _))
          have HI2 : Hid (∀ o, o = wr.drewN nq → IR w0 B blk n cap o C) := fun o e => by rw [e]; exact HI.out.drew nq
          go_wp2
          exact ⟨⟨t + 1, r, by go_num, rfl, HI2.out _ rfl, by omega, by omega, hrr, .inr (by rw [show t + 1 - 1 = t by omega, ← HU.out, HX1.out, HX2.out]; exact HPP.out), HR.out⟩, by simp [intOf]; omega⟩
      · have hd : decide ((s : Int) < r) = false := by simpa using hlt
        obtain ⟨e, he⟩ : ∃ e, e = N - s := ⟨_, rfl⟩
        have e1 : m ≤ e := by have := HN.out; omega
        have e2 : e ≤ b := by omega
        have e3 : mid ≤ e := by have := HN.out; omega
        have e4 : s ≤ mid := by omega
        have e5 : s ≤ m := by omega
        have e6 : a ≤ s := by omega
        have ve : IntKind.i64.wrap ((N : Int) - s) = (e : Int) := by have := HN.out; rw [IntWalk.i64_in _ (by omega)]; omega
        have HH : Hid (Half lt C (rot C s m e) a s mid e b) := by
          have h1 := HN.out
          have h2 := HP.out
          have h6 := HG6.out
          have h7 := HG7.out
          refine Stb.half HO.out.tr H1.out H2.out HX.out e6 e5 e1 e2 (by omega) ?_ ?_
          · rcases HL.out with c | c
            · omega
            · by_cases c0 : s = a
              · exact .inl c0
              · refine .inr (.inr ?_)
                rw [show p - (s - 1) = e by omega] at c
                exact c
          · rcases HR.out with c | c
            · omega
            · refine .inr (.inr ?_)
              rw [show p - r = e - 1 by omega, show r = s by omega] at c
              exact c
        clear HL HR HG6 HG7 he hls hsr hrr
        obtain ⟨W, rfl⟩ : ∃ W, W = wr := ⟨wr, rfl⟩
        go_upto_region 39 with fail
        go_cut [185] from 178 (fun c wx => ∃ z : Bool, c = .bool z ∧ (z = true ↔ (s < m ∧ m < e)) ∧ wx = W)
        case first =>
          by_cases c1 : s < m
          · have d1 : decide ((s : Int) < m) = true := by simpa using c1
            by_cases c2 : m < e
            · have d2 : decide ((m : Int) < e) = true := by simpa using c2
              go_wp2_with fail
              go_meet
              exact ⟨_, rfl, by simp [c1, c2], rfl⟩
            · have d2 : decide ((m : Int) < e) = false := by simpa using c2
              go_wp2_with fail
              go_meet
              exact ⟨_, rfl, by simp [c1, c2], rfl⟩
          · have d1 : decide ((s : Int) < m) = false := by simpa using c1
            go_wp2_with fail
            go_meet
            exact ⟨_, rfl, by simp [c1], rfl⟩
        case rest =>
          obtain ⟨z, rfl, hz, rfl⟩ := hcut
          have HZ := hide hz
          clear hz
          go_upto_if 185 with fail
          go_cut [] from 186 (fun wx => IR w0 B blk n cap wx (rot C s m e))
          case first =>
            cases z
            case true =>
              have c : s < m ∧ m < e := HZ.out.1 rfl
              have HC := hide (rotate_any w0 B blk n cap (.func (.func fn) #[] caps) s m e C wc HI.out hn c.1 c.2 (by omega))
              clear c
              go_wp2_with (go_at_call 255; refine HC.out.mono ?_; rintro e0 w1 ⟨rfl, hir1⟩; have HI1 := hide hir1; clear hir1 HC)
              go_meet
              exact HI1.out
            case false =>
              have c : ¬ (s < m ∧ m < e) := fun h => by have := HZ.out.2 h; simp at this
              have HI1 : Hid (IR w0 B blk n cap wc (rot C s m e)) := by
                show IR _ _ _ _ _ _ _
                rw [rot_none C s m e e5 e1 (by omega)]; exact HI.out
              clear c
              go_wp2_with fail
              go_meet
              exact HI1.out
          case rest =>
            have HI1 := hide hcut
            have HS1 := hide (rot_all (S := S) HS.out e5 e1 (show e ≤ n by omega))
            clear hcut HI
            generalize rot C s m e = D at *
            obtain ⟨W, rfl⟩ : ∃ W, W = wc := ⟨wc, rfl⟩
            go_upto_region 41 with fail
            go_cut [199] from 192 (fun c wx => ∃ z : Bool, c = .bool z ∧ (z = true ↔ (a < s ∧ s < mid)) ∧ wx = W)
            case first =>
              by_cases c1 : a < s
              · have d1 : decide ((a : Int) < s) = true := by simpa using c1
                by_cases c2 : s < mid
                · have d2 : decide ((s : Int) < mid) = true := by simpa using c2
                  go_wp2_with fail
                  go_meet
                  exact ⟨_, rfl, by simp [c1, c2], rfl⟩
                · have d2 : decide ((s : Int) < mid) = false := by simpa using c2
                  go_wp2_with fail
                  go_meet
                  exact ⟨_, rfl, by simp [c1, c2], rfl⟩
              · have d1 : decide ((a : Int) < s) = false := by simpa using c1
                go_wp2_with fail
                go_meet
                exact ⟨_, rfl, by simp [c1], rfl⟩
            case rest =>
              obtain ⟨z, rfl, hz, rfl⟩ := hcut
              have HZ := hide hz
              clear hz
              go_upto_if 199 with fail
              go_cut [] from 200 (fun wx => ∃ E, IR w0 B blk n cap wx E ∧ Mg lt D E a mid)
              case first =>
                cases z
                case true =>
                  have c : a < s ∧ s < mid := HZ.out.1 rfl
                  have HC := hide (HREC.out a s mid c.1 c.2 (by omega) (by omega) D wc HI1.out HS1.out HH.out.s1 HH.out.s2 HH.out.i1)
                  clear c
                  go_wp2_with (go_at_call 250; refine HC.out.mono ?_; rintro e0 w1 ⟨rfl, hir1⟩; have HE1 := hide hir1; clear hir1 HC)
                  go_meet
                  exact HE1.out
                case false =>
                  have c : ¬ (a < s ∧ s < mid) := fun h => by have := HZ.out.2 h; simp at this
                  have HM1 := hide (Mg.none HH.out.s1 HH.out.s2 c e6 e4)
                  clear c
                  go_wp2_with fail
                  go_meet
                  exact ⟨D, HI1.out, HM1.out⟩
              case rest =>
                obtain ⟨E, hirE, hmE⟩ := hcut
                have HI2 := hide hirE
                have HM2 := hide hmE
                have HS2 := hide (Mg.all hmE (by omega) HS1.out)
                have HA2 := hide (HH.out.again2 e3 e2 hmE)
                clear hirE hmE HI1
                obtain ⟨W, rfl⟩ : ∃ W, W = wc := ⟨wc, rfl⟩
                go_upto_region 43 with fail
                go_cut [213] from 206 (fun c wx => ∃ z : Bool, c = .bool z ∧ (z = true ↔ (mid < e ∧ e < b)) ∧ wx = W)
                case first =>
                  by_cases c1 : mid < e
                  · have d1 : decide ((mid : Int) < e) = true := by simpa using c1
                    by_cases c2 : e < b
                    · have d2 : decide ((e : Int) < b) = true := by simpa using c2
                      go_wp2_with fail
                      go_meet
                      exact ⟨_, rfl, by simp [c1, c2], rfl⟩
                    · have d2 : decide ((e : Int) < b) = false := by simpa using c2
                      go_wp2_with fail
                      go_meet
                      exact ⟨_, rfl, by simp [c1, c2], rfl⟩
                  · have d1 : decide ((mid : Int) < e) = false := by simpa using c1
                    go_wp2_with fail
                    go_meet
                    exact ⟨_, rfl, by simp [c1], rfl⟩
                case rest =>
                  obtain ⟨z, rfl, hz, rfl⟩ := hcut
                  have HZ := hide hz
                  clear hz
                  cases z
                  case true =>
                    have c : mid < e ∧ e < b := HZ.out.1 rfl
                    have HC := hide (HREC.out mid e b c.1 c.2 (by omega) (by omega) E wc HI2.out HS2.out HA2.out.1 HA2.out.2.1 HA2.out.2.2)
                    clear c
                    go_wp2_with (go_at_call 250; refine HC.out.mono ?_; rintro e0 w1 ⟨rfl, G, hirG, hmG⟩; have HE1 := hide hirG; have HE2 := hide (HH.out.mg (by omega) (by omega) HM2.out hmG); clear hirG hmG HC)
                    go_end0
                    exact ⟨rfl, G, HE1.out, HE2.out⟩
                  case false =>
                    have c : ¬ (mid < e ∧ e < b) := fun h => by have := HZ.out.2 h; simp at this
                    have HE2 := hide (HH.out.mg (by omega) (by omega) HM2.out (Mg.none HA2.out.1 HA2.out.2.1 c e3 e2))
                    clear c
                    go_wp2
                    go_end0
                    exact ⟨rfl, E, HI2.out, HE2.out⟩
theorem symMerge_any (w0 : World) (B blk n cap : Nat) (fn : Nat) (caps : Array Value) (kc : Nat → Nat → Int) (lt : Nat → Nat → Prop) (S : Nat → Prop)
    (hen : ∀ (args : Array Value) (w : World), (callFunc fn args).run Tryz.prog w = .ok (.enter fn args) w) (hq : Cmps fn caps kc S w0 blk) (ho : Odr kc lt) (hn : n ≤ 1000) :
    ∀ k a m b, b - a ≤ k → a < m → m < b → b ≤ n → Merges w0 B blk n cap fn caps lt S a m b := by
  intro k
  induction k with
  | zero => intro a m b h1 h2 h3; omega
  | succ k ih =>
    intro a m b h1 h2 h3 h4 C w hir hS s1 s2 hx
    by_cases c1 : m = a + 1
    · exact symMerge_up w0 B blk n cap fn caps kc lt S a m b C w hen hq ho hir hn c1 h3 h4 hS s2 hx
    · by_cases c2 : b = m + 1
      · exact symMerge_down w0 B blk n cap fn caps kc lt S a m b C w hen hq ho hir hn (by omega) c2 h4 hS s1 hx
      · exact symMerge_mid w0 B blk n cap fn caps kc lt S a m b C w hen hq ho (fun a' m' b' g1 g2 g3 g4 => ih a' m' b' (by omega) g1 g2 g3) hir hn (by omega) (by omega) h4 hS s1 s2 hx
end Go.Proofs.YtchcejjoncihkaaGreatDoor

/- Layer 7: slices.SortStableFunc of at most 60 ints, walked. -/
namespace Go.Proofs.YtchcejjoncihkaaGreatDoor
set_option linter.unusedVariables false
open Go.RowKit Go.Maps
open Stb

/-- A stretch of less than two: nothing is done, nothing is asked. -/
theorem insertion_none (v fv : Value) (a b : Nat) (w : World) (ha : a ≤ 1000) (h : b ≤ a + 1) :
    Calls Tryz.prog 249 #[v, .int .i64 a, .int .i64 b, fv] w fun e w' => e = .returned (.tuple #[]) ∧ w' = w := by
  have v1 : IntKind.i64.wrap ((a : Int) + 1) = ((a + 1 : Nat) : Int) := by rw [IntWalk.i64_in _ (by omega)]; omega
  have hd : decide ((((a + 1 : Nat)) : Int) < b) = false := by simp; omega
  have hd2 : ¬ (a + 1 < b) := by omega
  obtain ⟨c, hc⟩ : ∃ c, c = a + 1 := ⟨_, rfl⟩
  rw [← hc] at v1 hd hd2
  clear hc h
  go_enter Tryz.func249, Tryz.ntmps249
  go_wp2
  refine wp_loop_rounds 1 ?_
  rw [rounds_succ]
  go_wp2
  go_end0
  exact ⟨rfl, rfl⟩
/-- The stretches of 20. -/
structure P20 (lt : Nat → Nat → Prop) (n : Nat) (C D : Nat → Nat) : Prop where
  a : n ≤ 20 → St lt C D 0 n
  b : 20 < n → St lt C D 0 20
  c : 20 < n → n ≤ 40 → St lt C D 20 n
  d : 40 < n → St lt C D 20 40 ∧ St lt C D 40 n
structure P40 (lt : Nat → Nat → Prop) (n : Nat) (C D : Nat → Nat) : Prop where
  a : n ≤ 40 → St lt C D 0 n
  b : 40 < n → St lt C D 0 40 ∧ St lt C D 40 n
theorem St.ins {lt : Nat → Nat → Prop} {C D E : Nat → Nat} {a b : Nat} (hs : ∀ k, a ≤ k → k < b → D k = C k) (h : Mg lt D E a b) : St lt C E a b := ⟨h.srd, fun x => (h.inn x).trans (In.same hs)⟩
theorem p20_of {lt : Nat → Nat → Prop} {n a : Nat} {C D E : Nat → Nat} (hn : n ≤ 60) (h1 : a ≤ n) (h2 : n < a + 20) (h3 : a % 20 = 0) (hb : ∀ j, j + 20 ≤ a → j % 20 = 0 → St lt C D j (j + 20)) (hs : ∀ k, a ≤ k → D k = C k) (h : Mg lt D E a n) : P20 lt n C E := by
  have hl := St.ins (fun k k1 _ => hs k k1) h
  have ho : ∀ j, j + 20 ≤ a → j % 20 = 0 → St lt C E j (j + 20) := fun j j1 j2 => (hb j j1 j2).same fun k k1 k2 => h.out k (.inl (by omega))
  have hz : ∀ x, St lt C E x x := fun x => ⟨fun i j h1 h2 h3 => by omega, fun y => ⟨fun ⟨k, k1, k2, _⟩ => by omega, fun ⟨k, k1, k2, _⟩ => by omega⟩⟩
  have : a = 0 ∨ a = 20 ∨ a = 40 ∨ a = 60 := by omega
  rcases this with rfl | rfl | rfl | rfl
  · exact ⟨fun _ => hl, fun _ => by omega, fun _ => by omega, fun _ => by omega⟩
  · refine ⟨fun c => ?_, fun _ => ho 0 (by omega) (by omega), fun _ _ => hl, fun _ => by omega⟩
    obtain rfl : n = 20 := by omega
    exact ho 0 (by omega) (by omega)
  · refine ⟨fun c => by omega, fun _ => ho 0 (by omega) (by omega), fun _ c => ?_, fun _ => ⟨ho 20 (by omega) (by omega), hl⟩⟩
    obtain rfl : n = 40 := by omega
    exact ho 20 (by omega) (by omega)
  · refine ⟨fun c => by omega, fun _ => ho 0 (by omega) (by omega), fun _ c => by omega, fun _ => ⟨ho 20 (by omega) (by omega), ?_⟩⟩
    obtain rfl : n = 60 := by omega
    exact ho 40 (by omega) (by omega)
set_option maxRecDepth 100000 in
set_option maxHeartbeats 4000000 in
theorem stable_any (w0 : World) (B blk n cap : Nat) (fn : Nat) (caps : Array Value) (kc : Nat → Nat → Int) (lt : Nat → Nat → Prop) (S : Nat → Prop) (C : Nat → Nat) (w : World)
    (hen : ∀ (args : Array Value) (w : World), (callFunc fn args).run Tryz.prog w = .ok (.enter fn args) w) (hq : Cmps fn caps kc S w0 blk) (ho : Odr kc lt)
    (h : IR w0 B blk n cap w C) (hn : n ≤ 60) (hS : ∀ k, k < n → S (C k)) (hc : ∀ i j, i < j → j < n → C i < C j) :
    Calls Tryz.prog 239 #[.slice (some ⟨blk, 0, none⟩) n cap, .int .i64 n, .func (.func fn) #[] caps] w fun e w' => e = .returned (.tuple #[]) ∧ ∃ D, IR w0 B blk n cap w' D ∧ St lt C D 0 n := by
  have H := hide h
  have HQ := hide hq
  have HO := hide ho
  have HS := hide hS
  have HC := hide hc
  clear h hq ho hS hc
  go_enter Tryz.func239, Tryz.ntmps239
  go_wp2
  go_loopw [7, 8] (fun r7 r8 wr => ∃ (a b : Nat) (D : Nat → Nat), r7 = .int .i64 a ∧ r8 = .int .i64 b ∧ b = a + 20 ∧ a ≤ n ∧ a % 20 = 0 ∧ IR w0 B blk n cap wr D ∧ (∀ k, k < n → S (D k)) ∧ (∀ j, j + 20 ≤ a → j % 20 = 0 → St lt C D j (j + 20)) ∧ (∀ k, a ≤ k → D k = C k)) (fun r7 _ _ => n - (intOf r7).toNat)
  case atStart => exact ⟨0, 20, C, rfl, rfl, rfl, Nat.zero_le _, rfl, H.out, HS.out, fun j hj => by omega, fun _ _ => rfl⟩
  case round =>
    obtain ⟨a, b, D, rfl, rfl, hb, han, ham, hir, hDS, hst, hsm⟩ := hrel
    have HB := hide hb
    have HI := hide hir
    have HDS := hide hDS
    have HST := hide hst
    have HSM := hide hsm
    have HAM := hide ham
    have HCX : Hid (∀ i j, a ≤ i → i < j → j < n → D i < D j) := fun i j h1 h2 h3 => by
      rw [hsm i h1, hsm j (by omega)]; exact HC.out i j h2 h3
    clear hb hir hDS hst hsm ham
    by_cases hbn : b ≤ n
    · have hd : decide ((b : Int) ≤ n) = true := by simpa using hbn
      have HCA := hide (insertion_any w0 B blk n cap fn caps kc lt S a b D wr hen HQ.out HO.out HI.out (by omega) (by have := HB.out; omega) hbn HDS.out (fun i j h1 h2 h3 => HCX.out i j h1 h2 (by omega)))
      obtain ⟨b', hb'⟩ : ∃ b', b' = b + 20 := ⟨_, rfl⟩
      have vb : IntKind.i64.wrap ((b : Int) + 20) = (b' : Int) := by rw [IntWalk.i64_in _ (by omega)]; omega
      have HB' := hide hb'
      clear hb'
      go_wp2_with (go_at_call 249; refine HCA.out.mono ?_; rintro e0 w1 ⟨rfl, E, hirE, hmE⟩; have HE1 := hide hirE; have HE2 := hide hmE; clear hirE hmE HCA)
      have hb1 := HB.out
      have hb2 := HB'.out
      have hb3 := HAM.out
      refine ⟨⟨b, b', E, rfl, rfl, hb2, hbn, by omega, HE1.out, Mg.all HE2.out hbn HDS.out, fun j j1 j2 => ?_, fun k hk => ?_⟩, by simp [intOf]; omega⟩
      · by_cases c : j + 20 ≤ a
        · exact (HST.out j c j2).same fun k k1 k2 => HE2.out.out k (.inl (by omega))
        · obtain rfl : j = a := by omega
          rw [← hb1]
          exact St.ins (fun k k1 _ => HSM.out k k1) HE2.out
      · rw [HE2.out.out k (.inr hk)]; exact HSM.out k (by omega)
    · have hd : decide ((b : Int) ≤ n) = false := by simpa using hbn
      have HCA := hide (insertion_any w0 B blk n cap fn caps kc lt S a n D wr hen HQ.out HO.out HI.out (by omega) han (Nat.le_refl _) HDS.out HCX.out)
      have HAF : Hid (∀ E, Mg lt D E a n → P20 lt n C E ∧ ∀ k, k < n → S (E k)) := fun E hE => ⟨p20_of hn han (by have := HB.out; omega) HAM.out HST.out HSM.out hE, Mg.all hE (Nat.le_refl _) HDS.out⟩
      obtain ⟨W, rfl⟩ : ∃ W, W = wr := ⟨wr, rfl⟩
      go_wp2_with (go_at_call 249; refine HCA.out.mono ?_; rintro e0 w1 ⟨rfl, E, hirE, hmE⟩; have HE1 := hide hirE; have HE2 := hide (HAF.out E hmE); clear hirE hmE HCA HAF)
      clear HST HSM HCX HDS HI HB HAM
      go_loopw [6, 7, 8, 9] (fun r6 _ _ _ wr => ∃ (s : Nat) (G : Nat → Nat), r6 = .int .i64 s ∧ IR w0 B blk n cap wr G ∧ (∀ k, k < n → S (G k)) ∧ ((s = 20 ∧ P20 lt n C G) ∨ (s = 40 ∧ P40 lt n C G) ∨ (s = 80 ∧ St lt C G 0 n))) (fun r6 _ _ _ _ => 80 - (intOf r6).toNat)
      case atStart => exact ⟨20, E, rfl, HE1.out, HE2.out.2, .inl ⟨rfl, HE2.out.1⟩⟩
      case round =>
        obtain ⟨s, G, rfl, hir, hGS, hcase⟩ := hrel
        have HI := hide hir
        have HGS := hide hGS
        clear hir hGS
        rcases hcase with ⟨rfl, hp⟩ | ⟨rfl, hp⟩ | ⟨rfl, hp⟩
        · have HP := hide hp
          clear hp
          by_cases c1 : 20 < n
          · have d1 : decide ((20 : Int) < n) = true := by simp; omega
            have hx1 : (20 : Int) < n := by omega
            by_cases c2 : 40 ≤ n
            · have d2 : decide ((40 : Int) ≤ n) = true := by simp; omega
              have hx2 : (40 : Int) ≤ n := by omega
              have s1 := HP.out.b c1
              have s2 : St lt C G 20 40 := by
                by_cases c3 : n ≤ 40
                · obtain rfl : n = 40 := by omega
                  exact HP.out.c c1 c3
                · exact (HP.out.d (by omega)).1
              have HCA : Hid (Calls Tryz.prog 250 #[.slice (some ⟨blk, 0, none⟩) n cap, .int .i64 0, .int .i64 20, .int .i64 40, .func (.func fn) #[] caps] wr fun e w' => e = .returned (.tuple #[]) ∧ ∃ D, IR w0 B blk n cap w' D ∧ Mg lt G D 0 40) :=
                symMerge_any w0 B blk n cap fn caps kc lt S hen HQ.out HO.out (by omega) 60 0 20 40 (by omega) (by omega) (by omega) c2 G wr HI.out HGS.out s1.srd s2.srd (St.idx HC.out c2 s1 s2)
              have HAF : Hid (∀ E, Mg lt G E 0 40 → P40 lt n C E ∧ ∀ k, k < n → S (E k)) := fun E hE => ⟨⟨fun c => by
                  obtain rfl : n = 40 := by omega
                  exact St.mg (by omega) (by omega) s1 s2 hE, fun c => ⟨St.mg (by omega) (by omega) s1 s2 hE, (HP.out.d c).2.same fun k k1 k2 => hE.out k (.inr k1)⟩⟩, Mg.all hE c2 HGS.out⟩
              have e80 : ¬ (80 : Int) ≤ n := by omega
              have d80 : decide ((80 : Int) ≤ n) = false := by simp; omega
              have e60 : ¬ (60 : Int) < n := by omega
              have d60 : decide ((60 : Int) < n) = false := by simp; omega
              clear s1 s2 c1 c2
              go_wp2
              refine wp_loop_rounds 2 ?_
              rw [rounds_succ]
              go_wp2_with (go_at_call 250; refine HCA.out.mono ?_; rintro e0 w2 ⟨rfl, E2, hirE, hmE⟩; have HE3 := hide hirE; have HE4 := hide (HAF.out E2 hmE); clear hirE hmE HCA HAF)
              rw [rounds_succ]
              go_wp2
              exact ⟨⟨40, E2, rfl, HE3.out, HE4.out.2, .inr (.inl ⟨rfl, HE4.out.1⟩)⟩, by simp [intOf]⟩
            · have d2 : decide ((40 : Int) ≤ n) = false := by simp; omega
              have hx2 : ¬ (40 : Int) ≤ n := by omega
              have s1 := HP.out.b c1
              have s2 := HP.out.c c1 (by omega)
              have HCA : Hid (Calls Tryz.prog 250 #[.slice (some ⟨blk, 0, none⟩) n cap, .int .i64 0, .int .i64 20, .int .i64 n, .func (.func fn) #[] caps] wr fun e w' => e = .returned (.tuple #[]) ∧ ∃ D, IR w0 B blk n cap w' D ∧ Mg lt G D 0 n) :=
                symMerge_any w0 B blk n cap fn caps kc lt S hen HQ.out HO.out (by omega) 60 0 20 n (by omega) (by omega) (by omega) (Nat.le_refl _) G wr HI.out HGS.out s1.srd s2.srd (St.idx HC.out (Nat.le_refl _) s1 s2)
              have HAF : Hid (∀ E, Mg lt G E 0 n → P40 lt n C E ∧ ∀ k, k < n → S (E k)) := fun E hE => ⟨⟨fun c => St.mg (by omega) (by omega) s1 s2 hE, fun c => by omega⟩, Mg.all hE (Nat.le_refl _) HGS.out⟩
              clear s1 s2 c1 c2
              go_wp2
              refine wp_loop_rounds 1 ?_
              rw [rounds_succ]
              go_wp2_with (go_at_call 250; refine HCA.out.mono ?_; rintro e0 w2 ⟨rfl, E2, hirE, hmE⟩; have HE3 := hide hirE; have HE4 := hide (HAF.out E2 hmE); clear hirE hmE HCA HAF)
              exact ⟨⟨40, E2, rfl, HE3.out, HE4.out.2, .inr (.inl ⟨rfl, HE4.out.1⟩)⟩, by simp [intOf]⟩
          · have d1 : decide ((20 : Int) < n) = false := by simp; omega
            have hx1 : ¬ (20 : Int) < n := by omega
            have HF := hide (HP.out.a (by omega))
            clear c1
            go_wp2
            go_end0
            exact ⟨rfl, G, HI.out, HF.out⟩
        · have HP := hide hp
          clear hp
          by_cases c1 : 40 < n
          · have d1 : decide ((40 : Int) < n) = true := by simp; omega
            have hx1 : (40 : Int) < n := by omega
            have e80 : ¬ (80 : Int) ≤ n := by omega
            have d80 : decide ((80 : Int) ≤ n) = false := by simp; omega
            have s1 := (HP.out.b c1).1
            have s2 := (HP.out.b c1).2
            have HCA : Hid (Calls Tryz.prog 250 #[.slice (some ⟨blk, 0, none⟩) n cap, .int .i64 0, .int .i64 40, .int .i64 n, .func (.func fn) #[] caps] wr fun e w' => e = .returned (.tuple #[]) ∧ ∃ D, IR w0 B blk n cap w' D ∧ Mg lt G D 0 n) :=
              symMerge_any w0 B blk n cap fn caps kc lt S hen HQ.out HO.out (by omega) 60 0 40 n (by omega) (by omega) (by omega) (Nat.le_refl _) G wr HI.out HGS.out s1.srd s2.srd (St.idx HC.out (Nat.le_refl _) s1 s2)
            have HAF : Hid (∀ E, Mg lt G E 0 n → St lt C E 0 n ∧ ∀ k, k < n → S (E k)) := fun E hE => ⟨St.mg (by omega) (by omega) s1 s2 hE, Mg.all hE (Nat.le_refl _) HGS.out⟩
            clear s1 s2 c1
            go_wp2
            refine wp_loop_rounds 1 ?_
            rw [rounds_succ]
            go_wp2_with (go_at_call 250; refine HCA.out.mono ?_; rintro e0 w2 ⟨rfl, E2, hirE, hmE⟩; have HE3 := hide hirE; have HE4 := hide (HAF.out E2 hmE); clear hirE hmE HCA HAF)
            exact ⟨⟨80, E2, rfl, HE3.out, HE4.out.2, .inr (.inr ⟨rfl, HE4.out.1⟩)⟩, by simp [intOf]⟩
          · have d1 : decide ((40 : Int) < n) = false := by simp; omega
            have hx1 : ¬ (40 : Int) < n := by omega
            have HF := hide (HP.out.a (by omega))
            clear c1
            go_wp2
            go_end0
            exact ⟨rfl, G, HI.out, HF.out⟩
        · have d1 : decide ((80 : Int) < n) = false := by simp; omega
          have hx1 : ¬ (80 : Int) < n := by omega
          have HF := hide hp
          clear hp
          go_wp2
          go_end0
          exact ⟨rfl, G, HI.out, HF.out⟩
theorem stable_none (v fv : Value) (w : World) :
    Calls Tryz.prog 239 #[v, .int .i64 0, fv] w fun e w' => e = .returned (.tuple #[]) ∧ w' = w := by
  have HCA : Hid (Calls Tryz.prog 249 #[v, .int .i64 0, .int .i64 0, fv] w fun e w' => e = .returned (.tuple #[]) ∧ w' = w) := insertion_none v fv 0 0 w (by omega) (by omega)
  go_enter Tryz.func239, Tryz.ntmps239
  go_wp2
  refine wp_loop_rounds 1 ?_
  rw [rounds_succ]
  go_wp2_with (go_at_call 249; refine HCA.out.mono ?_; rintro e0 w2 ⟨rfl, rfl⟩)
  refine wp_loop_rounds 1 ?_
  rw [rounds_succ]
  go_wp2
  go_end0
  exact ⟨rfl, rfl⟩
theorem SortStable_any (w0 : World) (B blk n cap : Nat) (fn : Nat) (caps : Array Value) (kc : Nat → Nat → Int) (lt : Nat → Nat → Prop) (S : Nat → Prop) (C : Nat → Nat) (w : World)
    (hen : ∀ (args : Array Value) (w : World), (callFunc fn args).run Tryz.prog w = .ok (.enter fn args) w) (hq : Cmps fn caps kc S w0 blk) (ho : Odr kc lt)
    (h : IR w0 B blk n cap w C) (hn : n ≤ 60) (hS : ∀ k, k < n → S (C k)) (hc : ∀ i j, i < j → j < n → C i < C j) :
    Calls Tryz.prog 217 #[.slice (some ⟨blk, 0, none⟩) n cap, .func (.func fn) #[] caps] w fun e w' => e = .returned (.tuple #[]) ∧ ∃ D, IR w0 B blk n cap w' D ∧ St lt C D 0 n := by
  have HCA := hide (stable_any w0 B blk n cap fn caps kc lt S C w hen hq ho h hn hS hc)
  clear h hq ho hS hc
  go_enter Tryz.func217, Tryz.ntmps217
  go_wp2_with (go_at_call 239; refine HCA.out.mono ?_; rintro e0 w2 ⟨rfl, hE⟩; have HE3 := hide hE; clear hE HCA)
  go_end0
  exact ⟨rfl, HE3.out⟩
theorem SortStable_none (a : Option Addr) (c : Nat) (fv : Value) (w : World) :
    Calls Tryz.prog 217 #[.slice a 0 c, fv] w fun e w' => e = .returned (.tuple #[]) ∧ w' = w := by
  have HCA := hide (stable_none (.slice a 0 c) fv w)
  go_enter Tryz.func217, Tryz.ntmps217
  go_wp2_with (go_at_call 239; refine HCA.out.mono ?_; rintro e0 w2 ⟨rfl, rfl⟩)
  go_end0
  exact ⟨rfl, rfl⟩
end Go.Proofs.YtchcejjoncihkaaGreatDoor

/- Layer 7: what is within a directory: the pure part; strings.Compare; rows of ints. -/
namespace Go.Proofs.YtchcejjoncihkaaGreatDoor
set_option linter.unusedVariables false
open Go.RowKit Go.Maps
open Nam Tre Stb

namespace Tre
theorem compare_neg : ∀ a b : List UInt8, Lib.compareBytes a b < 0 ↔ Op.bytesLess a b = true
  | [], [] => by simp [Lib.compareBytes, Op.bytesLess]
  | [], _ :: _ => by simp [Lib.compareBytes, Op.bytesLess]
  | _ :: _, [] => by simp [Lib.compareBytes, Op.bytesLess]
  | x :: a, y :: b => by
    unfold Lib.compareBytes Op.bytesLess
    have ih := compare_neg a b
    by_cases h : x < y
    · simp [h]
    · by_cases k : y < x
      · have hne : x ≠ y := fun e => by subst e; exact UInt8.lt_irrefl x k
        simp [h, k, hne]
      · have e : x = y := UInt8.le_antisymm (UInt8.not_lt.1 k) (UInt8.not_lt.1 h)
        subst e
        simp [h, ih]
/-- The name of a node at a place of its row. -/
def ky (L : List (Nv × Nod)) (p i : Nat) : List UInt8 := (gs (gl L i).2.names p).toList
/-- Whether a node stands within the directory of these names. -/
def kid (L : List (Nv × Nod)) (k : List ByteArray) (i : Nat) : Bool := decide ((gl L i).2.names.length = k.length + 1) && decide ((gl L i).2.names.take k.length = k)
/-- The order of what is within: by the last name, then by the place. -/
def kl (L : List (Nv × Nod)) (p i j : Nat) : Prop := Op.bytesLess (ky L p i) (ky L p j) = true ∨ (ky L p i = ky L p j ∧ i < j)
def kcm (L : List (Nv × Nod)) (p i j : Nat) : Int := Lib.compareBytes (ky L p i) (ky L p j)
theorem kl_trans (L : List (Nv × Nod)) (p i j k : Nat) (h1 : kl L p i j) (h2 : kl L p j k) : kl L p i k := by
  rcases h1 with h1 | ⟨e1, h1⟩
  · rcases h2 with h2 | ⟨e2, h2⟩
    · exact .inl (bless_trans _ _ _ h1 h2)
    · rw [e2] at h1; exact .inl h1
  · rcases h2 with h2 | ⟨e2, h2⟩
    · rw [← e1] at h2; exact .inl h2
    · exact .inr ⟨e1.trans e2, by omega⟩
theorem kl_odr (L : List (Nv × Nod)) (p : Nat) : Odr (kcm L p) (kl L p) := by
  refine ⟨fun x y _ h => .inl ((compare_neg _ _).1 h), fun x y hxy h => ?_, kl_trans L p⟩
  by_cases e : ky L p y = ky L p x
  · exact .inr ⟨e, hxy⟩
  · rcases bless_total _ _ e with c | c
    · exact .inl c
    · exact absurd ((compare_neg _ _).2 c) h
/-- What is within the directory of these names, in order. -/
structure IsKids (L : List (Nv × Nod)) (k : List ByteArray) (K : List Nat) : Prop where
  pw : K.Pairwise (kl L k.length)
  mem : ∀ i, i ∈ K ↔ (i < L.length ∧ kid L k i = true)
/-- Those among the first i. -/
def kf (L : List (Nv × Nod)) (k : List ByteArray) (i : Nat) : List Nat := (List.range i).filter (kid L k)
theorem kf_succ (L : List (Nv × Nod)) (k : List ByteArray) (i : Nat) : kf L k (i + 1) = if kid L k i = true then kf L k i ++ [i] else kf L k i := by
  unfold kf
  rw [List.range_succ, List.filter_append]
  by_cases h : kid L k i = true
  · rw [if_pos h]; simp [h]
  · rw [if_neg h]; simp [h]
theorem kf_lt {L : List (Nv × Nod)} {k : List ByteArray} {i x : Nat} (h : x ∈ kf L k i) : x < i ∧ kid L k x = true := by
  unfold kf at h
  rw [List.mem_filter] at h
  exact ⟨by simpa using h.1, h.2⟩
theorem kf_length (L : List (Nv × Nod)) (k : List ByteArray) (i : Nat) : (kf L k i).length ≤ i := by
  have := List.length_filter_le (kid L k) (List.range i)
  unfold kf
  simpa using this
theorem kf_rise (L : List (Nv × Nod)) (k : List ByteArray) (i : Nat) : (kf L k i).Pairwise (· < ·) := List.Pairwise.filter _ List.pairwise_lt_range
end Tre
/-- A row of numbers as a function of its place. -/
def fn0 (K : List Nat) : Nat → Nat := fun i => K.getD i 0
theorem fn0_lt (K : List Nat) (i : Nat) (h : i < K.length) : fn0 K i = K[i] := by simp [fn0, h]
theorem ivs_fn0 (K : List Nat) : ivs K.length (fn0 K) = K.map (fun z : Nat => Value.int .i64 (z : Int)) := by
  apply List.ext_getElem
  · simp [ivs]
  · intro i h1 h2
    have hi : i < K.length := by simpa [ivs] using h1
    simp [ivs, fn0, hi]
theorem isKids_of {L : List (Nv × Nod)} {k : List ByteArray} {D : Nat → Nat} (h : St (kl L k.length) (fn0 (kf L k L.length)) D 0 (kf L k L.length).length) : IsKids L k ((List.range (kf L k L.length).length).map D) := by
  constructor
  · rw [List.pairwise_map]
    refine (List.pairwise_lt_range (n := (kf L k L.length).length)).imp_of_mem ?_
    intro i j hi hj hij
    exact h.srd i j (Nat.zero_le _) hij (by simpa using hj)
  · intro i
    have e : i ∈ (List.range (kf L k L.length).length).map D ↔ In D 0 (kf L k L.length).length i := by
      rw [List.mem_map]
      exact ⟨fun ⟨x, h1, h2⟩ => ⟨x, Nat.zero_le _, by simpa using h1, h2⟩, fun ⟨x, _, h1, h2⟩ => ⟨x, by simpa using h1, h2⟩⟩
    rw [e, h.inn i]
    constructor
    · rintro ⟨x, _, hx, rfl⟩
      have : fn0 (kf L k L.length) x ∈ kf L k L.length := by
        rw [fn0_lt _ _ hx]
        exact List.getElem_mem hx
      exact kf_lt this
    · rintro ⟨h1, h2⟩
      have hm : i ∈ kf L k L.length := by
        unfold kf
        rw [List.mem_filter]
        exact ⟨by simpa using h1, h2⟩
      obtain ⟨x, hx, e⟩ := List.getElem_of_mem hm
      refine ⟨x, Nat.zero_le _, hx, ?_⟩
      rw [fn0_lt _ _ hx]; exact e
/-- A slice of ints in memory. -/
def Ki (w : World) (ao : Option Addr) (m : Nat) (K : List Nat) : Prop := K.length = m ∧ (m = 0 ∨ ∃ b, ao = some ⟨b, 0, none⟩ ∧ b < w.heap.size ∧ ∀ i, i < m → w.cell? ⟨b, i, none⟩ = some (.int .i64 (fn0 K i : Int)))
theorem Ki.of {w : World} {B m c : Nat} {ao : Option Addr} {K : List Nat} (h : w.ownsRow B 3 1 (.slice ao m c) m (K.map (fun z : Nat => Value.int .i64 (z : Int)))) : Ki w ao m K := by
  have hl : K.length = m := by have := h.1; simpa using this
  refine ⟨hl, ?_⟩
  by_cases hm0 : m = 0
  · exact .inl hm0
  · obtain ⟨g, c', hv, hg, _⟩ := h.form (by omega)
    obtain ⟨rfl, rfl⟩ : ao = some ⟨g, 0, none⟩ ∧ c = c' := by simpa using hv
    refine .inr ⟨g, rfl, (h.lt g rfl).2, fun i hi => ?_⟩
    rw [h.cellAt i (by omega)]
    simp [fn0, hl, hi]
theorem infoInt7 : (Tryz.prog.info? 3).map (fun i => (i.zero, i.size, i.bytes)) = some (some (.int .i64 0), 1, 8) := by kernel_rfl
theorem wpList_append_int (w : World) {ops : Array Oper} {rest : List Oper} {o : Oper} {a : Act} {Q : Exit → Act → World → Prop} (hgd : o.guard = none) (s x : Operand)
    (ho : o.op = .call { callee := .builtin .append, args := #[s, x], argTypes := #[31, 31] })
    (base : Nat) (vo : Option Addr) (n vc : Nat) (l : List Nat) (hs : a.eval s = .slice vo n vc) (hown : w.ownsRow base 3 1 (.slice vo n vc) n (l.map (fun z : Nat => Value.int .i64 (z : Int))))
    (p : Nat) (t : Nat) (hx : a.eval x = .slice (some ⟨p, 0, none⟩) 1 1) (hp : w.cell? ⟨p, 0, none⟩ = some (.int .i64 (t : Int)))
    (hbd : n + 1 ≤ 100000000) (hbase : base ≤ w.heap.size)
    (h : ∀ ao' c' w', w'.ownsRow base 3 1 (.slice ao' (n + 1) c') (n + 1) ((l ++ [t]).map (fun z : Nat => Value.int .i64 (z : Int))) → w.grownBy w' (Value.slice vo n vc).ownBlock → wpList Tryz.prog ops Q rest (a.put o.dst (.slice ao' (n + 1) c')) w') :
    wpList Tryz.prog ops Q (o :: rest) a w := by
  obtain ⟨i0, hi, hz0, hz1, hz2⟩ := info_parts infoInt7
  refine wpList_append_own w hgd s x _ ho base 3 i0 (.int .i64 0) 1 8 Tryz.underlying31 hi hz0 hz1 hz2 rfl (by decide) _ n _ hs hown ⟨p, 0, none⟩ 1 1 [.int .i64 (t : Int)] hx (by simp) ?_ (by simp; rfl) (by unfold maxLen; omega) (by omega) hbase ?_
  · intro j u hj
    match j, hj with
    | 0, hj => simp at hj; subst hj; simpa [Addr.add] using hp
  · intro v' w' h2 h3 _
    obtain ⟨ao', c', rfl⟩ := owns_shape h2
    exact h ao' c' w' (by rw [List.map_append]; exact h2) h3
set_option maxRecDepth 100000 in
set_option maxHeartbeats 4000000 in
theorem compareString_any (s t : ByteArray) (w : World) : Calls Tryz.prog 240 #[.string s, .string t] w fun e w' => e = .returned (.int .i64 (Lib.compareBytes s.toList t.toList)) ∧ w' = w := by
  go_enter Tryz.func240, Tryz.ntmps240
  go_wp2
  rw [run_callFunc_extern Tryz.func251 (by kernel_rfl) (by kernel_rfl) (by kernel_rfl) (e := Extern.BytealgCompare.compare) (by kernel_rfl), Lib.run_compareString]
  simp only [Result.andThen]
  rw [Oper.upon_value]
  go_wp2
  go_ret
  exact ⟨ret_int (by rw [ByteArray.toList_eq, ByteArray.toList_eq]), rfl⟩
theorem strCompare_any (s t : ByteArray) (w : World) : Calls Tryz.prog 219 #[.string s, .string t] w fun e w' => e = .returned (.int .i64 (Lib.compareBytes s.toList t.toList)) ∧ w' = w := by
  go_enter Tryz.func219, Tryz.ntmps219
  go_wp2_with (go_at_call 240; refine (compareString_any _ _ _).mono ?_; rintro e w' ⟨rfl, rfl⟩)
  go_ret
  exact ⟨rfl, rfl⟩
end Go.Proofs.YtchcejjoncihkaaGreatDoor

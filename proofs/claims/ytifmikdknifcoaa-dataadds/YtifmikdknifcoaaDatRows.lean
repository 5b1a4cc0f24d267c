/- Layer 12: the rows that the statements cut out of what they are handed: 12 at most, of 1500 bytes each; and what a writer has of them. -/
import Derived.Test.YtifmikdknifcoaaDatShown
import Derived.Test.YtifmikdknifcoaaMats
import Derived.Test.YtifmikdknifcoaaNums
import Derived.Deep.AppendLies
namespace Go.Proofs.Ytifmikdknifcoaa
set_option linter.unusedVariables false
open Go.RowKit Go.Maps
open Lz (g)
open Crc (ent)
open Frm Mtr Dat

abbrev DRT := Nat → Option Addr × Nat × Nat × List Int
def dzOf (R : DRT) (r : Nat) : List Int := (R r).2.2.2.take (min (R r).2.1 1500)
def dvOf (R : DRT) (r : Nat) : Value := .slice (R r).1 (min (R r).2.1 1500) (R r).2.2.1
def dcut (R : DRT) (i : Nat) : List Value := (List.range i).map (dvOf R)
theorem dcut_succ (R : DRT) (i : Nat) : dcut R (i + 1) = dcut R i ++ [dvOf R i] := by simp [dcut, List.range_succ]
theorem dz_length (R : DRT) (r : Nat) : (dzOf R r).length ≤ 1500 := by simp [dzOf]; omega
/-- What is known of each row. -/
structure DRowK (w : World) (R : DRT) (i : Nat) : Prop where
  bs : Bs w (R i).1 (min (R i).2.1 1500) (dzOf R i)
  cap : min (R i).2.1 1500 ≤ (R i).2.2.1
  max : (R i).2.2.1 ≤ 9223372036854775807
  bytes : Bytes (dzOf R i)
  nil : (R i).1 = none → (R i).2.2.1 = 0
theorem MatB.dRowK {w : World} {a : Option Addr} {len cap : Nat} {R : DRT} (h : MatB w a len cap R) {i : Nat} (hi : i < len) : DRowK w R i := by
  rcases h with ⟨_, h0, _⟩ | ⟨x, rfl, hlc, hcm, hcs⟩
  · omega
  · obtain ⟨_, hr⟩ := hcs i hi
    obtain ⟨h1, h2, h3, h4, h5⟩ := hr.bs (min (R i).2.1 1500) (by omega)
    exact ⟨h1, by omega, h3, h4, h5⟩
theorem DRowK.below {w w' : World} {R : DRT} {i : Nat} (h : DRowK w R i) (hb : Below w.heap.size w w') : DRowK w' R i := ⟨h.bs.below hb, h.cap, h.max, h.bytes, h.nil⟩

namespace Dat
/-- What the writer has, k files having been added. -/
def stt (z : Nat → List Int) : Nat → Ws
  | 0 => ([], [])
  | k + 1 => addS 64 (stt z k) (run ent (z k))
/-- Where a file's blocks begin. -/
def pls (z : Nat → List Int) (k : Nat) : Nat := addA 64 (stt z k) (run ent (z k))
theorem stt_ok (z : Nat → List Int) : ∀ k, Ok 64 (stt z k)
  | 0 => ok_nil 64
  | k + 1 => (stt_ok z k).add _
theorem stt_has (z : Nat → List Int) (j : Nat) : ∀ k, j < k → Has (stt z k) (run ent (z j)) (pls z j)
  | 0, h => by omega
  | k + 1, h => by
    by_cases e : j = k
    · subst e; exact has_add 64 (stt z j) _
    · exact (stt_has z j k (by omega)).on 64 _
theorem add_len (first : Nat) (s : Ws) (r : List Int) : (addS first s r).1.length ≤ s.1.length + r.length ∧ (addS first s r).2.length ≤ s.2.length + 1 ∧ addA first s r ≤ first + s.1.length + addA first s r := by
  refine ⟨?_, ?_, by omega⟩
  · by_cases hr : r = []
    · subst hr; rw [(add_nil first s).2]; omega
    · cases h : look s.2 r with
      | some a => rw [(add_some hr h).2]; omega
      | none => rw [(add_none hr h).2]; simp
  · by_cases hr : r = []
    · subst hr; rw [(add_nil first s).2]; omega
    · cases h : look s.2 r with
      | some a => rw [(add_some hr h).2]; omega
      | none => rw [(add_none hr h).2]; simp
theorem stt_len (z : Nat → List Int) (hz : ∀ j, (z j).length ≤ 1500) : ∀ k, (stt z k).1.length ≤ 1500 * k ∧ (stt z k).2.length ≤ k
  | 0 => by simp [stt]
  | k + 1 => by
    have ih := stt_len z hz k
    have h1 := add_len 64 (stt z k) (run ent (z k))
    have h2 := (run_length ent (z k)).2
    have h3 := hz k
    refine ⟨?_, ?_⟩
    · show (addS 64 (stt z k) (run ent (z k))).1.length ≤ _
      omega
    · show (addS 64 (stt z k) (run ent (z k))).2.length ≤ _
      omega
theorem pls_le (z : Nat → List Int) (hz : ∀ j, (z j).length ≤ 1500) (j : Nat) : pls z j ≤ 64 + 1500 * (j + 1) := by
  have hk := stt_ok z (j + 1)
  have hh := stt_has z j (j + 1) (by omega)
  have hl := (stt_len z hz (j + 1)).1
  rcases hh.at hk with ⟨_, h⟩ | ⟨A, Z, h1, h2⟩
  · omega
  · rw [h2]
    rw [h1, List.length_append] at hl
    omega
/-- The places, as they stand in a row. -/
def plsL (z : Nat → List Int) (k : Nat) : List Int := (List.range k).map (fun j => (pls z j : Int))
theorem plsL_succ (z : Nat → List Int) (k : Nat) : plsL z (k + 1) = plsL z k ++ [(pls z k : Int)] := by simp [plsL, List.range_succ]
theorem plsL_at (z : Nat → List Int) (k j : Nat) (h : j < k) : g (plsL z k) j = (pls z j : Int) := by simp [plsL, g, h]
theorem tl_wh (z y : List Int) (h : y.length < 128) : tl (wh z ++ y) = y := by
  have h1 := wh_length z
  have h2 : (wh z ++ y).length / 128 = z.length / 128 := by rw [List.length_append]; omega
  unfold tl
  rw [h2, List.drop_append, h1, List.drop_eq_nil_of_le (by omega), Nat.sub_self, List.nil_append, List.drop_zero]
end Dat
/-- A writer, and a row of numbers beside it. -/
structure DN (w : World) (p tb : Nat) (O : Nat → Prop) (s : Ws) (so : Option Addr) (n sc : Nat) (l : List Int) (W : World) : Prop where
  ds : DS w p tb 64 O s W
  row : W.ownsRow w.heap.size 3 1 (.slice so n sc) n (zv l)
  no : ∀ k, (Value.slice so n sc).ownBlock = some k → ¬ O k
  lo : tb < w.heap.size
section
variable {w W W' : World} {p tb n sc : Nat} {O : Nat → Prop} {s : Ws} {so : Option Addr} {l : List Int}
theorem DN.below (h : DN w p tb O s so n sc l W) (hb : Below W.heap.size W W') : DN w p tb O s so n sc l W' := ⟨h.ds.below hb, owns_below h.row hb, h.no, h.lo⟩
/-- Behind an Add. -/
theorem DN.step {O' : Nat → Prop} {s' : Ws} (h : DN w p tb O s so n sc l W) (h1 : DS w p tb 64 O' s' W') (h2 : Fr O W W') (h3 : Gr O O' W) : DN w p tb O' s' so n sc l W' :=
  ⟨h1, owns_fr h.row h2 h.no, fun k hk hx => by
    rcases h3 k hx with hx | hx
    · exact h.no k hk hx
    · have := (h.row.lt k hk).2; omega, h.lo⟩
/-- Behind a number more in the row. -/
theorem DN.put {o : Obj} {so' : Option Addr} {n' sc' : Nat} {l' : List Int} (h : DN w p tb O s so n sc l W) (h1 : W'.ownsRow w.heap.size 3 1 (.slice so' n' sc') n' (zv l')) (hg : (W.alloc o).grownBy W' (Value.slice so n sc).ownBlock) (hl : ∀ k, (Value.slice so' n' sc').ownBlock = some k → (Value.slice so n sc).ownBlock = some k ∨ W.heap.size ≤ k) : DN w p tb O s so' n' sc' l' W' := by
  have hf : Fr (fun k => (Value.slice so n sc).ownBlock = some k) (W.alloc o) W' := Fr.of_grown hg (fun k hk => hk)
  have hd := h.ds.below (below_one W o)
  refine ⟨hd.turn hf (fun k hk hx => h.no k hx hk) (fun hx => ?_) (fun k hk => (h.row.lt k hk).1), h1, fun k hk hx => ?_, h.lo⟩
  · have := (h.row.lt tb hx).1
    have := h.lo
    omega
  · rcases hl k hk with h7 | h7
    · exact h.no k h7 hx
    · have := h.ds.wr.olt k hx; omega
end
set_option maxRecDepth 100000 in
set_option maxHeartbeats 1000000 in
theorem dRows_any (a0 : Option Addr) (len0 cap0 : Nat) (R : DRT) (w w' : World) (w0 : MatB w a0 len0 cap0 R) (hw' : Below w.heap.size w w') :
    Calls Try.prog 9 #[.slice a0 len0 cap0] w' fun r w'' => ∃ ao c, r = .returned (.slice ao (min len0 12) c) ∧ w''.ownsRow w'.heap.size 34 1 (.slice ao (min len0 12) c) (min len0 12) (dcut R (min len0 12)) ∧ Below w'.heap.size w' w'' := by
  obtain ⟨i1, hi1, hz0, hz1, hz2⟩ := info_parts infoBytes
  have hlen : len0 ≤ 9223372036854775807 := by
    rcases w0 with ⟨_, rfl, _⟩ | ⟨_, _, h1, h2, _⟩
    · omega
    · unfold maxLen at h2; omega
  have HW' := hide hw'
  clear hw'
  go_enter Try.func9, Try.ntmps9
  go_wp2_with fail
  have HM := hide (emptyM (w := w') (B := w'.heap.size) (Nat.le_refl _))
  go_loopw [3, 4] (fun s3 s4 wr => ∃ (ro : Option Addr) (rc i : Nat), s3 = .slice ro i rc ∧ s4 = .int .i64 i ∧ i ≤ len0 ∧ i ≤ 12 ∧
      wr.ownsRow w'.heap.size 34 1 (.slice ro i rc) i (dcut R i) ∧ Below w'.heap.size w' wr) (fun _ s4 _ => 12 - (intOf s4).toNat)
  case atStart => exact ⟨_, 0, 0, rfl, rfl, by omega, by omega, HM.out, (Below.refl _ _).alloc (Nat.le_refl _) _⟩
  case round =>
    clear HM
    obtain ⟨ro, rc, i, rfl, rfl, hil, hi12, horow, hbel⟩ := hrel
    have hBr := hbel.size
    by_cases hgo : i < len0 ∧ i < 12
    · obtain ⟨hg1, hg2⟩ := hgo
      rcases w0 with ⟨_, h0, _⟩ | ⟨x, rfl, hlc, hcm, hcs⟩
      · omega
      obtain ⟨hcell, hrow⟩ := hcs i hg1
      obtain ⟨xb, xo, spot⟩ := x
      have hcell0 := (hcs 0 (by omega)).1
      have hspot : spot = none := by simpa [Addr.add] using World.cell?_spot hcell0
      subst hspot
      have hxlt : xb < w.heap.size := by
        have := World.block_lt_of_cell? w _ hcell0
        simpa [Addr.add] using this
      clear hcell0
      rw [Addr.add_lit] at hcell
      have hwr : Below w.heap.size w wr := HW'.out.trans (hbel.mono HW'.out.size)
      have hcw := (hwr.cell (by exact hxlt)).trans hcell
      obtain ⟨_, hLC, hCm, _, _⟩ := hrow.bs (min (R i).2.1 1500) (by omega)
      have HV : Hid (dvOf R i = .slice (R i).1 (min (R i).2.1 1500) (R i).2.2.1) := rfl
      generalize (R i).1 = A at *
      generalize (R i).2.1 = L at *
      generalize (R i).2.2.1 = Cp at *
      have j1 : (i : Int) < (len0 : Int) := by omega
      have j2 : (i : Int) < 12 := by omega
      have HBel := hide hbel
      clear hrow hcell hcs hbel hwr
      by_cases h4 : 1500 < L
      · have k1 : (1500 : Int) < (L : Int) := by omega
        have k2 : (1500 : Int) ≤ (Cp : Int) := by omega
        have hmin : min L 1500 = 1500 := by omega
        rw [hmin] at HV
        clear hmin
        go_wp2_with (first
          | (at_builtin; refine wpList_append_lies _ rfl _ _ 22 rfl w'.heap.size 34 i1 (.slice none 0 0) 1 24 Try.underlying22 hi1 hz0 hz1 hz2 rfl (by decide) _ _ _ rfl (horow.alloc _) ⟨wr.heap.size, 0, none⟩ 1 1 [.slice A 1500 Cp] rfl rfl (cell_one_new wr _ _) (fun u hu => by simp at hu; subst hu; rfl) (by decide) (by unfold maxLen; omega) (by omega) (by simp; omega) (wr.heap.size + 1) (by simp) ?_; intro g2 c2 w6 o2 k2 _ _))
        have HN : Hid (w6.ownsRow w'.heap.size 34 1 (.slice (some ⟨g2, 0, none⟩) (i + 1) c2) (i + 1) (dcut R (i + 1)) ∧ Below w'.heap.size w' w6) := by
          refine ⟨?_, ?_⟩
          · rw [dcut_succ, HV.out]; exact o2
          · exact HBel.out.trans (grown_below hBr horow (grown_alloc k2))
        clear o2 k2 horow
        go_wp2
        go_roundw
        case rel => exact ⟨_, c2, i + 1, rfl, by go_num, by omega, by omega, HN.out.1, HN.out.2⟩
        case measure => simp [intOf]; omega
      · have k1 : (L : Int) ≤ 1500 := by omega
        have k2 : decide ((1500 : Int) < (L : Int)) = false := by simp; omega
        have hmin : min L 1500 = L := by omega
        rw [hmin] at HV
        clear hmin
        go_wp2_with (first
          | (at_builtin; refine wpList_append_lies _ rfl _ _ 22 rfl w'.heap.size 34 i1 (.slice none 0 0) 1 24 Try.underlying22 hi1 hz0 hz1 hz2 rfl (by decide) _ _ _ rfl (horow.alloc _) ⟨wr.heap.size, 0, none⟩ 1 1 [.slice A L Cp] rfl rfl (cell_one_new wr _ _) (fun u hu => by simp at hu; subst hu; rfl) (by decide) (by unfold maxLen; omega) (by omega) (by simp; omega) (wr.heap.size + 1) (by simp) ?_; intro g2 c2 w6 o2 k2 _ _))
        have HN : Hid (w6.ownsRow w'.heap.size 34 1 (.slice (some ⟨g2, 0, none⟩) (i + 1) c2) (i + 1) (dcut R (i + 1)) ∧ Below w'.heap.size w' w6) := by
          refine ⟨?_, ?_⟩
          · rw [dcut_succ, HV.out]; exact o2
          · exact HBel.out.trans (grown_below hBr horow (grown_alloc k2))
        clear o2 k2 horow
        go_wp2
        go_roundw
        case rel => exact ⟨_, c2, i + 1, rfl, by go_num, by omega, by omega, HN.out.1, HN.out.2⟩
        case measure => simp [intOf]; omega
    · have hk : min len0 12 = i := by omega
      have HX : Hid (∃ ao c, Ending.returned (.slice ro i rc) = .returned (.slice ao (min len0 12) c) ∧ wr.ownsRow w'.heap.size 34 1 (.slice ao (min len0 12) c) (min len0 12) (dcut R (min len0 12)) ∧ Below w'.heap.size w' wr) := by
        show ∃ _, _
        rw [hk]; exact ⟨ro, rc, rfl, horow, hbel⟩
      have hcase : ((i : Int) < (len0 : Int) ∧ 12 ≤ (i : Int) ∧ decide ((i : Int) < 12) = false) ∨ ((len0 : Int) ≤ (i : Int) ∧ decide ((i : Int) < (len0 : Int)) = false) := by
        by_cases h : i < len0
        · exact .inl ⟨by omega, by omega, by simp; omega⟩
        · exact .inr ⟨by omega, by simp; omega⟩
      clear horow hbel hk w0 hgo
      rcases hcase with ⟨k1, k2, k3⟩ | ⟨k1, k2⟩
      all_goals
        go_wp2
        go_ret
        exact HX.out
end Go.Proofs.Ytifmikdknifcoaa

/- The rows that the statements of layer 5 cut out of what they are handed: 20 at most, of 400 bytes each. -/
import Derived.Test.YtahbgebnmgnmoaaMetShown
import Derived.Deep.AppendLies
namespace Go.Proofs.Ytahbgebnmgnmoaa
set_option linter.unusedVariables false
open Go.RowKit Go.Maps
open Lz (g)
open Crc (ent)
open Frm Mtr

abbrev RT := Nat → Option Addr × Nat × Nat × List Int
def zOf (R : RT) (r : Nat) : List Int := (R r).2.2.2.take (min (R r).2.1 400)
def vOf (R : RT) (r : Nat) : Value := .slice (R r).1 (min (R r).2.1 400) (R r).2.2.1
def cut (R : RT) (i : Nat) : List Value := (List.range i).map (vOf R)
theorem cut_succ (R : RT) (i : Nat) : cut R (i + 1) = cut R i ++ [vOf R i] := by simp [cut, List.range_succ]
theorem z_length (R : RT) (r : Nat) : (zOf R r).length ≤ 400 := by simp [zOf]; omega
/-- All that was added. -/
def zAll (R : RT) : Nat → List Int
  | 0 => []
  | i + 1 => zAll R i ++ zOf R i
theorem zAll_succ (R : RT) (i : Nat) : zAll R (i + 1) = zAll R i ++ zOf R i := rfl
theorem zAll_length (R : RT) : ∀ i, (zAll R i).length ≤ 400 * i
  | 0 => by simp [zAll]
  | i + 1 => by
    have := zAll_length R i
    have := z_length R i
    rw [zAll_succ, List.length_append]; omega
theorem zAll_split (R : RT) (j : Nat) : ∀ i, j ≤ i → ∃ Z, zAll R i = zAll R j ++ Z
  | 0, h => ⟨[], by obtain rfl : j = 0 := by omega
                    simp⟩
  | i + 1, h => by
    by_cases e : j = i + 1
    · subst e; exact ⟨[], by simp⟩
    · obtain ⟨Z, hZ⟩ := zAll_split R j i (by omega)
      exact ⟨Z ++ zOf R i, by rw [zAll_succ, hZ, List.append_assoc]⟩
theorem zAll_bytes (R : RT) : ∀ i, (∀ r, r < i → Bytes (zOf R r)) → Bytes (zAll R i)
  | 0, _ => Bytes.nil
  | i + 1, h => (zAll_bytes R i (fun r hr => h r (by omega))).append (h i (by omega))
/-- What is known of each row. -/
structure RowK (w : World) (R : RT) (i : Nat) : Prop where
  bs : Bs w (R i).1 (min (R i).2.1 400) (zOf R i)
  cap : min (R i).2.1 400 ≤ (R i).2.2.1
  max : (R i).2.2.1 ≤ 9223372036854775807
  bytes : Bytes (zOf R i)
  nil : (R i).1 = none → (R i).2.2.1 = 0
theorem MatB.rowK {w : World} {a : Option Addr} {len cap : Nat} {R : RT} (h : MatB w a len cap R) {i : Nat} (hi : i < len) : RowK w R i := by
  rcases h with ⟨_, h0, _⟩ | ⟨x, rfl, hlc, hcm, hcs⟩
  · omega
  · obtain ⟨_, hr⟩ := hcs i hi
    obtain ⟨h1, h2, h3, h4, h5⟩ := hr.bs (min (R i).2.1 400) (by omega)
    exact ⟨h1, by omega, h3, h4, h5⟩
theorem RowK.below {w w' : World} {R : RT} {i : Nat} (h : RowK w R i) (hb : Below w.heap.size w w') : RowK w' R i := ⟨h.bs.below hb, h.cap, h.max, h.bytes, h.nil⟩

set_option maxRecDepth 100000 in
set_option maxHeartbeats 1000000 in
theorem rows_any (a0 : Option Addr) (len0 cap0 : Nat) (R : RT) (w w' : World) (w0 : MatB w a0 len0 cap0 R) (hw' : Below w.heap.size w w') :
    Calls Try.prog 9 #[.slice a0 len0 cap0] w' fun r w'' => ∃ ao c, r = .returned (.slice ao (min len0 20) c) ∧ w''.ownsRow w'.heap.size 33 1 (.slice ao (min len0 20) c) (min len0 20) (cut R (min len0 20)) ∧ Below w'.heap.size w' w'' := by
  obtain ⟨i1, hi1, hz0, hz1, hz2⟩ := info_parts infoBytes
  have hlen : len0 ≤ 9223372036854775807 := by
    rcases w0 with ⟨_, rfl, _⟩ | ⟨_, _, h1, h2, _⟩
    · omega
    · unfold maxLen at h2; omega
  have HW' := hide hw'
  clear hw'
  go_enter Try.func9, Try.ntmps9
  go_wp2_with fail
  have HM := hide (emptyM (w := w') (B := w'.heap.size) (Nat.le_refl _))
  go_loopw [3, 4] (fun s3 s4 wr => ∃ (ro : Option Addr) (rc i : Nat), s3 = .slice ro i rc ∧ s4 = .int .i64 i ∧ i ≤ len0 ∧ i ≤ 20 ∧
      wr.ownsRow w'.heap.size 33 1 (.slice ro i rc) i (cut R i) ∧ Below w'.heap.size w' wr) (fun _ s4 _ => 20 - (intOf s4).toNat)
  case atStart => exact ⟨_, 0, 0, rfl, rfl, by omega, by omega, HM.out, (Below.refl _ _).alloc (Nat.le_refl _) _⟩
  case round =>
    clear HM
    obtain ⟨ro, rc, i, rfl, rfl, hil, hi20, horow, hbel⟩ := hrel
    have hBr := hbel.size
    by_cases hgo : i < len0 ∧ i < 20
    · obtain ⟨hg1, hg2⟩ := hgo
      rcases w0 with ⟨_, h0, _⟩ | ⟨x, rfl, hlc, hcm, hcs⟩
      · omega
      obtain ⟨hcell, hrow⟩ := hcs i hg1
      obtain ⟨xb, xo, spot⟩ := x
      have hcell0 := (hcs 0 (by omega)).1
      have hspot : spot = none := by simpa [Addr.add] using World.cell?_spot hcell0
      subst hspot
      have hxlt : xb < w.heap.size := by
        have := World.block_lt_of_cell? w _ hcell0
        simpa [Addr.add] using this
      clear hcell0
      rw [Addr.add_lit] at hcell
      have hwr : Below w.heap.size w wr := HW'.out.trans (hbel.mono HW'.out.size)
      have hcw := (hwr.cell (by exact hxlt)).trans hcell
      obtain ⟨_, hLC, hCm, _, _⟩ := hrow.bs (min (R i).2.1 400) (by omega)
      have HV : Hid (vOf R i = .slice (R i).1 (min (R i).2.1 400) (R i).2.2.1) := rfl
      generalize (R i).1 = A at *
      generalize (R i).2.1 = L at *
      generalize (R i).2.2.1 = Cp at *
      have j1 : (i : Int) < (len0 : Int) := by omega
      have j2 : (i : Int) < 20 := by omega
      have HBel := hide hbel
      clear hrow hcell hcs hbel hwr
      by_cases h4 : 400 < L
      · have k1 : (400 : Int) < (L : Int) := by omega
        have k2 : (400 : Int) ≤ (Cp : Int) := by omega
        have hmin : min L 400 = 400 := by omega
        rw [hmin] at HV
        clear hmin
        go_wp2_with (first
          | (at_builtin; refine wpList_append_lies _ rfl _ _ 22 rfl w'.heap.size 33 i1 (.slice none 0 0) 1 24 Try.underlying22 hi1 hz0 hz1 hz2 rfl (by decide) _ _ _ rfl (horow.alloc _) ⟨wr.heap.size, 0, none⟩ 1 1 [.slice A 400 Cp] rfl rfl (cell_one_new wr _ _) (fun u hu => by simp at hu; subst hu; rfl) (by decide) (by unfold maxLen; omega) (by omega) (by simp; omega) (wr.heap.size + 1) (by simp) ?_; intro g2 c2 w6 o2 k2 _ _))
        have HN : Hid (w6.ownsRow w'.heap.size 33 1 (.slice (some ⟨g2, 0, none⟩) (i + 1) c2) (i + 1) (cut R (i + 1)) ∧ Below w'.heap.size w' w6) := by
          refine ⟨?_, ?_⟩
          · rw [cut_succ, HV.out]; exact o2
          · exact HBel.out.trans (grown_below hBr horow (grown_alloc k2))
        clear o2 k2 horow
        go_wp2
        go_roundw
        case rel => exact ⟨_, c2, i + 1, rfl, by go_num, by omega, by omega, HN.out.1, HN.out.2⟩
        case measure => simp [intOf]; omega
      · have k1 : (L : Int) ≤ 400 := by omega
        have k2 : decide ((400 : Int) < (L : Int)) = false := by simp; omega
        have hmin : min L 400 = L := by omega
        rw [hmin] at HV
        clear hmin
        go_wp2_with (first
          | (at_builtin; refine wpList_append_lies _ rfl _ _ 22 rfl w'.heap.size 33 i1 (.slice none 0 0) 1 24 Try.underlying22 hi1 hz0 hz1 hz2 rfl (by decide) _ _ _ rfl (horow.alloc _) ⟨wr.heap.size, 0, none⟩ 1 1 [.slice A L Cp] rfl rfl (cell_one_new wr _ _) (fun u hu => by simp at hu; subst hu; rfl) (by decide) (by unfold maxLen; omega) (by omega) (by simp; omega) (wr.heap.size + 1) (by simp) ?_; intro g2 c2 w6 o2 k2 _ _))
        have HN : Hid (w6.ownsRow w'.heap.size 33 1 (.slice (some ⟨g2, 0, none⟩) (i + 1) c2) (i + 1) (cut R (i + 1)) ∧ Below w'.heap.size w' w6) := by
          refine ⟨?_, ?_⟩
          · rw [cut_succ, HV.out]; exact o2
          · exact HBel.out.trans (grown_below hBr horow (grown_alloc k2))
        clear o2 k2 horow
        go_wp2
        go_roundw
        case rel => exact ⟨_, c2, i + 1, rfl, by go_num, by omega, by omega, HN.out.1, HN.out.2⟩
        case measure => simp [intOf]; omega
    · have hk : min len0 20 = i := by omega
      have HX : Hid (∃ ao c, Ending.returned (.slice ro i rc) = .returned (.slice ao (min len0 20) c) ∧ wr.ownsRow w'.heap.size 33 1 (.slice ao (min len0 20) c) (min len0 20) (cut R (min len0 20)) ∧ Below w'.heap.size w' wr) := by
        show ∃ _, _
        rw [hk]; exact ⟨ro, rc, rfl, horow, hbel⟩
      have hcase : ((i : Int) < (len0 : Int) ∧ 20 ≤ (i : Int) ∧ decide ((i : Int) < 20) = false) ∨ ((len0 : Int) ≤ (i : Int) ∧ decide ((i : Int) < (len0 : Int)) = false) := by
        by_cases h : i < len0
        · exact .inl ⟨by omega, by omega, by simp; omega⟩
        · exact .inr ⟨by omega, by simp; omega⟩
      clear horow hbel hk w0 hgo
      rcases hcase with ⟨k1, k2, k3⟩ | ⟨k1, k2⟩
      all_goals
        go_wp2
        go_ret
        exact HX.out
end Go.Proofs.Ytahbgebnmgnmoaa

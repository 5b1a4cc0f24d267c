/- Layer 13: the rows that the statements cut out of what they are handed: 60 at most, of 200 bytes each. -/
import Derived.Test.YtgmkldfjbjnkcaaFrgShown
import Derived.Test.YtgmkldfjbjnkcaaMats
import Derived.Test.YtgmkldfjbjnkcaaNums
import Derived.Deep.AppendLies
namespace Go.Proofs.Ytgmkldfjbjnkcaa
set_option linter.unusedVariables false
open Go.RowKit Go.Maps
open Lz (g)
open Frm Mtr Frg

abbrev FRT := Nat → Option Addr × Nat × Nat × List Int
def fzOf (R : FRT) (r : Nat) : List Int := (R r).2.2.2.take (min (R r).2.1 200)
def fvOf (R : FRT) (r : Nat) : Value := .slice (R r).1 (min (R r).2.1 200) (R r).2.2.1
def fcut (R : FRT) (i : Nat) : List Value := (List.range i).map (fvOf R)
theorem fcut_succ (R : FRT) (i : Nat) : fcut R (i + 1) = fcut R i ++ [fvOf R i] := by simp [fcut, List.range_succ]
theorem fz_length (R : FRT) (r : Nat) : (fzOf R r).length ≤ 200 := by simp [fzOf]; omega
/-- What is known of each row. -/
structure FRowK (w : World) (R : FRT) (i : Nat) : Prop where
  bs : Bs w (R i).1 (min (R i).2.1 200) (fzOf R i)
  cap : min (R i).2.1 200 ≤ (R i).2.2.1
  max : (R i).2.2.1 ≤ 9223372036854775807
  bytes : Bytes (fzOf R i)
  nil : (R i).1 = none → (R i).2.2.1 = 0
theorem MatB.fRowK {w : World} {a : Option Addr} {len cap : Nat} {R : FRT} (h : MatB w a len cap R) {i : Nat} (hi : i < len) : FRowK w R i := by
  rcases h with ⟨_, h0, _⟩ | ⟨x, rfl, hlc, hcm, hcs⟩
  · omega
  · obtain ⟨_, hr⟩ := hcs i hi
    obtain ⟨h1, h2, h3, h4, h5⟩ := hr.bs (min (R i).2.1 200) (by omega)
    exact ⟨h1, by omega, h3, h4, h5⟩
theorem FRowK.below {w w' : World} {R : FRT} {i : Nat} (h : FRowK w R i) (hb : Below w.heap.size w w') : FRowK w' R i := ⟨h.bs.below hb, h.cap, h.max, h.bytes, h.nil⟩

set_option maxRecDepth 100000 in
set_option maxHeartbeats 1000000 in
theorem fRows_any (a0 : Option Addr) (len0 cap0 : Nat) (R : FRT) (w w' : World) (w0 : MatB w a0 len0 cap0 R) (hw' : Below w.heap.size w w') :
    Calls Try.prog 8 #[.slice a0 len0 cap0] w' fun r w'' => ∃ ao c, r = .returned (.slice ao (min len0 60) c) ∧ w''.ownsRow w'.heap.size 30 1 (.slice ao (min len0 60) c) (min len0 60) (fcut R (min len0 60)) ∧ Below w'.heap.size w' w'' := by
  obtain ⟨i1, hi1, hz0, hz1, hz2⟩ := info_parts infoBytes
  have hlen : len0 ≤ 9223372036854775807 := by
    rcases w0 with ⟨_, rfl, _⟩ | ⟨_, _, h1, h2, _⟩
    · omega
    · unfold maxLen at h2; omega
  have HW' := hide hw'
  clear hw'
  go_enter Try.func8, Try.ntmps8
  go_wp2_with fail
  have HM := hide (emptyM (w := w') (B := w'.heap.size) (Nat.le_refl _))
  go_loopw [3, 4] (fun s3 s4 wr => ∃ (ro : Option Addr) (rc i : Nat), s3 = .slice ro i rc ∧ s4 = .int .i64 i ∧ i ≤ len0 ∧ i ≤ 60 ∧
      wr.ownsRow w'.heap.size 30 1 (.slice ro i rc) i (fcut R i) ∧ Below w'.heap.size w' wr) (fun _ s4 _ => 60 - (intOf s4).toNat)
  case atStart => exact ⟨_, 0, 0, rfl, rfl, by omega, by omega, HM.out, (Below.refl _ _).alloc (Nat.le_refl _) _⟩
  case round =>
    clear HM
    obtain ⟨ro, rc, i, rfl, rfl, hil, hi60, horow, hbel⟩ := hrel
    have hBr := hbel.size
    by_cases hgo : i < len0 ∧ i < 60
    · obtain ⟨hg1, hg2⟩ := hgo
      rcases w0 with ⟨_, h0, _⟩ | ⟨x, rfl, hlc, hcm, hcs⟩
      · omega
      obtain ⟨hcell, hrow⟩ := hcs i hg1
      obtain ⟨xb, xo, spot⟩ := x
      have hcell0 := (hcs 0 (by omega)).1
      have hspot : spot = none := by simpa [Addr.add] using World.cell?_spot hcell0
      subst hspot
      have hxlt : xb < w.heap.size := by
        have := World.block_lt_of_cell? w _ hcell0
        simpa [Addr.add] using this
      clear hcell0
      rw [Addr.add_lit] at hcell
      have hwr : Below w.heap.size w wr := HW'.out.trans (hbel.mono HW'.out.size)
      have hcw := (hwr.cell (by exact hxlt)).trans hcell
      obtain ⟨_, hLC, hCm, _, _⟩ := hrow.bs (min (R i).2.1 200) (by omega)
      have HV : Hid (fvOf R i = .slice (R i).1 (min (R i).2.1 200) (R i).2.2.1) := rfl
      generalize (R i).1 = A at *
      generalize (R i).2.1 = L at *
      generalize (R i).2.2.1 = Cp at *
      have j1 : (i : Int) < (len0 : Int) := by omega
      have j2 : (i : Int) < 60 := by omega
      have HBel := hide hbel
      clear hrow hcell hcs hbel hwr
      by_cases h4 : 200 < L
      · have k1 : (200 : Int) < (L : Int) := by omega
        have k2 : (200 : Int) ≤ (Cp : Int) := by omega
        have hmin : min L 200 = 200 := by omega
        rw [hmin] at HV
        clear hmin
        go_wp2_with (first
          | (at_builtin; refine wpList_append_lies _ rfl _ _ 22 rfl w'.heap.size 30 i1 (.slice none 0 0) 1 24 Try.underlying22 hi1 hz0 hz1 hz2 rfl (by decide) _ _ _ rfl (horow.alloc _) ⟨wr.heap.size, 0, none⟩ 1 1 [.slice A 200 Cp] rfl rfl (cell_one_new wr _ _) (fun u hu => by simp at hu; subst hu; rfl) (by decide) (by unfold maxLen; omega) (by omega) (by simp; omega) (wr.heap.size + 1) (by simp) ?_; intro g2 c2 w6 o2 k2 _ _))
        have HN : Hid (w6.ownsRow w'.heap.size 30 1 (.slice (some ⟨g2, 0, none⟩) (i + 1) c2) (i + 1) (fcut R (i + 1)) ∧ Below w'.heap.size w' w6) := by
          refine ⟨?_, ?_⟩
          · rw [fcut_succ, HV.out]; exact o2
          · exact HBel.out.trans (grown_below hBr horow (grown_alloc k2))
        clear o2 k2 horow
        go_wp2
        go_roundw
        case rel => exact ⟨_, c2, i + 1, rfl, by go_num, by omega, by omega, HN.out.1, HN.out.2⟩
        case measure => simp [intOf]; omega
      · have k1 : (L : Int) ≤ 200 := by omega
        have k2 : decide ((200 : Int) < (L : Int)) = false := by simp; omega
        have hmin : min L 200 = L := by omega
        rw [hmin] at HV
        clear hmin
        go_wp2_with (first
          | (at_builtin; refine wpList_append_lies _ rfl _ _ 22 rfl w'.heap.size 30 i1 (.slice none 0 0) 1 24 Try.underlying22 hi1 hz0 hz1 hz2 rfl (by decide) _ _ _ rfl (horow.alloc _) ⟨wr.heap.size, 0, none⟩ 1 1 [.slice A L Cp] rfl rfl (cell_one_new wr _ _) (fun u hu => by simp at hu; subst hu; rfl) (by decide) (by unfold maxLen; omega) (by omega) (by simp; omega) (wr.heap.size + 1) (by simp) ?_; intro g2 c2 w6 o2 k2 _ _))
        have HN : Hid (w6.ownsRow w'.heap.size 30 1 (.slice (some ⟨g2, 0, none⟩) (i + 1) c2) (i + 1) (fcut R (i + 1)) ∧ Below w'.heap.size w' w6) := by
          refine ⟨?_, ?_⟩
          · rw [fcut_succ, HV.out]; exact o2
          · exact HBel.out.trans (grown_below hBr horow (grown_alloc k2))
        clear o2 k2 horow
        go_wp2
        go_roundw
        case rel => exact ⟨_, c2, i + 1, rfl, by go_num, by omega, by omega, HN.out.1, HN.out.2⟩
        case measure => simp [intOf]; omega
    · have hk : min len0 60 = i := by omega
      have HX : Hid (∃ ao c, Ending.returned (.slice ro i rc) = .returned (.slice ao (min len0 60) c) ∧ wr.ownsRow w'.heap.size 30 1 (.slice ao (min len0 60) c) (min len0 60) (fcut R (min len0 60)) ∧ Below w'.heap.size w' wr) := by
        show ∃ _, _
        rw [hk]; exact ⟨ro, rc, rfl, horow, hbel⟩
      have hcase : ((i : Int) < (len0 : Int) ∧ 60 ≤ (i : Int) ∧ decide ((i : Int) < 60) = false) ∨ ((len0 : Int) ≤ (i : Int) ∧ decide ((i : Int) < (len0 : Int)) = false) := by
        by_cases h : i < len0
        · exact .inl ⟨by omega, by omega, by simp; omega⟩
        · exact .inr ⟨by omega, by simp; omega⟩
      clear horow hbel hk w0 hgo
      rcases hcase with ⟨k1, k2, k3⟩ | ⟨k1, k2⟩
      all_goals
        go_wp2
        go_ret
        exact HX.out
end Go.Proofs.Ytgmkldfjbjnkcaa

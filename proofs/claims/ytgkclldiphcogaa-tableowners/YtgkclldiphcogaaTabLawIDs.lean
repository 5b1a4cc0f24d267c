/- Layer 11: TableIDs: the owners of nodes are as the document says. -/
import Derived.Test.YtgkclldiphcogaaTabRefIDs
import Derived.Test.YtgkclldiphcogaaTabShown
import Derived.Test.YtgkclldiphcogaaTabOpen
namespace Go.Proofs.Ytgkclldiphcogaa
set_option linter.unusedVariables false
set_option maxRecDepth 100000
open Go.RowKit Go.Maps
open Nam Tre Tab
open Lz (g)

theorem Ns.cut {w : World} {ao : Option Addr} {n : Nat} {L : List (Nv × Nod)} (h : Ns w ao n L) (k : Nat) (hk : k ≤ n) : Ns w ao k (L.take k) := by
  obtain ⟨h1, h2, h3⟩ := h
  refine ⟨by simp; omega, fun p hp => h2 p (List.mem_of_mem_take hp), ?_⟩
  by_cases e : k = 0
  · exact .inl e
  · rcases h3 with h3 | ⟨b, off, h4, h5, h6⟩
    · omega
    · refine .inr ⟨b, off, h4, h5, fun i hi => ?_⟩
      have : gl (L.take k) i = gl L i := by simp [gl, hi]
      rw [this]; exact h6 i (by omega)
theorem Tab.Wf.cut {L : List (Nv × Nod)} (h : Wf L) (k : Nat) : Wf (L.take k) := fun p hp => h p (List.mem_of_mem_take hp)
theorem enc_zv (R : List Int) : R.map encZ = zv R := rfl
theorem ids_walk (a0 : Option Addr) (len0 cap0 : Nat) (L0 : List (Nv × Nod)) (w : World) (f0 : Ns w a0 len0 L0) (fw : Wf L0) (fc : len0 ≤ cap0) (fm : cap0 ≤ 9223372036854775807) :
    Calls Try.prog 3 #[.slice a0 len0 cap0] w fun e w' => e = .returned (.bool true) ∧ Below w.heap.size w w' := by
  have HN := hide (f0.cut (min len0 100) (by omega))
  have HW := hide (fw.cut (min len0 100))
  clear f0 fw
  go_enter Try.func3, Try.ntmps3
  go_wp2_with fail
  refine (shown_any w).mono ?_
  rintro r ws ⟨rfl, bs0⟩
  have HB0 := hide bs0
  clear bs0
  go_upto_if 8 with fail
  go_cut [0] from 9 to 10 (fun s0 wx => s0 = .slice a0 (min len0 100) cap0 ∧ wx = ws)
  case first =>
    by_cases h3 : 100 < len0
    · have e3 : min len0 100 = 100 := by omega
      go_wp2_with fail
      go_meet
      case rel => exact ⟨by rw [e3], rfl⟩
    · have e3 : min len0 100 = len0 := by omega
      go_wp2_with fail
      go_meet
      case rel => exact ⟨by rw [e3], rfl⟩
  case rest =>
  obtain ⟨rfl, hwc⟩ := hcut
  obtain rfl := hwc.symm
  have hm1 : min len0 100 ≤ 100 := by omega
  generalize L0.take (min len0 100) = L at *
  generalize min len0 100 = m at *
  go_wp2_with fail
  refine (IDs_any a0 m cap0 L ws (HN.out.below HB0.out) (by omega) HW.out).mono ?_
  rintro r w1 ⟨v, R, rfl, hr, hO, b1⟩
  obtain ⟨ao, c1, rfl⟩ := owns_shape hr
  rw [enc_zv] at hr
  have HZ1 := hide (Zs.of hr)
  have HO1 := hide hO
  have HB1 := hide (HB0.out.trans (b1.mono HB0.out.size))
  clear hr hO b1
  go_wp2_with fail
  refine (refIDs_any a0 m cap0 L w1 (HN.out.below HB1.out) (by omega) HW.out).mono ?_
  rintro r w2 ⟨b2, m2, c2, R2, rfl, hr, hO, hm2, b2'⟩
  have e : R = R2 := owners_one HO1.out hO
  subst e
  have HZ2 := hide (Zs.of hr)
  have HZ1' := hide (HZ1.out.below b2')
  have HB2 := hide (HB1.out.trans (b2'.mono HB1.out.size))
  have hRl : R.length ≤ 200 := by have := HZ2.out.1; omega
  clear hr hO b2'
  go_wp2_with fail
  refine (numsSame_any ao (some ⟨b2, 0, none⟩) R.length m2 c1 c2 R R w2 HZ1'.out HZ2.out (by omega) (by omega) true (by simp)).mono ?_
  rintro r w3 ⟨rfl, j, hw3⟩
  have HB3 : Hid (Below w.heap.size w w3) := by rw [hw3]; exact below_drewN HB2.out j
  clear hw3
  go_wp2
  go_ret
  exact ⟨rfl, HB3.out⟩
end Go.Proofs.Ytgkclldiphcogaa

/- Layer 11: TableOwners: the owners rise, each one is a node's, and each node's are among them. -/
import Derived.Test.YtgkclldiphcogaaTabLawIDs
import Derived.Test.YtgkclldiphcogaaCurRef
namespace Go.Proofs.Ytgkclldiphcogaa
set_option linter.unusedVariables false
set_option maxRecDepth 100000
open Go.RowKit Go.Maps
open Nam Tre Tab
open Lz (g)

namespace Tab
/-- Whether a number is a node's. -/
def fnd (L : List (Nv × Nod)) (x : Int) : Bool := L.any fun p => (p.1.uid == x) || (p.1.gid == x)
theorem fnd_take (L : List (Nv × Nod)) (x : Int) (k : Nat) (h : k < L.length) : fnd (L.take (k + 1)) x = (fnd (L.take k) x || (((gl L k).1.uid == x) || ((gl L k).1.gid == x))) := by
  rw [gl_lt L k h, List.take_succ_eq_append_getElem h]
  unfold fnd
  rw [List.any_append]
  simp
theorem us_mem {L : List (Nv × Nod)} (hw : Wf L) (x : Int) : x ∈ (us L).map (·.1) ↔ fnd L x = true := by
  induction L with
  | nil => simp [us, fnd]
  | cons p r ih =>
    have ih := ih (fun q hq => hw q (List.mem_cons_of_mem _ hq))
    obtain ⟨w1, w2⟩ := hw p (List.mem_cons_self ..)
    have e : (us (p :: r)).map (·.1) = p.1.uid :: p.1.gid :: (us r).map (·.1) := by simp [us, i64_val w1, i64_val w2]
    rw [e, List.mem_cons, List.mem_cons, ih]
    unfold fnd
    simp only [List.any_cons, Bool.or_eq_true, beq_iff_eq]
    constructor
    · rintro (h | h | h)
      · exact .inl (.inl h.symm)
      · exact .inl (.inr h.symm)
      · exact .inr h
    · rintro ((h | h) | h)
      · exact .inl h.symm
      · exact .inr (.inl h.symm)
      · exact .inr (.inr h)
theorem any_take (R : List Int) (u : Int) (i : Nat) (h : i < R.length) : (R.take (i + 1)).any (· == u) = ((R.take i).any (· == u) || (g R i == u)) := by
  rw [g_get R i h, List.take_succ_eq_append_getElem h, List.any_append]
  simp
theorem rise_at {R : List Int} (h : R.Pairwise (· < ·)) (i : Nat) (h0 : 0 < i) (hi : i < R.length) : g R (i - 1) < g R i := by
  rw [g_get R (i - 1) (by omega), g_get R i hi]
  exact List.pairwise_iff_getElem.1 h (i - 1) i (by omega) hi (by omega)
theorem owner_in {L : List (Nv × Nod)} {R : List Int} (hw : Wf L) (h : OwnersOf L R) (k : Nat) (hk : k < L.length) : R.any (· == (gl L k).1.uid) = true ∧ R.any (· == (gl L k).1.gid) = true := by
  have key : ∀ x, fnd L x = true → R.any (· == x) = true := fun x hx => by
    rw [List.any_eq_true]
    exact ⟨x, (h.2 x).2 ((us_mem hw x).2 hx), by simp⟩
  constructor
  · refine key _ ?_
    unfold fnd
    rw [List.any_eq_true]
    exact ⟨gl L k, gl_mem L k hk, by simp⟩
  · refine key _ ?_
    unfold fnd
    rw [List.any_eq_true]
    exact ⟨gl L k, gl_mem L k hk, by simp⟩
end Tab
set_option maxHeartbeats 4000000 in
theorem owners_walk (a0 : Option Addr) (len0 cap0 : Nat) (L0 : List (Nv × Nod)) (w : World) (f0 : Ns w a0 len0 L0) (fw : Wf L0) (fc : len0 ≤ cap0) (fm : cap0 ≤ 9223372036854775807) :
    Calls Try.prog 7 #[.slice a0 len0 cap0] w fun e w' => e = .returned (.bool true) ∧ Below w.heap.size w w' := by
  have HN := hide (f0.cut (min len0 100) (by omega))
  have HW := hide (fw.cut (min len0 100))
  clear f0 fw
  go_enter Try.func7, Try.ntmps7
  go_wp2_with fail
  refine (shown_any w).mono ?_
  rintro r ws ⟨rfl, bs0⟩
  have HB0 := hide bs0
  clear bs0
  go_upto_if 15 with fail
  go_cut [0] from 16 to 17 (fun s0 wx => s0 = .slice a0 (min len0 100) cap0 ∧ wx = ws)
  case first =>
    by_cases h3 : 100 < len0
    · have e3 : min len0 100 = 100 := by omega
      go_wp2_with fail
      go_meet
      case rel => exact ⟨by rw [e3], rfl⟩
    · have e3 : min len0 100 = len0 := by omega
      go_wp2_with fail
      go_meet
      case rel => exact ⟨by rw [e3], rfl⟩
  case rest =>
  obtain ⟨rfl, hwc⟩ := hcut
  obtain rfl := hwc.symm
  have hm1 : min len0 100 ≤ 100 := by omega
  generalize L0.take (min len0 100) = L at *
  generalize min len0 100 = n at *
  go_wp2_with fail
  refine (IDs_any a0 n cap0 L ws (HN.out.below HB0.out) (by omega) HW.out).mono ?_
  rintro r w1 ⟨v, R, rfl, hr, hO, b1⟩
  obtain ⟨ao, c1, rfl⟩ := owns_shape hr
  rw [enc_zv] at hr
  have hRm : R.length ≤ 9223372036854775807 := by have := max_of_owns hr; have := cap_of_owns hr; omega
  have HZ := hide (Zs.of hr)
  have HO := hide hO
  have HB1 := hide (HB0.out.trans (b1.mono HB0.out.size))
  have HN1 := hide (HN.out.below HB1.out)
  have hln := HN1.out.1
  clear hr hO b1 HN HB0
  obtain ⟨m, hm⟩ : ∃ m, R.length = m := ⟨_, rfl⟩
  rw [hm] at HZ hRm ⊢
  go_wp2_with fail
  go_loopw [5] (fun s5 wr => ∃ i q : Nat, s5 = .int .i64 i ∧ i ≤ m ∧ wr = w1.drewN q) (fun s5 _ => m - (intOf s5).toNat)
  case atStart => exact ⟨0, 0, rfl, Nat.zero_le _, rfl⟩
  case round =>
    obtain ⟨i, q, rfl, hi, rfl⟩ := hrel
    by_cases hp : i < m
    · obtain ⟨bz, oz, rfl, hbz, hcz⟩ := HZ.out.at (by omega)
      have cz := hcz i hp
      have hd : (i : Int) < (m : Int) := by omega
      have HX : Hid (fnd L (g R i) = true) := (us_mem HW.out _).1 ((HO.out.2 _).1 (by rw [g_get R i (by omega)]; exact List.getElem_mem _))
      have HZ0 : Hid (0 < i → w1.cell? ⟨bz, oz + (i - 1), none⟩ = some (.int .i64 (g R (i - 1))) ∧ g R (i - 1) < g R i) := fun h => ⟨hcz (i - 1) (by omega), rise_at HO.out.1 i h (by omega)⟩
      obtain ⟨x, hx⟩ : ∃ x, x = g R i := ⟨_, rfl⟩
      rw [← hx] at cz HX HZ0
      clear hcz hx
      go_wp2_with fail
      go_loopw [6, 7] (fun s6 s7 wx => ∃ (k q : Nat) (f : Bool), s6 = .bool f ∧ s7 = .int .i64 k ∧ k ≤ n ∧ wx = w1.drewN q ∧ Hid (f = fnd (L.take k) x)) (fun _ s7 _ => n - (intOf s7).toNat)
      case atStart => exact ⟨0, q, false, rfl, rfl, Nat.zero_le _, rfl, rfl⟩
      case round =>
        obtain ⟨k, q2, f, rfl, rfl, hk, rfl, HF⟩ := hrel
        by_cases hkn : k < n
        · obtain ⟨nb, off, rfl, hnb, hN⟩ := HN1.out.at (by omega)
          obtain ⟨_, _, _, _, c4, c5, _⟩ := hN k hkn
          have hdk : (k : Int) < (n : Int) := by omega
          have HT := hide (fnd_take L x k (by omega))
          generalize (gl L k).1 = v at *
          clear hN
          cases f with
          | true =>
            go_wp2_with fail
            go_quiet (fail)
            go_wp2_with fail
            exact ⟨⟨k + 1, _, true, rfl, by go_num, by omega, rfl, by show _ = _; rw [HT.out, ← HF.out]; rfl⟩, by simp [intOf]; omega⟩
          | false =>
            by_cases h1 : v.uid = x
            · have h1' : (v.uid == x) = true := by simpa using h1
              go_wp2_with fail
              go_quiet (fail)
              go_wp2_with fail
              exact ⟨⟨k + 1, _, true, rfl, by go_num, by omega, rfl, by show _ = _; rw [HT.out, ← HF.out, h1']; rfl⟩, by simp [intOf]; omega⟩
            · have h1' : (v.uid == x) = false := by simpa using h1
              go_wp2_with fail
              go_quiet (fail)
              go_wp2_with fail
              exact ⟨⟨k + 1, _, _, rfl, by go_num, by omega, rfl, by show _ = _; rw [HT.out, ← HF.out, h1']; rfl⟩, by simp [intOf]; omega⟩
        · obtain rfl : k = n := by omega
          have hf : f = true := by rw [HF.out, List.take_of_length_le (by omega)]; exact HX.out
          subst hf
          by_cases h0 : 0 < i
          · obtain ⟨z1, z2⟩ := HZ0.out h0
            have h0' : (0 : Int) < (i : Int) := by omega
            have v1 : IntKind.i64.wrap ((i : Int) - 1) = ((i - 1 : Nat) : Int) := by rw [IntWalk.i64_in _ (by omega)]; omega
            have z3 : ¬ x ≤ g R (i - 1) := by omega
            generalize g R (i - 1) = y at *
            go_wp2_with fail
            go_quiet (fail)
            go_wp2_with fail
            exact ⟨⟨i + 1, _, by go_num, by omega, rfl⟩, by simp [intOf]; omega⟩
          · obtain rfl : i = 0 := by omega
            go_wp2_with fail
            go_quiet (fail)
            go_wp2_with fail
            exact ⟨⟨0 + 1, _, by go_num, by omega, rfl⟩, by simp [intOf]; omega⟩
    · obtain rfl : i = m := by omega
      go_wp2_with fail
      go_loopw [8] (fun s8 wr => ∃ k q : Nat, s8 = .int .i64 k ∧ k ≤ n ∧ wr = w1.drewN q) (fun s8 _ => n - (intOf s8).toNat)
      case atStart => exact ⟨0, q, rfl, Nat.zero_le _, rfl⟩
      case round =>
        obtain ⟨k, q, rfl, hk, rfl⟩ := hrel
        by_cases hkn : k < n
        · obtain ⟨nb, off, rfl, hnb, hN⟩ := HN1.out.at (by omega)
          obtain ⟨_, _, _, _, c4, c5, _⟩ := hN k hkn
          have hdk : (k : Int) < (n : Int) := by omega
          have HI := hide (owner_in HW.out HO.out k (by omega))
          generalize (gl L k).1 = v at *
          clear hN
          go_wp2_with fail
          go_loopw [9, 10, 11] (fun s9 s10 s11 wx => ∃ (j q : Nat) (f h : Bool), s9 = .bool f ∧ s10 = .bool h ∧ s11 = .int .i64 j ∧ j ≤ i ∧ wx = w1.drewN q ∧ Hid (f = (R.take j).any (· == v.uid)) ∧ Hid (h = (R.take j).any (· == v.gid))) (fun _ _ s11 _ => i - (intOf s11).toNat)
          case atStart => exact ⟨0, q, false, false, rfl, rfl, rfl, Nat.zero_le _, rfl, rfl, rfl⟩
          case round =>
            obtain ⟨j, q3, f, h, rfl, rfl, rfl, hj, rfl, HF, HH⟩ := hrel
            by_cases hjm : j < i
            · obtain ⟨bz, oz, rfl, hbz, hcz⟩ := HZ.out.at (by omega)
              have cz := hcz j hjm
              have hdj : (j : Int) < (i : Int) := by omega
              have HT1 := hide (any_take R v.uid j (by omega))
              have HT2 := hide (any_take R v.gid j (by omega))
              generalize g R j = x at *
              clear hcz
              cases f with
              | true =>
                cases h with
                | true =>
                  go_wp2_with fail
                  go_quiet (fail)
                  go_wp2_with fail
                  go_quiet (fail)
                  go_wp2_with fail
                  go_roundw
                  case rel => exact ⟨j + 1, _, true, true, rfl, rfl, by go_num, by omega, rfl, by show _ = _; rw [HT1.out, ← HF.out]; rfl, by show _ = _; rw [HT2.out, ← HH.out]; rfl⟩
                  case measure => simp [intOf]; omega
                | false =>
                  go_wp2_with fail
                  go_quiet (fail)
                  go_wp2_with fail
                  go_quiet (fail)
                  go_wp2_with fail
                  go_roundw
                  case rel => exact ⟨j + 1, _, true, _, rfl, rfl, by go_num, by omega, rfl, by show _ = _; rw [HT1.out, ← HF.out]; rfl, by show _ = _; rw [HT2.out, ← HH.out]; rfl⟩
                  case measure => simp [intOf]; omega
              | false =>
                cases h with
                | true =>
                  go_wp2_with fail
                  go_quiet (fail)
                  go_wp2_with fail
                  go_quiet (fail)
                  go_wp2_with fail
                  go_roundw
                  case rel => exact ⟨j + 1, _, _, true, rfl, rfl, by go_num, by omega, rfl, by show _ = _; rw [HT1.out, ← HF.out]; rfl, by show _ = _; rw [HT2.out, ← HH.out]; rfl⟩
                  case measure => simp [intOf]; omega
                | false =>
                  go_wp2_with fail
                  go_quiet (fail)
                  go_wp2_with fail
                  go_quiet (fail)
                  go_wp2_with fail
                  go_roundw
                  case rel => exact ⟨j + 1, _, _, _, rfl, rfl, by go_num, by omega, rfl, by show _ = _; rw [HT1.out, ← HF.out]; rfl, by show _ = _; rw [HT2.out, ← HH.out]; rfl⟩
                  case measure => simp [intOf]; omega
            · obtain rfl : j = i := by omega
              have hf : f = true := by rw [HF.out, List.take_of_length_le (by omega)]; exact HI.out.1
              have hh : h = true := by rw [HH.out, List.take_of_length_le (by omega)]; exact HI.out.2
              subst hf hh
              go_wp2_with fail
              exact ⟨⟨k + 1, _, by go_num, by omega, rfl⟩, by simp [intOf]; omega⟩
        · obtain rfl : k = n := by omega
          go_wp2
          go_ret
          exact ⟨rfl, below_drewN HB1.out _⟩
end Go.Proofs.Ytgkclldiphcogaa

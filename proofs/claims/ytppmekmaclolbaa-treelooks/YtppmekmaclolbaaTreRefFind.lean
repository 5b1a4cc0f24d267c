/- Layer 7: the reference's Find and isDir. -/
import Derived.Test.YtppmekmaclolbaaTreName
import Derived.Test.YtppmekmaclolbaaNamCmp
namespace Go.Proofs.Ytppmekmaclolbaa
set_option linter.unusedVariables false
open Go.RowKit Go.Maps
open Nam Tre

theorem nm_dec (l k : List ByteArray) : decide (nm l = nm k) = decide (l = k) := by
  rw [Bool.eq_iff_iff, decide_eq_true_eq, decide_eq_true_eq]
  exact ⟨nm_inj, fun h => by rw [h]⟩
/-- Two rows of which the second may be of any length. -/
theorem refSame_one (a b : Option Addr) (n c m d : Nat) (l k : List ByteArray) (w : World) (hl : Rs w a n l) (hk : Rs w b m k) (hn : n ≤ 1000000) :
    Calls Try.prog 25 #[.slice a n c, .slice b m d] w fun e w' => e = .returned (.bool (decide (l = k))) ∧ ∃ q, w' = w.drewN q := by
  by_cases hnm : n = m
  · have := refSame_any a b n c m d l k w hl hk hn (by omega)
    rw [nm_dec] at this
    exact this
  · have hnm' : ((n : Int) != m) = true := by simp; omega
    have hne : Hid (false = decide (l = k)) := by
      show _ = _
      symm
      rw [decide_eq_false_iff_not]
      intro h
      have := congrArg List.length h
      rw [hl.1, hk.1] at this
      exact hnm this
    clear hl hk
    go_enter Try.func25, Try.ntmps25
    go_wp2
    go_ret
    exact ⟨ret_bool hne.out, 0, rfl⟩
namespace Tre
/-- The node of some names. -/
def nmd (m : List ByteArray) (n : Nod) : Bool := decide (n.names = m)
theorem fi_spec (p : Nod → Bool) : ∀ (l : List Nod) (i : Nat), (fi p i l = -1 ∧ l.find? p = none) ∨ ∃ j, fi p i l = ((i + j : Nat) : Int) ∧ ∃ (h : j < l.length), l.find? p = some l[j]
  | [], i => .inl ⟨rfl, rfl⟩
  | n :: r, i => by
    unfold fi
    rw [List.find?_cons]
    cases hp : p n with
    | true => exact .inr ⟨0, by simp, by simp, rfl⟩
    | false =>
      simp only [Bool.false_eq_true, if_false]
      rcases fi_spec p r (i + 1) with h | ⟨j, h1, h2, h3⟩
      · exact .inl h
      · exact .inr ⟨j + 1, by rw [h1]; congr 1; omega, by simp; omega, by simpa using h3⟩
end Tre
set_option maxRecDepth 100000 in
theorem refFind_any (a : Option Addr) (n c : Nat) (L : List (Nv × Nod)) (b : Option Addr) (m d : Nat) (k : List ByteArray) (w : World) (hl : Ns w a n L) (hc : n ≤ c) (hcm : c ≤ 9223372036854775807) (hk : Rs w b m k) (h20 : ∀ p ∈ L, p.2.names.length ≤ 1000000) :
    Calls Try.prog 19 #[.slice a n c, .slice b m d] w fun e w' => e = .returned (.int .i64 (fi (nmd k) 0 (nds L))) ∧ ∃ q, w' = w.drewN q := by
  have HL := hide hl
  have HLN := hide hl.1
  have HK := hide hk
  have H20 := hide h20
  clear hl hk h20
  go_enter Try.func19, Try.ntmps19
  go_wp2
  go_loopw [5, 6] (fun r _ wr => ∃ i q : Nat, wr = w.drewN q ∧ r = .int .i64 i ∧ i ≤ n ∧ fi (nmd k) 0 (nds L) = fi (nmd k) i ((nds L).drop i)) (fun r _ _ => n - (intOf r).toNat)
  case atStart => exact ⟨0, 0, rfl, rfl, Nat.zero_le _, rfl⟩
  case round =>
    obtain ⟨i, q, rfl, rfl, hi0, hinv⟩ := hrel
    have HI := hide hinv
    by_cases hi : i < n
    · have hd : decide ((i : Int) < n) = true := by simpa using hi
      obtain ⟨ba, oa, rfl, hba, hca⟩ := HL.out.at (by omega)
      obtain ⟨c0, _, _, _, _, _, _, _, _, _⟩ := hca i hi
      have HE := hide (nds_drop L i (by rw [HLN.out]; exact hi))
      have hr := HL.out.rep i hi
      have hnn : (gl L i).1.nn ≤ 1000000 := by have := hr.names.1; have := H20.out (gl L i) (gl_mem L i (by rw [HLN.out]; exact hi)); omega
      have HC := hide (refSame_one (gl L i).1.na b (gl L i).1.nn (gl L i).1.nc m d (gl L i).2.names k (w.drewN q) (hr.names.drewN q) (HK.out.drewN q) hnn)
      obtain ⟨z, hz⟩ : ∃ z, nmd k (gl L i).2 = z := ⟨_, rfl⟩
      have HZ := hide hz
      rw [show decide ((gl L i).2.names = k) = z from hz] at HC
      clear hca hinv hz hr
      go_wp2_with (go_at_call 25; refine HC.out.mono ?_)
      rintro e w1 ⟨rfl, q1, rfl⟩
      cases z with
      | true =>
        go_wp2
        go_ret
        exact ⟨ret_int (by rw [HI.out, HE.out, fi, HZ.out]; rfl), _, rfl⟩
      | false =>
        go_wp2
        refine ⟨⟨i + 1, q + q1, by simp, by go_num, by omega, ?_⟩, by simp [intOf]; omega⟩
        rw [HI.out, HE.out, fi, HZ.out]; rfl
    · have hd : decide ((i : Int) < n) = false := by simpa using hi
      go_wp2
      go_ret
      refine ⟨ret_int ?_, q, rfl⟩
      rw [HI.out, List.drop_eq_nil_of_le (by rw [nds_length, HLN.out]; omega)]; rfl
set_option maxRecDepth 100000 in
theorem refIsDir_any (a : Option Addr) (n c : Nat) (L : List (Nv × Nod)) (b : Option Addr) (m d : Nat) (k : List ByteArray) (w : World) (hl : Ns w a n L) (hc : n ≤ c) (hcm : c ≤ 9223372036854775807) (hk : Rs w b m k) (h20 : ∀ p ∈ L, p.2.names.length ≤ 1000000) :
    Calls Try.prog 61 #[.slice a n c, .slice b m d] w fun e w' => e = .returned (.bool (isDir (nds L) k)) ∧ ∃ q, w' = w.drewN q := by
  have HF := hide (refFind_any a n c L b m d k w hl hc hcm hk h20)
  have HL := hide hl
  have HLN := hide hl.1
  rcases fi_spec (nmd k) (nds L) 0 with ⟨h1, h2⟩ | ⟨j, h1, h2, h3⟩
  · rw [h1] at HF
    have HD : Hid (isDir (nds L) k = false) := by
      show _ = _
      unfold isDir
      have h2' : (nds L).find? (fun n => decide (n.names = k)) = none := h2
      rw [h2']
    clear hl hk h1 h2
    go_enter Try.func61, Try.ntmps61
    go_wp2_with (go_at_call 19; refine HF.out.mono ?_; rintro e w1 ⟨rfl, q1, rfl⟩)
    go_ret
    exact ⟨ret_bool HD.out.symm, q1, rfl⟩
  · rw [Nat.zero_add] at h1
    rw [h1] at HF
    have hj : j < n := by rw [nds_length, hl.1] at h2; exact h2
    obtain ⟨ba, oa, rfl, hba, hca⟩ := hl.at (by omega)
    obtain ⟨_, _, c2, _, _, _, _, _, _, _⟩ := hca j hj
    have HD : Hid (((gl L j).1.kind == 1) = isDir (nds L) k) := by
      show _ = _
      unfold isDir
      have h3' : (nds L).find? (fun n => decide (n.names = k)) = some (nds L)[j] := h3
      have e : (nds L)[j] = (gl L j).2 := by rw [gl_lt L j (by rw [HLN.out]; exact hj)]; simp [nds]
      rw [h3', e, ← (hl.rep j hj).kind]
      rw [Bool.eq_iff_iff, beq_iff_eq, decide_eq_true_eq]
    have hj1 : (j : Int) < n := by omega
    have hj0 : (0 : Int) ≤ j := by omega
    clear hl hk h1 h2 h3 hca
    go_enter Try.func61, Try.ntmps61
    go_wp2_with (go_at_call 19; refine HF.out.mono ?_; rintro e w1 ⟨rfl, q1, rfl⟩)
    go_ret
    exact ⟨ret_bool HD.out, q1, rfl⟩
end Go.Proofs.Ytppmekmaclolbaa

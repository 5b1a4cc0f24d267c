/- Layer 10: the reference's Same and Look. -/
import Derived.Test.YtdenbbljbkpbdaaDirLook
import Derived.BigQuiet
namespace Go.Proofs.Ytdenbbljbkpbdaa
set_option linter.unusedVariables false
set_option maxRecDepth 100000
open Go.RowKit Go.Maps
open Nam Cur Cap Dir

namespace Dir
/-- Whether two entries, or two lists, are the same. -/
def entEq (A B : Ent) : Bool := decide (A.name = B.name) && (decide (A.kind = B.kind) && decide (A.ref = B.ref))
theorem entEq_iff (A B : Ent) : entEq A B = true ↔ A = B := by
  obtain ⟨an, ak, ar⟩ := A
  obtain ⟨bn, bk, br⟩ := B
  simp [entEq]
def sameL : List Ent → List Ent → Bool
  | [], [] => true
  | A :: L, B :: M => entEq A B && sameL L M
  | [], _ :: _ => false
  | _ :: _, [] => false
theorem sameL_iff : ∀ (L M : List Ent), sameL L M = true ↔ L = M
  | [], [] => by simp [sameL]
  | A :: L, B :: M => by rw [sameL, Bool.and_eq_true, entEq_iff, sameL_iff L M]; simp
  | [], _ :: _ => by simp [sameL]
  | _ :: _, [] => by simp [sameL]
theorem sameL_refl (L : List Ent) : sameL L L = true := (sameL_iff L L).2 rfl
theorem sameL_not {L M : List Ent} (h : ¬ L = M) : false = sameL L M := by
  cases e : sameL L M with
  | false => rfl
  | true => exact absurd ((sameL_iff L M).1 e) h
theorem drop_step {L M : List Ent} {i : Nat} (h : i < L.length) (k : i < M.length) : L.drop i = M.drop i ↔ gl L i = gl M i ∧ L.drop (i + 1) = M.drop (i + 1) := by
  rw [drop_gl L i h, drop_gl M i k]; simp
theorem equal_ent (A B : Ent) (w : World) : (Op.equalIn 10000 35 (.agg (ev A)) (.agg (ev B))).run Try.prog w = .ok (entEq A B) w := by
  unfold entEq
  obtain ⟨an, ak, ar⟩ := A
  obtain ⟨bn, bk, br⟩ := B
  have e : (an.toList == bn.toList) = decide (an = bn) := by
    rw [Bool.eq_iff_iff, beq_iff_eq, decide_eq_true_eq]
    exact ⟨toList_inj, fun h => by rw [h]⟩
  unfold ev
  simp only
  go_simp
  repeat' split
  all_goals simp_all
theorem ent_ne {A B : Ent} (h : A ≠ B) : A.name ≠ B.name ∨ (A.name = B.name ∧ A.kind ≠ B.kind) ∨ (A.name = B.name ∧ A.kind = B.kind ∧ A.ref ≠ B.ref) := by
  obtain ⟨an, ak, ar⟩ := A
  obtain ⟨bn, bk, br⟩ := B
  by_cases h1 : an = bn
  · by_cases h2 : ak = bk
    · exact .inr (.inr ⟨h1, h2, fun h3 => h (by simp only at h3; rw [h1, h2, h3])⟩)
    · exact .inr (.inl ⟨h1, h2⟩)
  · exact .inl h1
end Dir
theorem same_any (a b : Option Addr) (n c m d : Nat) (L M : List Ent) (w : World) (hl : Es w a n L) (hk : Es w b m M) (hn : n ≤ 1000000) (hm : m ≤ 1000000) :
    Calls Try.prog 12 #[.slice a n c, .slice b m d] w fun e w' => e = .returned (.bool (sameL L M)) ∧ ∃ q, w' = w.drewN q := by
  have HL := hide hl
  have HK := hide hk
  have HLN := hide hl.1
  have HKN := hide hk.1
  clear hl hk
  by_cases hnm : n = m
  · subst hnm
    go_enter Try.func12, Try.ntmps12
    go_wp2
    go_loopw [5] (fun r wr => ∃ i q : Nat, wr = w.drewN q ∧ r = .int .i64 i ∧ i ≤ n ∧ (L = M ↔ L.drop i = M.drop i)) (fun r _ => n - (intOf r).toNat)
    case atStart => exact ⟨0, 0, rfl, rfl, Nat.zero_le _, Iff.rfl⟩
    case round =>
      obtain ⟨i, q, rfl, rfl, hi0, hinv⟩ := hrel
      have HI := hide hinv
      clear hinv
      by_cases hp : i < n
      · have hd : decide ((i : Int) < n) = true := by simpa using hp
        obtain ⟨ba, oa, rfl, hba, hca⟩ := HL.out.at (by omega)
        obtain ⟨bb, ob, rfl, hbb, hcb⟩ := HK.out.at (by omega)
        have ES := hide (drop_step (L := L) (M := M) (i := i) (by rw [HLN.out]; exact hp) (by rw [HKN.out]; exact hp))
        have h1 := hca i hp
        have h2 := hcb i hp
        generalize gl L i = A at *
        generalize gl M i = B at *
        obtain ⟨a0, a1, a2⟩ := range_cells h1
        obtain ⟨b0, b1, b2⟩ := range_cells h2
        clear hca hcb h1 h2
        by_cases hAB : A = B
        · subst hAB
          go_wp2
          go_quiet (fail)
          go_wp2
          refine ⟨⟨i + 1, _, rfl, by go_num, by omega, ?_⟩, by simp [intOf]; omega⟩
          rw [HI.out, ES.out]
          simp
        · have HF : Hid (false = sameL L M) := by
            refine sameL_not ?_
            rw [HI.out, ES.out]
            exact fun h => hAB h.1
          have HNe := ent_ne hAB
          have hs : (A.name.toList == B.name.toList) = decide (A.name = B.name) := by
            rw [Bool.eq_iff_iff, beq_iff_eq, decide_eq_true_eq]
            exact ⟨toList_inj, fun h => by rw [h]⟩
          clear hAB
          rcases HNe with h1 | ⟨h1, h2⟩ | ⟨h1, h2, h3⟩
          · have h4 : (A.name.toList == B.name.toList) = false := by rw [hs, decide_eq_false h1]
            clear hs h1
            go_wp2
            go_quiet (fail)
            go_wp2
            go_ret
            exact ⟨ret_bool HF.out, dr2 _ _ _⟩
          all_goals
            clear hs
            go_wp2
            go_quiet (fail)
            go_wp2
            go_ret
            exact ⟨ret_bool HF.out, dr2 _ _ _⟩
      · have hd : decide ((i : Int) < n) = false := by simpa using hp
        go_wp2
        go_ret
        refine ⟨ret_bool ?_, q, rfl⟩
        symm
        rw [sameL_iff, HI.out, List.drop_eq_nil_of_le (by rw [HLN.out]; omega), List.drop_eq_nil_of_le (by rw [HKN.out]; omega)]
  · have hnm' : ((n : Int) != m) = true := by simp; omega
    have hne : Hid (false = sameL L M) := by
      refine sameL_not ?_
      intro h
      exact hnm (by rw [← HLN.out, ← HKN.out, h])
    go_enter Try.func12, Try.ntmps12
    go_wp2
    go_ret
    exact ⟨ret_bool hne.out, 0, rfl⟩
end Go.Proofs.Ytdenbbljbkpbdaa

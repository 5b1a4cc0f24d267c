/- Layer 10: the reference's Look. -/
import Derived.Test.YtdenbbljbkpbdaaDirSame
namespace Go.Proofs.Ytdenbbljbkpbdaa
set_option linter.unusedVariables false
set_option maxRecDepth 100000
open Go.RowKit Go.Maps
open Nam Cur Cap Dir

theorem refLook_any (a : Option Addr) (n c : Nat) (L : List Ent) (t : ByteArray) (w : World) (hl : Es w a n L) (hn : n ≤ 1000000) :
    Calls Try.prog 16 #[.slice a n c, .string t] w fun r w' => r = .returned (.tuple #[.agg (ev (lk t L).1), .int .i64 (lk t L).2]) ∧ Below w.heap.size w w' := by
  have HL := hide hl
  have HLN := hide hl.1
  obtain ⟨w1, hw1⟩ : ∃ w1, w1 = w.alloc (.cells (ev z0) 35) := ⟨_, rfl⟩
  have b1 : Below w.heap.size w w1 := by rw [hw1]; exact below_one _ _
  have h1 : w1.heap[w.heap.size]? = some (.cells (ev z0) 35 (0, 0)) := by rw [hw1]; exact heap_new rfl
  have HL1 := hide (hl.below b1)
  have HW1 := hide hw1
  have HB1 := hide b1
  have H1 := hide h1
  clear hl hw1 b1 h1
  unfold ev z0 at HW1
  simp only at HW1
  go_enter Try.func16, Try.ntmps16
  go_wp2_with fail
  rw [← HW1.out]
  go_loopw [6] (fun r wr => ∃ i : Nat, wr = w1 ∧ r = .int .i64 i ∧ i ≤ n ∧ lk t L = lk t (L.drop i)) (fun r _ => n - (intOf r).toNat)
  case atStart => exact ⟨0, rfl, rfl, Nat.zero_le _, rfl⟩
  case round =>
    obtain ⟨i, rfl, rfl, hi0, hinv⟩ := hrel
    have HI := hide hinv
    clear hinv
    by_cases hp : i < n
    · have hd : decide ((i : Int) < n) = true := by simpa using hp
      obtain ⟨ba, oa, rfl, hba, hca⟩ := HL1.out.at (by omega)
      have HD := hide (drop_gl L i (by rw [HLN.out]; exact hp))
      have h1 := hca i hp
      generalize gl L i = E at *
      obtain ⟨c0, c1, c2⟩ := range_cells h1
      clear hca h1
      by_cases he : E.name = t
      · have hq : (E.name.toList == t.toList) = true := by rw [he]; simp
        have HLk : Hid (lk t L = (E, 0)) := by show lk t L = _; rw [HI.out, HD.out, lk, if_pos he]
        clear he
        go_wp2_with (refine wpList_store_row rfl _ _ _ rfl w.heap.size (ev E) rfl rfl 35 _ H1.out infoRec rfl (ev_one _) ?_)
        refine bodyPost_ret (v := .tuple #[.agg (ev E), .int .i64 0]) ?_ rfl ⟨by rw [HLk.out], below_setRow HB1.out (Nat.le_refl _) _⟩
        exact results_cr2 (p := 4) (u := 5) rfl _ _ w.heap.size (ev E) rfl (load_rec (setRow_heap _ _ _ _ _ _ H1.out) rfl)
      · have hq : (E.name.toList == t.toList) = false := by
          cases hh : (E.name.toList == t.toList) with
          | false => rfl
          | true => exact absurd (toList_inj (by simpa using hh)) he
        have HLk : Hid (lk t L = lk t (L.drop (i + 1))) := by show lk t L = _; rw [HI.out, HD.out, lk, if_neg he]
        clear he
        go_wp2
        exact ⟨⟨i + 1, trivial, by go_num, by omega, HLk.out⟩, by simp [intOf]; omega⟩
    · have hd : decide ((i : Int) < n) = false := by simpa using hp
      have HLk : Hid (lk t L = (z0, 20)) := by show lk t L = _; rw [HI.out, List.drop_eq_nil_of_le (by rw [HLN.out]; omega)]; rfl
      go_wp2_with (refine wpList_store_row rfl _ _ _ rfl w.heap.size (ev z0) rfl rfl 35 _ H1.out infoRec rfl (ev_one _) ?_)
      refine bodyPost_ret (v := .tuple #[.agg (ev z0), .int .i64 20]) ?_ rfl ⟨by rw [HLk.out], below_setRow HB1.out (Nat.le_refl _) _⟩
      exact results_cr2 (p := 4) (u := 5) rfl _ _ w.heap.size (ev z0) rfl (load_rec (setRow_heap _ _ _ _ _ _ H1.out) rfl)
end Go.Proofs.Ytdenbbljbkpbdaa

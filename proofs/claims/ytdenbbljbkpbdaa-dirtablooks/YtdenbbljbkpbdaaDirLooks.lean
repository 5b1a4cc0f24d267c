/- Layer 10: DirtabLooks: in a list any name is found, or not, as the document says. -/
import Derived.Test.YtdenbbljbkpbdaaDirShown
import Derived.Test.YtdenbbljbkpbdaaDirRefPut
namespace Go.Proofs.Ytdenbbljbkpbdaa
set_option linter.unusedVariables false
set_option maxRecDepth 100000
open Go.RowKit Go.Maps
open Nam Cur Cap Dir

set_option maxHeartbeats 2000000 in
theorem looks_walk (a0 : Option Addr) (len0 cap0 : Nat) (L0 : List Ent) (s1 : ByteArray) (w : World) (f0 : Es w a0 len0 L0) (fc0 : len0 ≤ cap0) (fm0 : cap0 ≤ 9223372036854775807) (fi0 : ∀ E ∈ L0, E.In) (fn0 : a0 = none → cap0 = 0) (ws1 : s1.size ≤ maxLen) :
    Calls Try.prog 5 #[.slice a0 len0 cap0, .string s1] w fun e w' => e = .returned (.bool true) ∧ Below w.heap.size w w' := by
  have HF := hide f0
  clear f0 fi0 fn0 ws1
  go_enter Try.func5, Try.ntmps5
  go_wp2_with fail
  refine (shown_any w).mono ?_
  rintro r w1 ⟨rfl, b1⟩
  have HB1 := hide b1
  have HF1 := hide (HF.out.below b1)
  clear b1 HF
  go_wp2_with fail
  refine (few_any a0 len0 cap0 L0 w1 HF1.out fc0 fm0).mono ?_
  rintro r w1' ⟨n, rfl, hE, hnc, hn60, rfl⟩
  generalize L0.take 60 = L at *
  have hEn := hE.1
  have HE := hide hE
  clear hE HF1
  have HR := hide (refDPut_any a0 n cap0 L w1' HE.out (by omega))
  unfold RPuts at HR
  go_wp2_with fail
  cases hq : may L with
  | false =>
    rw [hq] at HR
    refine HR.out.mono ?_
    rintro r w2 (⟨h, _⟩ | ⟨_, rfl, b2⟩)
    · cases h
    have HB2 := hide (HB1.out.trans (b2.mono HB1.out.size))
    clear b2 HR hq
    go_wp2
    go_ret
    exact ⟨rfl, HB2.out⟩
  | true =>
    rw [hq] at HR
    refine HR.out.mono ?_
    rintro r w2 (⟨_, aP, cP, rfl, hB2, hcP, hmP, hnP, b2⟩ | ⟨h, _⟩)
    rotate_left
    · cases h
    have HB2 := hide (HB1.out.trans (b2.mono HB1.out.size))
    have HE2 := hide (HE.out.below b2)
    have hpl := putB_length (may_fit hq)
    have HLk := hide (dLook_any (putB L).length cP aP L s1 w2 hq hB2 hcP hnP (by omega))
    have HRl := hide (fun w3 (h : Es w3 a0 n L) => refLook_any a0 n cap0 L s1 w3 h (by omega))
    generalize lk s1 L = R at *
    obtain ⟨X, y⟩ := R
    generalize (putB L).length = m at *
    clear b2 hB2 hcP hmP hnP HR hq HE hpl
    unfold ev at HLk HRl
    simp only at HLk HRl
    go_wp2_with fail
    refine HLk.out.mono ?_
    rintro r w3 ⟨rfl, b3⟩
    obtain ⟨w4, hw4⟩ : ∃ w4, w4 = w3.alloc (.cells (ev X) 35) := ⟨_, rfl⟩
    have b34 : Below w3.heap.size w3 w4 := by rw [hw4]; exact below_one _ _
    have b24 : Below w2.heap.size w2 w4 := b3.trans (b34.mono b3.size)
    have h4 : w4.heap[w3.heap.size]? = some (.cells (ev X) 35 (0, 0)) := by rw [hw4]; exact heap_new rfl
    have HE4 := hide (HE2.out.below b24)
    have HB4 := hide (HB2.out.trans (b24.mono HB2.out.size))
    have HW4 := hide hw4
    have H4 := hide h4
    clear b3 b34 b24 hw4 h4 HLk
    unfold ev at HW4
    go_wp2_with fail
    rw [← HW4.out]
    refine (HRl.out w4 HE4.out).mono ?_
    rintro r w5 ⟨rfl, b5⟩
    have h5 := (b5.block _ (heap_lt H4.out)).trans H4.out
    have y0 : w5.cell? ⟨w3.heap.size, 0, none⟩ = some (.string X.name) := cell_of_row _ _ _ _ _ _ h5
    have y1 : w5.cell? ⟨w3.heap.size, 1, none⟩ = some (.int .i64 X.kind) := cell_of_row _ _ _ _ _ _ h5
    have y2 : w5.cell? ⟨w3.heap.size, 2, none⟩ = some (.int .i64 X.ref) := cell_of_row _ _ _ _ _ _ h5
    have hl5 := heap_lt h5
    have HB5 := hide (HB4.out.trans (b5.mono HB4.out.size))
    obtain ⟨w6, hw6⟩ : ∃ w6, w6 = w5.alloc (.cells #[.string X.name, .int .i64 X.kind, .int .i64 X.ref] 35) := ⟨_, rfl⟩
    have b56 : Below w5.heap.size w5 w6 := by rw [hw6]; exact below_one _ _
    have HB6 := hide (HB5.out.trans (b56.mono HB5.out.size))
    have HW6 := hide hw6
    clear b5 h5 b56 hw6 HRl
    go_wp2
    go_ret
    rw [← HW6.out]
    exact ⟨rfl, HB6.out⟩
end Go.Proofs.Ytdenbbljbkpbdaa

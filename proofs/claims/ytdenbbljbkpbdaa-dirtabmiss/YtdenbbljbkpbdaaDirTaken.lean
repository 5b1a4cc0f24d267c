/- Layer 10: Take, by the program: what it answers. -/
import Derived.Test.YtdenbbljbkpbdaaDirTake
import Derived.Laws.EntriesVeiled
namespace Go.Proofs.Ytdenbbljbkpbdaa
set_option linter.unusedVariables false
set_option maxRecDepth 100000
open Go.RowKit Go.Maps
open Nam Cur Cap Dir

/-- What Take answers. -/
def DTakes (zs : List Int) (w : World) (r : Ending) (w' : World) : Prop :=
  (tk zs = true ∧ ∃ ao c, r = .returned (.tuple #[.slice ao (par zs).1.length c, .int .i64 0]) ∧ Es w' ao (par zs).1.length (par zs).1 ∧ (par zs).1.length ≤ c ∧ c ≤ 9223372036854775807 ∧ Below w.heap.size w w') ∨
  (tk zs = false ∧ r = .returned (.tuple #[.slice none 0 0, .int .i64 2]) ∧ Below w.heap.size w w')
set_option maxHeartbeats 2000000 in
theorem dTake_any (n c : Nat) (ao : Option Addr) (zs : List Int) (w : World) (hb : Bs w ao n zs) (hc : n ≤ c) (hnil : ao = none → c = 0) (hn : n ≤ 1000000) :
    Calls Try.prog 13 #[.slice ao n c] w fun r w' => DTakes zs w r w' := by
  obtain ⟨w1, hw1⟩ : ∃ w1, w1 = w.alloc (.cells #[.slice none 0 0] 22) := ⟨_, rfl⟩
  have h1 : w1.heap[w.heap.size]? = some (.cells #[.slice none 0 0] 22 (0, 0)) := by rw [hw1]; exact heap_new rfl
  have b1 : Below w.heap.size w w1 := by rw [hw1]; exact below_one _ _
  have HBs := hide hb
  have HB1 := hide b1
  have H1 := hide h1
  have HW1 := hide hw1
  clear hb b1 h1 hw1
  go_enter Try.func13, Try.ntmps13
  go_wp2_with fail
  rw [← HW1.out]
  refine (newList_any w1).mono ?_
  rintro r w2 ⟨q, rfl, hC2, hq, hb2⟩
  obtain ⟨w3, hw3⟩ : ∃ w3, w3 = w2.alloc (.cells #[.func (.func 31) #[] #[.pointer (some ⟨q, 0, none⟩)]] 46) := ⟨_, rfl⟩
  have b23 : Below w2.heap.size w2 w3 := by rw [hw3]; exact below_one _ _
  have h2 := (hb2.block _ (heap_lt H1.out)).trans H1.out
  have h3 := (b23.block _ (heap_lt h2)).trans h2
  have bw2 : Below w.heap.size w w2 := HB1.out.trans (hb2.mono HB1.out.size)
  have bw3 : Below w.heap.size w w3 := bw2.trans (b23.mono bw2.size)
  obtain ⟨O, hO⟩ : ∃ O : Nat → Prop, ∀ k, O k ↔ k = w.heap.size ∨ k = w2.heap.size ∨ k = q ∨ (Value.slice none 0 0).ownBlock = some k := ⟨_, fun k => Iff.rfl⟩
  have hT : TI w.heap.size w.heap.size w2.heap.size q 0 w3 O ([], em) :=
    ⟨⟨.slice none 0 0, h3, ⟨rfl, .inl ⟨rfl, rfl⟩⟩, hO⟩, by rw [hw3]; exact heap_new rfl, hC2.below b23, rfl, bw3.size⟩
  have hOO : ∀ k, O k → k = w.heap.size ∨ k = w2.heap.size ∨ k = q := fun k hk => by
    rcases (hO k).1 hk with h | h | h | h
    · exact .inl h
    · exact .inr (.inl h)
    · exact .inr (.inr h)
    · simp [Value.ownBlock] at h
  have hOw : ∀ k, O k → w.heap.size ≤ k := fun k hk => by
    have e1 := HB1.out.size
    have e2 := bw2.size
    rcases hOO k hk with h | h | h <;> omega
  have HE := hide (each_any tst (TI w.heap.size w.heap.size w2.heap.size q) 27 #[.pointer (some ⟨w.heap.size, 0, none⟩), .pointer (some ⟨w2.heap.size, 0, none⟩)]
    (enters 27 Try.func27 (by decide +kernel) rfl) (fun j w O s E hj h hE => takeStep _ _ _ _ j w O s E hj h hE) (fun j w w' O S s h hf hn => h.fr hf hn) O
    (fun j w O' s h => ⟨h.lt, fun k hk => h.noB k (hOO k hk)⟩) n c ao zs w3 (HBs.out.below bw3) hc hnil hn ([], em) hT)
  have HOw := hide hOw
  have HB3 := hide bw3
  have HW3 := hide hw3
  obtain ⟨R, hR⟩ : ∃ R, R = run tst (par zs).1 (par zs).2 ([], em) := ⟨_, rfl⟩
  have hrt := run_take (par zs).2 (par zs).1 [] em
  rw [← hR] at HE hrt
  have HRt : Hid (R.1 = tk zs ∧ (R.1 = true → R.2.1 = (par zs).1)) := ⟨hrt.1, fun h => by rw [hrt.2 h]; simp⟩
  clear hC2 hb2 hq hw3 b23 h2 h3 bw2 bw3 hO hT hOO hOw hR hrt H1 HW1
  go_wp2_with fail
  rw [← HW3.out]
  refine HE.out.mono ?_
  rintro r w4 ⟨j, O4, rfl, hI4, hF4, _⟩
  have HB4 : Hid (Below w.heap.size w w4) := HB3.out.trans (hF4.below _ HB3.out.size HOw.out)
  have HI4 := hide hI4
  obtain ⟨v4, ha4, ho4, _⟩ := hI4.ls
  have c4 : w4.cell? ⟨w.heap.size, 0, none⟩ = some v4 := cell_of_row _ _ _ _ _ _ ha4
  have HO4 := hide ho4
  obtain ⟨ao4, cc4, rfl⟩ := owns_shape ho4
  obtain ⟨b, sR⟩ := R
  simp only at HRt HI4 HO4 c4 ⊢
  clear hI4 hF4 ha4 ho4 HE HW3
  cases b with
  | false =>
    go_wp2
    go_ret2
    exact .inr ⟨HRt.out.1.symm, rfl, HB4.out⟩
  | true =>
    have e := HRt.out.2 rfl
    rw [e] at HO4 c4
    go_wp2
    go_ret2
    have hcap := cap_own HO4.out
    exact .inl ⟨HRt.out.1.symm, ao4, cc4, rfl, es_of_owns HO4.out, hcap.1, hcap.2.1, HB4.out⟩
end Go.Proofs.Ytdenbbljbkpbdaa

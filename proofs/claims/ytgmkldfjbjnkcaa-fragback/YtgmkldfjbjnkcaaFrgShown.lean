/- Layer 13: the document's example holds: what stands at the head of each statement of layer 13; a packer since a world. -/
import Derived.Test.YtgmkldfjbjnkcaaFrgBlocks
namespace Go.Proofs.Ytgmkldfjbjnkcaa
set_option linter.unusedVariables false
open Go.RowKit Go.Maps
open Lz (g)
open Frm Mtr Frg

/-- A packer at a world since another one. -/
structure Fps (w : World) (p : Nat) (O : Nat → Prop) (L : Bl) (W : World) : Prop where
  pk : PkP W p O L
  ok : Ok L
  bel : Below w.heap.size w W
  ow : ∀ k, O k → w.heap.size ≤ k
section
variable {w W W' : World} {p : Nat} {O : Nat → Prop} {L : Bl}
theorem Fps.below (h : Fps w p O L W) (hb : Below W.heap.size W W') : Fps w p O L W' := ⟨h.pk.below hb, h.ok, h.bel.trans (hb.mono h.bel.size), h.ow⟩
/-- Blocks have turned that are none of its own. -/
theorem Fps.turn {S : Nat → Prop} (h : Fps w p O L W) (hf : Fr S W W') (h1 : ∀ k, O k → ¬ S k) (h3 : ∀ k, S k → w.heap.size ≤ k) : Fps w p O L W' :=
  ⟨h.pk.fr hf h1, h.ok, h.bel.trans (hf.below _ h.bel.size h3), h.ow⟩
/-- Add, of bytes that are not its own. -/
theorem Fps.adds (h : Fps w p O L W) (n c : Nat) (ao : Option Addr) (z : List Int) (hb : Bs W ao n z) (hnil : ao = none → c = 0) (hno : ∀ a, ao = some a → 0 < n → ¬ O a.block) (hL : L.length ≤ 100000) (hR : L.flatten.length ≤ 10000000) (hn : n ≤ 9223372036854775807) :
    Calls Try.prog 10 #[.pointer (some ⟨p, 0, none⟩), .slice ao n c] W fun e W' => e = .returned (.tuple #[.int .i64 ((add L z).2.1 : Nat), .int .i64 ((add L z).2.2 : Nat)]) ∧ ∃ O', Fps w p O' (add L z).1 W' ∧ Fr O W W' ∧ Gr O O' W := by
  refine (fAdd_any p n c O ao L z W h.pk h.ok hb hnil hno hL hR hn).mono ?_
  rintro e W' ⟨rfl, O', h1, h2, h3⟩
  refine ⟨rfl, O', ⟨h1, ok_add h.ok z, h.bel.trans (h2.below _ h.bel.size h.ow), fun k hk => ?_⟩, h2, h3⟩
  rcases h3 k hk with hk | hk
  · exact h.ow k hk
  · exact Nat.le_trans h.bel.size hk
end
theorem Fps.new {w w1 w2 : World} (hb : Below w.heap.size w w1) (hw : PkP w2 w1.heap.size (One w1.heap.size) []) (hb2 : Below w1.heap.size w1 w2) : Fps w w1.heap.size (One w1.heap.size) [] w2 :=
  ⟨hw, ok_nil, hb.trans (hb2.mono hb.size), fun k hk => by rw [show k = w1.heap.size from hk]; exact hb.size⟩
theorem bs_made {w' : World} {B b n : Nat} (h : w'.ownsRow B 5 1 (.slice (some ⟨b, 0, none⟩) n n) n (madeCells (Value.int .u8 0).cells (n * 1)).toList) : Bs w' (some ⟨b, 0, none⟩) n (List.replicate n 0) := by
  rw [half_zero n 0, show half n 0 0 = List.replicate n 0 by simp [half]] at h
  refine (Rw.of_owns h (fun x hx => by rw [(List.mem_replicate.1 hx).2]; omega)).bs
set_option maxRecDepth 100000 in
set_option maxHeartbeats 1000000 in
theorem shown_any (w : World) : Calls Try.prog 7 #[] w fun r w' => r = .returned (.bool true) ∧ Below w.heap.size w w' := by
  obtain ⟨i0, hi, hz0, hz1, hz2⟩ := info_parts infoByte
  have HE1 : Hid ((add [] (List.replicate 100 0)).2.1 = 1 ∧ (add [] (List.replicate 100 0)).2.2 = 0 ∧ (add [] (List.replicate 100 0)).1 = [List.replicate 100 0]) := by
    have := add_new (L := []) (z := List.replicate 100 0) (by simp) (.inl rfl)
    show _ ∧ _ ∧ _
    rw [this]; exact ⟨rfl, rfl, rfl⟩
  have HE2 : Hid ((add [List.replicate 100 0] (List.replicate 28 0)).2.1 = 1 ∧ (add [List.replicate 100 0] (List.replicate 28 0)).2.2 = 100 ∧ (add [List.replicate 100 0] (List.replicate 28 0)).1 = [List.replicate 128 0]) := by
    have := add_in (K := []) (t := List.replicate 100 0) (z := List.replicate 28 0) (by simp) (by simp)
    show _ ∧ _ ∧ _
    rw [List.nil_append] at this
    rw [this]; exact ⟨rfl, by simp, by rw [List.replicate_append_replicate]; rfl⟩
  have HE3 : Hid ((add [List.replicate 128 0] (List.replicate 1 0)).2.1 = 2 ∧ (add [List.replicate 128 0] (List.replicate 1 0)).2.2 = 0) := by
    have := add_new (L := [List.replicate 128 0]) (z := List.replicate 1 0) (by simp) (.inr (by simp [top]))
    show _ ∧ _
    rw [this]; exact ⟨rfl, rfl⟩
  obtain ⟨z1, hz1'⟩ : ∃ z, z = List.replicate 100 (0 : Int) := ⟨_, rfl⟩
  obtain ⟨z2, hz2'⟩ : ∃ z, z = List.replicate 28 (0 : Int) := ⟨_, rfl⟩
  obtain ⟨z3, hz3'⟩ : ∃ z, z = List.replicate 128 (0 : Int) := ⟨_, rfl⟩
  obtain ⟨z4, hz4'⟩ : ∃ z, z = List.replicate 1 (0 : Int) := ⟨_, rfl⟩
  rw [← hz1'] at HE1 HE2
  rw [← hz2', ← hz3'] at HE2
  rw [← hz3', ← hz4'] at HE3
  have HZ1 := hide hz1'
  have HZ2 := hide hz2'
  have HZ3 := hide hz3'
  have HZ4 := hide hz4'
  clear hz1' hz2' hz3' hz4'
  go_enter Try.func7, Try.ntmps7
  go_wp2_with fail
  refine (fNew_any w).mono ?_
  rintro r w1 ⟨rfl, hp1, hb1, hs1⟩
  have HF1 := hide (Fps.new (Below.refl _ w) hp1 hb1)
  clear hp1 hb1 hs1
  generalize hp : w.heap.size = p at HF1 ⊢
  clear hp
  go_wp2_with (first
    | (at_make
       refine wpList_make_full _ rfl _ _ 30 rfl w1.heap.size 5 i0 (.int .u8 0) 1 Try.underlying30 hi hz0 hz1 _ _ _ _ 100 (by rfl) (by rfl) rfl rfl (by rw [hz2]; omega) (by unfold maxLen; omega) (Nat.le_refl _) ?_
       intro w2 o2 k2
       have HB2 := hide (bs_made o2)
       rw [← HZ1.out] at HB2
       have HF2 := hide (HF1.out.below ((Below.refl _ w1).grown k2 (Nat.le_refl _) (fun k e => by simp at e)))
       have HN2 : Hid (∀ a, some (⟨w1.heap.size, 0, none⟩ : Addr) = some a → 0 < 100 → ¬ (One p) a.block) := fun a ha _ hx => by
         obtain rfl := Option.some.inj ha
         have := HF1.out.pk.olt _ hx
         exact Nat.lt_irrefl _ this
       clear o2 k2))
  refine (HF2.out.adds 100 100 _ _ HB2.out (fun h => by simp at h) HN2.out (by simp) (by simp) (by omega)).mono ?_
  rintro e w3 ⟨rfl, O3, hf3, _, _⟩
  rw [HE1.out.1, HE1.out.2.1]
  rw [HE1.out.2.2] at hf3
  have HF3 := hide hf3
  clear hf3 HB2 HF2 HN2 HF1
  go_wp2_with (first
    | (at_make
       refine wpList_make_full _ rfl _ _ 30 rfl w3.heap.size 5 i0 (.int .u8 0) 1 Try.underlying30 hi hz0 hz1 _ _ _ _ 28 (by rfl) (by rfl) rfl rfl (by rw [hz2]; omega) (by unfold maxLen; omega) (Nat.le_refl _) ?_
       intro w4 o4 k4
       have HB4 := hide (bs_made o4)
       rw [← HZ2.out] at HB4
       have HF4 := hide (HF3.out.below ((Below.refl _ w3).grown k4 (Nat.le_refl _) (fun k e => by simp at e)))
       have HN4 : Hid (∀ a, some (⟨w3.heap.size, 0, none⟩ : Addr) = some a → 0 < 28 → ¬ O3 a.block) := fun a ha _ hx => by
         obtain rfl := Option.some.inj ha
         have := HF3.out.pk.olt _ hx
         exact Nat.lt_irrefl _ this
       clear o4 k4))
  refine (HF4.out.adds 28 28 _ _ HB4.out (fun h => by simp at h) HN4.out (by simp) (by simp [HZ1.out]) (by omega)).mono ?_
  rintro e w5 ⟨rfl, O5, hf5, _, _⟩
  rw [HE2.out.1, HE2.out.2.1]
  rw [HE2.out.2.2] at hf5
  have HF5 := hide hf5
  clear hf5 HB4 HF4 HN4 HF3
  go_wp2_with (first
    | (at_make
       refine wpList_make_full _ rfl _ _ 30 rfl w5.heap.size 5 i0 (.int .u8 0) 1 Try.underlying30 hi hz0 hz1 _ _ _ _ 1 (by rfl) (by rfl) rfl rfl (by rw [hz2]; omega) (by unfold maxLen; omega) (Nat.le_refl _) ?_
       intro w6 o6 k6
       have HB6 := hide (bs_made o6)
       rw [← HZ4.out] at HB6
       have HF6 := hide (HF5.out.below ((Below.refl _ w5).grown k6 (Nat.le_refl _) (fun k e => by simp at e)))
       have HN6 : Hid (∀ a, some (⟨w5.heap.size, 0, none⟩ : Addr) = some a → 0 < 1 → ¬ O5 a.block) := fun a ha _ hx => by
         obtain rfl := Option.some.inj ha
         have := HF5.out.pk.olt _ hx
         exact Nat.lt_irrefl _ this
       clear o6 k6))
  refine (HF6.out.adds 1 1 _ _ HB6.out (fun h => by simp at h) HN6.out (by simp) (by simp [HZ3.out]) (by omega)).mono ?_
  rintro e w7 ⟨rfl, O7, hf7, _, _⟩
  rw [HE3.out.1, HE3.out.2]
  have HF7 := hide hf7
  clear hf7 HB6 HF6 HN6 HF5
  go_wp2
  go_ret
  exact ⟨rfl, HF7.out.bel⟩
end Go.Proofs.Ytgmkldfjbjnkcaa

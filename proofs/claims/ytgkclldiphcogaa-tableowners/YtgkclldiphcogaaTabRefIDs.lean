/- Layer 11: the owners of nodes, by the document's answer; two rows of numbers held against each other. -/
import Derived.Test.YtgkclldiphcogaaTabIDs
import Derived.Test.YtgkclldiphcogaaNums
import Derived.BigQuiet
import Derived.Deep.CutBlock
import Derived.Deep.CutRange
namespace Go.Proofs.Ytgkclldiphcogaa
set_option linter.unusedVariables false
open Go.RowKit Go.Maps
open Nam Tre Tab
open Lz (g)

theorem numHas_any (a : Option Addr) (n c : Nat) (l : List Int) (x : Int) (w : World) (h : Zs w a n l) (hn : n ≤ 1000000) (q : Bool) (hq : decide (x ∈ l) = q) :
    Calls Try.prog 30 #[.slice a n c, .int .i64 x] w fun e w' => e = .returned (.bool q) ∧ w' = w := by
  have hl := h.1
  have HZ := hide h
  have HQ : Hid (decide (x ∈ l.drop 0) = q) := by rw [List.drop_zero]; exact hq
  clear h hq
  go_enter Try.func30, Try.ntmps30
  go_wp2
  go_loopw [5] (fun r wr => ∃ i : Nat, r = .int .i64 i ∧ i ≤ n ∧ Hid (wr = w) ∧ Hid (decide (x ∈ l.drop i) = q)) (fun r _ => n - (intOf r).toNat)
  case atStart => exact ⟨0, rfl, Nat.zero_le _, rfl, HQ⟩
  case round =>
    obtain ⟨i, rfl, hi, HW, HI⟩ := hrel
    obtain rfl := HW.out
    by_cases hp : i < n
    · obtain ⟨b, off, rfl, hb, hc⟩ := HZ.out.at (by omega)
      have ci := hc i hp
      have hd : (i : Int) < (n : Int) := by omega
      have HS : Hid (l.drop i = g l i :: l.drop (i + 1)) := by
        have := List.drop_eq_getElem_cons (l := l) (i := i) (by omega)
        rw [← g_get l i (by omega)] at this
        exact this
      clear hc
      by_cases hx : g l i = x
      · have hx' : (g l i == x) = true := by simpa using hx
        go_wp2
        go_ret
        exact ⟨ret_bool (by have := HI.out; rw [HS.out] at this; rw [← this]; simp [hx]), rfl⟩
      · have hx' : (g l i == x) = false := by simpa using hx
        go_wp2
        go_roundw
        case rel => exact ⟨i + 1, rfl, by omega, by first | exact rfl | exact trivial, by show _ = _; have := HI.out; rw [HS.out] at this; rw [← this]; simp [Ne.symm hx]⟩
        case measure => simp [intOf]; omega
    · obtain rfl : i = n := by omega
      go_wp2
      go_ret
      exact ⟨ret_bool (by have := HI.out; rw [List.drop_of_length_le (by omega)] at this; rw [← this]; simp), rfl⟩
theorem numsSame_any (a b : Option Addr) (n m c d : Nat) (l k : List Int) (w : World) (ha : Zs w a n l) (hb : Zs w b m k) (hn : n ≤ 1000000) (hm : m ≤ 1000000) (q : Bool) (hq : decide (l = k) = q) :
    Calls Try.prog 9 #[.slice a n c, .slice b m d] w fun e w' => e = .returned (.bool q) ∧ ∃ j, w' = w.drewN j := by
  have hl := ha.1
  have hk := hb.1
  by_cases e : n = m
  · subst e
    have HA := hide ha
    have HB := hide hb
    have HQ : Hid (decide (l.drop 0 = k.drop 0) = q) := by rw [List.drop_zero, List.drop_zero]; exact hq
    clear ha hb hq
    go_enter Try.func9, Try.ntmps9
    go_wp2
    go_loopw [5] (fun r wr => ∃ i j : Nat, r = .int .i64 i ∧ i ≤ n ∧ wr = w.drewN j ∧ Hid (decide (l.drop i = k.drop i) = q)) (fun r _ => n - (intOf r).toNat)
    case atStart => exact ⟨0, 0, rfl, Nat.zero_le _, rfl, HQ⟩
    case round =>
      obtain ⟨i, j, rfl, hi, rfl, HI⟩ := hrel
      by_cases hp : i < n
      · obtain ⟨b1, o1, rfl, hb1, hc1⟩ := HA.out.at (by omega)
        obtain ⟨b2, o2, rfl, hb2, hc2⟩ := HB.out.at (by omega)
        have c1 := hc1 i hp
        have c2 := hc2 i hp
        have hd : (i : Int) < (n : Int) := by omega
        have HS1 : Hid (l.drop i = g l i :: l.drop (i + 1)) := by
          have := List.drop_eq_getElem_cons (l := l) (i := i) (by omega)
          rw [← g_get l i (by omega)] at this
          exact this
        have HS2 : Hid (k.drop i = g k i :: k.drop (i + 1)) := by
          have := List.drop_eq_getElem_cons (l := k) (i := i) (by omega)
          rw [← g_get k i (by omega)] at this
          exact this
        clear hc1 hc2
        generalize g l i = A at *
        generalize g k i = B at *
        by_cases hx : A = B
        · subst hx
          go_wp2
          go_quiet (fail)
          go_wp2
          go_roundw
          case rel => exact ⟨i + 1, _, rfl, by omega, rfl, by show _ = _; have := HI.out; rw [HS1.out, HS2.out] at this; rw [← this]; simp⟩
          case measure => simp [intOf]; omega
        · have HF : Hid (false = q) := by show _ = _; have := HI.out; rw [HS1.out, HS2.out] at this; rw [← this]; simp [hx]
          go_wp2
          go_quiet (fail)
          go_wp2
          go_ret
          exact ⟨ret_bool HF.out, dr2 _ _ _⟩
      · obtain rfl : i = n := by omega
        go_wp2
        go_ret
        exact ⟨ret_bool (by have := HI.out; rw [List.drop_of_length_le (by omega), List.drop_of_length_le (by omega)] at this; rw [← this]; simp), j, rfl⟩
  · have hne : ((n : Int) != (m : Int)) = true := by simp; omega
    have hq' : q = false := by rw [← hq]; simp; intro h; rw [h] at hl; omega
    go_enter Try.func9, Try.ntmps9
    go_wp2
    go_ret
    exact ⟨ret_bool hq'.symm, 0, rfl⟩
namespace Tab
/-- A number laid at a place. -/
def ins (R : List Int) (x : Int) (k : Nat) : List Int := R.take k ++ x :: R.drop k
theorem ins_length (R : List Int) (x : Int) (k : Nat) (h : k ≤ R.length) : (ins R x k).length = R.length + 1 := by simp [ins]; omega
theorem ins_end (R : List Int) (x : Int) : R ++ [x] = ins R x R.length := by simp [ins]
theorem ins_at (R : List Int) (x : Int) (k i : Nat) (h : k ≤ R.length) (hi : i < k) : g (ins R x k) i = g R i := by
  have h1 : i < (R.take k).length := by simp; omega
  simp only [g, ins, List.getD_eq_getElem?_getD]
  rw [List.getElem?_append_left h1, List.getElem?_take_of_lt hi]
theorem ins_step (R : List Int) (x : Int) (k : Nat) (h0 : 0 < k) (h : k ≤ R.length) : ((ins R x k).set k (g R (k - 1))).set (k - 1) x = ins R x (k - 1) := by
  have hl := ins_length R x k h
  have hl2 := ins_length R x (k - 1) (by omega)
  apply List.ext_getElem
  · simp; omega
  · intro i h1 h2
    rw [List.getElem_set, List.getElem_set]
    have ht : (R.take (k - 1)).length = k - 1 := by simp; omega
    have ht2 : (R.take k).length = k := by simp; omega
    by_cases e1 : k - 1 = i
    · rw [if_pos e1]
      subst e1
      simp only [ins]
      rw [List.getElem_append_right (by omega)]
      simp [ht]
    · rw [if_neg e1]
      by_cases e2 : k = i
      · rw [if_pos e2]
        subst e2
        simp only [ins]
        rw [List.getElem_append_right (by omega)]
        simp only [ht, show k - (k - 1) = 1 by omega, List.getElem_cons_succ, List.getElem_drop, Nat.add_zero]
        exact g_get R (k - 1) (by omega)
      · rw [if_neg e2]
        by_cases e3 : i < k - 1
        · simp only [ins]
          rw [List.getElem_append_left (by omega), List.getElem_append_left (by omega)]
          simp
        · simp only [ins]
          rw [List.getElem_append_right (by omega), List.getElem_append_right (by omega), List.getElem_cons, List.getElem_cons]
          rw [dif_neg (by omega), dif_neg (by omega)]
          simp only [List.getElem_drop, ht, ht2]
          congr 1
          omega
theorem ins_rise {R : List Int} {x : Int} {k : Nat} (h : R.Pairwise (· < ·)) (hk : k ≤ R.length) (hlo : k = 0 ∨ g R (k - 1) < x) (hhi : ∀ y ∈ R.drop k, x < y) : (ins R x k).Pairwise (· < ·) := by
  unfold ins
  rw [List.pairwise_append, List.pairwise_cons]
  have hs : R = R.take k ++ R.drop k := (List.take_append_drop k R).symm
  rw [hs, List.pairwise_append] at h
  obtain ⟨h1, h2, h3⟩ := h
  refine ⟨h1, ⟨hhi, h2⟩, fun a ha b hb => ?_⟩
  rcases List.mem_cons.1 hb with rfl | hb
  · rcases hlo with rfl | hlo
    · simp at ha
    · by_cases hk0 : k = 0
      · subst hk0; simp at ha
      · rw [show k = (k - 1) + 1 by omega, List.take_succ_eq_append_getElem (by omega)] at ha h1
        rw [g_get R (k - 1) (by omega)] at hlo
        rcases List.mem_append.1 ha with ha | ha
        · have := (List.pairwise_append.1 h1).2.2 a ha _ (List.mem_singleton.2 rfl)
          omega
        · rw [List.mem_singleton] at ha; omega
  · exact h3 a ha b hb
theorem ins_mem {R : List Int} {x y : Int} {k : Nat} : y ∈ ins R x k ↔ y ∈ R ∨ y = x := by
  unfold ins
  rw [List.mem_append, List.mem_cons]
  conv => rhs; rw [← List.take_append_drop k R, List.mem_append]
  constructor
  · rintro (h | h | h)
    · exact .inl (.inl h)
    · exact .inr h
    · exact .inl (.inr h)
  · rintro ((h | h) | h)
    · exact .inl h
    · exact .inr (.inr h)
    · exact .inr (.inl h)
/-- Two rising rows with the same in them are one. -/
theorem rise_one : ∀ (A B : List Int), A.Pairwise (· < ·) → B.Pairwise (· < ·) → (∀ x, x ∈ A ↔ x ∈ B) → A = B
  | [], [], _, _, _ => rfl
  | [], b :: B, _, _, h => by have := (h b).2 (by simp); simp at this
  | a :: A, [], _, _, h => by have := (h a).1 (by simp); simp at this
  | a :: A, b :: B, hA, hB, h => by
    rw [List.pairwise_cons] at hA hB
    have e : a = b := by
      rcases List.mem_cons.1 ((h a).1 (by simp)) with e | e
      · exact e
      · rcases List.mem_cons.1 ((h b).2 (by simp)) with e' | e'
        · exact e'.symm
        · have := hB.1 a e; have := hA.1 b e'; omega
    subst e
    congr 1
    refine rise_one A B hA.2 hB.2 fun x => ?_
    have := h x
    constructor
    · intro hx
      rcases List.mem_cons.1 (this.1 (List.mem_cons_of_mem _ hx)) with e | e
      · subst e; have := hA.1 _ hx; omega
      · exact e
    · intro hx
      rcases List.mem_cons.1 (this.2 (List.mem_cons_of_mem _ hx)) with e | e
      · subst e; have := hB.1 _ hx; omega
      · exact e
theorem owners_one {L : List (Nv × Nod)} {A B : List Int} (h : OwnersOf L A) (k : OwnersOf L B) : A = B := rise_one A B h.1 k.1 fun x => (h.2 x).trans (k.2 x).symm
/-- The owner at a place. -/
def uo (L : List (Nv × Nod)) (i : Nat) : Int := if i % 2 = 1 then (gl L (i / 2)).1.gid else (gl L (i / 2)).1.uid
theorem us_at (L : List (Nv × Nod)) (hw : Wf L) (i : Nat) (h : i < 2 * L.length) : ((us L).map (·.1))[i]? = some (uo L i) := by
  induction L generalizing i with
  | nil => simp at h
  | cons p r ih =>
    have hw' : Wf r := fun q hq => hw q (List.mem_cons_of_mem _ hq)
    obtain ⟨w1, w2⟩ := hw p (List.mem_cons_self ..)
    have e : (us (p :: r)).map (·.1) = p.1.uid :: p.1.gid :: (us r).map (·.1) := by simp [us, i64_val w1, i64_val w2]
    rw [e]
    match i with
    | 0 => simp [uo, gl]
    | 1 => simp [uo, gl]
    | i + 2 =>
      rw [List.getElem?_cons_succ, List.getElem?_cons_succ, ih hw' i (by simp at h; omega)]
      unfold uo
      rw [show (i + 2) % 2 = i % 2 by omega, show (i + 2) / 2 = i / 2 + 1 by omega]
      simp [gl]
/-- The owners among the first i. -/
def OwnersTo (L : List (Nv × Nod)) (i : Nat) (R : List Int) : Prop := R.Pairwise (· < ·) ∧ ∀ x, x ∈ R ↔ x ∈ ((us L).map (·.1)).take i
theorem owners_had {L : List (Nv × Nod)} {i : Nat} {R : List Int} (hw : Wf L) (h : OwnersTo L i R) (hi : i < 2 * L.length) (hm : uo L i ∈ R) : OwnersTo L (i + 1) R := by
  have e := us_at L hw i hi
  obtain ⟨hlt, e⟩ := List.getElem?_eq_some_iff.1 e
  refine ⟨h.1, fun x => ?_⟩
  rw [List.take_succ_eq_append_getElem hlt, List.mem_append, List.mem_singleton, e, h.2 x]
  constructor
  · exact .inl
  · rintro (c | rfl)
    · exact c
    · exact (h.2 _).1 hm
theorem owners_new {L : List (Nv × Nod)} {i k : Nat} {R : List Int} (hw : Wf L) (h : OwnersTo L i R) (hi : i < 2 * L.length) (hk : k ≤ R.length) (hlo : k = 0 ∨ g R (k - 1) < uo L i) (hhi : ∀ y ∈ R.drop k, uo L i < y) : OwnersTo L (i + 1) (ins R (uo L i) k) := by
  have e := us_at L hw i hi
  obtain ⟨hlt, e⟩ := List.getElem?_eq_some_iff.1 e
  refine ⟨ins_rise h.1 hk hlo hhi, fun x => ?_⟩
  rw [List.take_succ_eq_append_getElem hlt, List.mem_append, List.mem_singleton, e, ins_mem, h.2 x]
end Tab
set_option maxRecDepth 100000 in
set_option maxHeartbeats 2000000 in
theorem refIDs_any (a : Option Addr) (k c : Nat) (L : List (Nv × Nod)) (w : World) (hL : Ns w a k L) (hk : k ≤ 1000) (hw : Wf L) :
    Calls Try.prog 11 #[.slice a k c] w fun e w' => ∃ b m c' R, e = .returned (.slice (some ⟨b, 0, none⟩) m c') ∧ w'.ownsRow w.heap.size 3 1 (.slice (some ⟨b, 0, none⟩) m c') m (zv R) ∧ OwnersOf L R ∧ m ≤ 2 * k ∧ Below w.heap.size w w' := by
  have hlen := hL.1
  have HL := hide hL
  have HWf := hide hw
  clear hL hw
  go_enter Try.func11, Try.ntmps11
  go_wp2
  go_loopw [3, 4] (fun s3 s4 wr => ∃ (i b m c' : Nat) (R : List Int), s3 = .slice (some ⟨b, 0, none⟩) m c' ∧ s4 = .int .i64 i ∧ i ≤ 2 * k ∧ m ≤ i ∧ wr.ownsRow w.heap.size 3 1 (.slice (some ⟨b, 0, none⟩) m c') m (zv R) ∧ Below w.heap.size w wr ∧ OwnersTo L i R) (fun _ s4 _ => 2 * k - (intOf s4).toNat)
  case atStart => exact ⟨0, _, 0, 0, [], rfl, rfl, Nat.zero_le _, Nat.le_refl _, emptyR (Nat.le_refl _), below_one _ _, List.Pairwise.nil, by simp⟩
  case round =>
    obtain ⟨i, b, m, c', R, rfl, rfl, hi0, hmi, hown, hbel, hO⟩ := hrel
    have HO := hide hown
    have HB := hide hbel
    have HR := hide hO
    have hRl : R.length = m := by have := hown.1; simpa [zv] using this
    have HZ := hide (Zs.of hown)
    by_cases hp : i < 2 * k
    · obtain ⟨nb, off, rfl, hnb, hN⟩ := (HL.out.below hbel).at (by omega)
      obtain ⟨_, _, _, _, c4, c5, _⟩ := hN (i / 2) (by omega)
      have hd : (i : Int) < 2 * (k : Int) := by omega
      clear hN hown hbel hO
      go_upto_if 25 with fail
      go_cut [5] from 26 to 32 (fun s5 wx => s5 = .int .i64 (uo L i) ∧ wx = wr)
      case first =>
        by_cases he : i % 2 = 1
        · have h1 : ((i : Int) % 2 == 1) = true := by simp; omega
          have h2 : uo L i = (gl L (i / 2)).1.gid := by unfold uo; rw [if_pos he]
          go_wp2_with fail
          go_meet
          case rel => exact ⟨by rw [h2], rfl⟩
        · have h1 : ((i : Int) % 2 == 1) = false := by simp; omega
          have h2 : uo L i = (gl L (i / 2)).1.uid := by unfold uo; rw [if_neg he]
          go_wp2_with fail
          go_meet
          case rel => exact ⟨by rw [h2], rfl⟩
      case rest =>
      obtain ⟨rfl, hwc⟩ := hcut
      obtain rfl := hwc.symm
      obtain ⟨x, hx⟩ : ∃ x, uo L i = x := ⟨_, rfl⟩
      rw [hx]
      have HX := hide hx
      clear hx c4 c5
      by_cases hin : x ∈ R
      · go_wp2_with fail
        refine (numHas_any _ m c' R x _ HZ.out (by omega) true (decide_eq_true hin)).mono ?_
        rintro r w1 ⟨rfl, hw1⟩
        obtain rfl := hw1.symm
        go_wp2_with fail
        have HN : Hid (OwnersTo L (i + 1) R) := owners_had HWf.out HR.out (by omega) (by rw [HX.out]; exact hin)
        go_roundw
        case rel => exact ⟨i + 1, b, m, c', R, rfl, rfl, by omega, by omega, HO.out, HB.out, HN⟩
        case measure => simp [intOf]; omega
      · go_wp2_with fail
        refine (numHas_any _ m c' R x _ HZ.out (by omega) false (decide_eq_false hin)).mono ?_
        rintro r w1 ⟨rfl, hw1⟩
        obtain rfl := hw1.symm
        have ho := HO.out.alloc (.cells #[.int .i64 x] 3)
        have hx0 : (wr.alloc (.cells #[.int .i64 x] 3)).cell? ⟨wr.heap.size, 0, none⟩ = some (.int .i64 x) := by simp
        have hbs := HB.out.size
        go_wp2_with (at_builtin; refine wpList_append_num _ rfl _ _ rfl w.heap.size _ m c' R rfl ho wr.heap.size x rfl hx0 (by omega) (by simp; omega) ?_; intro b2 c2 w2 ho2 hg2; have HB2 : Hid (Below w.heap.size w w2) := HB.out.trans (((Below.refl _ wr).alloc hbs _).grown hg2 (by simp; omega) (fun kk e => (ho.lt kk e).1)); have HO2 := hide ho2; clear ho2 hg2)
        rw [ins_end, hRl] at HO2
        have e7 : IntKind.i64.wrap (((m + 1 : Nat) : Int) - 1) = (m : Int) := by rw [IntWalk.i64_in _ (by omega)]; omega
        go_loopw [7] (fun s7 wx => ∃ j : Nat, s7 = .int .i64 j ∧ j ≤ m ∧ wx.ownsRow w.heap.size 3 1 (.slice (some ⟨b2, 0, none⟩) (m + 1) c2) (m + 1) (zv (ins R x j)) ∧ Below w.heap.size w wx ∧ Hid (∀ y ∈ R.drop j, x < y)) (fun s7 _ => (intOf s7).toNat)
        case atStart => exact ⟨m, by go_num, Nat.le_refl _, HO2.out, HB2.out, fun y hy => by rw [List.drop_of_length_le (by omega)] at hy; simp at hy⟩
        case round =>
          obtain ⟨j, rfl, hjm, hoj, hbj, HG⟩ := hrel
          have HOj := hide hoj
          have HBj := hide hbj
          clear hbj
          by_cases hj0 : 0 < j
          · have cj := (Zs.of hoj).at (by omega)
            obtain ⟨b3, o3, e3, _, cj⟩ := cj
            obtain ⟨rfl, rfl⟩ : b2 = b3 ∧ 0 = o3 := by simpa using e3
            have c1 := cj (j - 1) (by omega)
            rw [Nat.zero_add, ins_at R x j (j - 1) (by omega) (by omega)] at c1
            have f0 := hoj.frozenAt j
            have f1 := hoj.frozenAt (j - 1)
            have c0 := cj j (by omega)
            rw [Nat.zero_add] at c0
            have v1 : IntKind.i64.wrap ((j : Int) - 1) = ((j - 1 : Nat) : Int) := by rw [IntWalk.i64_in _ (by omega)]; omega
            have hjd : (0 : Int) < (j : Int) := by omega
            clear cj hoj e3
            by_cases hgt : x < g R (j - 1)
            · go_wp2_with fail
              have hG2 : ∀ y ∈ R.drop (j - 1), x < y := fun y hy => by
                rw [List.drop_eq_getElem_cons (by omega), show j - 1 + 1 = j by omega] at hy
                rcases List.mem_cons.1 hy with rfl | hy
                · rw [← g_get R (j - 1) (by omega)]; exact hgt
                · exact HG.out y hy
              have hb2 := (HOj.out.lt b2 rfl).1
              refine ⟨⟨j - 1, rfl, by omega, ?_, (HBj.out.setCell (by exact hb2) _).setCell (by exact hb2) _, hG2⟩, by simp [intOf]; omega⟩
              have h1 := ((HOj.out.stored j (.int .i64 (g R (j - 1)))).1.stored (j - 1) (.int .i64 x)).1
              rw [zv_set, zv_set, ins_step R x j hj0 (by omega)] at h1
              exact h1
            · have HN : Hid (OwnersTo L (i + 1) (ins R x j)) := by
                have hne : g R (j - 1) ≠ x := fun e => hin (by rw [← e, g_get R (j - 1) (by omega)]; exact List.getElem_mem _)
                have := owners_new (k := j) HWf.out HR.out (by omega) (by omega) (.inr (by rw [HX.out]; omega)) (by rw [HX.out]; exact HG.out)
                rw [HX.out] at this; exact this
              go_wp2_with fail
              exact ⟨⟨i + 1, b2, m + 1, c2, ins R x j, rfl, by go_num, by omega, by omega, HOj.out, HBj.out, HN⟩, by simp [intOf]; omega⟩
          · obtain rfl : j = 0 := by omega
            have HN : Hid (OwnersTo L (i + 1) (ins R x 0)) := by
              have := owners_new (k := 0) HWf.out HR.out (by omega) (Nat.zero_le _) (.inl rfl) (by rw [HX.out]; exact HG.out)
              rw [HX.out] at this; exact this
            clear hoj
            go_wp2_with fail
            exact ⟨⟨i + 1, b2, m + 1, c2, ins R x 0, rfl, by go_num, by omega, by omega, HOj.out, HBj.out, HN⟩, by simp [intOf]; omega⟩
    · obtain rfl : i = 2 * k := by omega
      clear hown hbel hO
      go_wp2
      go_ret
      refine ⟨b, m, c', R, rfl, HO.out, ⟨HR.out.1, fun x => ?_⟩, hmi, HB.out⟩
      rw [HR.out.2 x, List.take_of_length_le (by simp [us_length]; omega)]
end Go.Proofs.Ytgkclldiphcogaa

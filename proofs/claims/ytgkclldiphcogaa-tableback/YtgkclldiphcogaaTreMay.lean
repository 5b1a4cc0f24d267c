/- Layer 7: whether a node may be: mayBe and what it asks. -/
import Derived.Test.YtgkclldiphcogaaTreAlike
import Derived.Lib.Strings
import Derived.Lib.Slices
import Derived.Lib.Walk
import Derived.Lib.Bytealg
namespace Go.Proofs.Ytgkclldiphcogaa
set_option linter.unusedVariables false
open Go.RowKit Go.Maps
open Nam Tre
open Lz (g)

theorem indexByte_neg (l : List UInt8) : decide (Lib.indexByte l 0 < 0) = !l.any (· == 0) := by
  induction l with
  | nil => rfl
  | cons b l ih =>
    unfold Lib.indexByte
    rw [List.any_cons]
    cases hb : b == 0 with
    | true => simp
    | false =>
      simp only [Bool.false_or]
      rw [← ih, if_neg (by simp)]
      have := Lib.indexByte_ge l 0
      by_cases e : Lib.indexByte l 0 = -1
      · rw [if_pos (by simpa using e), e]
      · rw [if_neg (by simpa using e)]
        rw [decide_eq_false (by omega), decide_eq_false (by omega)]
set_option maxHeartbeats 1000000 in
set_option maxRecDepth 100000 in
theorem liteIndex_any (s : ByteArray) (w : World) :
    Calls Try.prog 144 #[.string s, .int .u8 0] w fun e w' => e = .returned (.int .i64 (Lib.indexByte s.data.toList 0)) ∧ w' = w := by
  go_enter Try.func144, Try.ntmps144
  go_wp2
  rw [run_callFunc_extern Try.func150 (by kernel_rfl) (by kernel_rfl) (by kernel_rfl) (e := Extern.BytealgIndexByte.indexByte) (by kernel_rfl), Lib.run_indexByteString]
  simp only [Result.andThen]
  rw [Oper.upon_value]
  go_wp2
  go_ret
  exact ⟨rfl, rfl⟩
theorem indexByte_any (s : ByteArray) (w : World) (z : Int) (hz : Lib.indexByte s.data.toList 0 = z) :
    Calls Try.prog 133 #[.string s, .int .u8 0] w fun e w' => e = .returned (.int .i64 z) ∧ w' = w := by
  subst hz
  go_enter Try.func133, Try.ntmps133
  go_wp2_with (go_at_call 144; refine (liteIndex_any _ _).mono ?_; rintro e w' ⟨rfl, rfl⟩)
  go_ret
  exact ⟨rfl, rfl⟩
theorem txt_eq (s : ByteArray) (m : Nat) (a b c : Bool) (ha : s.toList.isEmpty = a) (hb : decide ((s.size : Int) ≤ m) = b) (hc : decide (Lib.indexByte s.data.toList 0 < 0) = c) : txt s.toList m = (!a && b && c) := by
  subst ha hb hc
  unfold txt
  rw [indexByte_neg, ← ByteArray.toList_eq, toList_length]
  congr 1
  congr 1
  · cases s.toList <;> simp
  · rw [Bool.eq_iff_iff, decide_eq_true_eq, decide_eq_true_eq]; omega
set_option maxRecDepth 100000 in
theorem isText_any (s : ByteArray) (m : Nat) (w : World) (q : Bool) (hq : txt s.toList m = q) (hm : m ≤ 1000) :
    Calls Try.prog 111 #[.string s, .int .i64 m] w fun e w' => e = .returned (.bool q) ∧ w' = w := by
  obtain ⟨a, ha⟩ : ∃ q, s.toList.isEmpty = q := ⟨_, rfl⟩
  obtain ⟨b, hb⟩ : ∃ q, decide ((s.size : Int) ≤ m) = q := ⟨_, rfl⟩
  obtain ⟨z, hz⟩ : ∃ z, Lib.indexByte s.data.toList 0 = z := ⟨_, rfl⟩
  obtain ⟨c, hc⟩ : ∃ q, decide (z < 0) = q := ⟨_, rfl⟩
  have HE := hide (txt_eq s m a b c ha hb (by rw [hz]; exact hc))
  have HZ := hide hz
  have HQ := hide hq
  clear hz hq
  cases a with
  | true =>
    go_enter Try.func111, Try.ntmps111
    go_wp2
    go_ret
    exact ⟨ret_bool (by rw [← HQ.out, HE.out]; rfl), rfl⟩
  | false =>
  cases b with
  | false =>
    have hb2 : ¬ s.size ≤ m := by have := of_decide_eq_false hb; omega
    go_enter Try.func111, Try.ntmps111
    go_wp2
    go_ret
    exact ⟨ret_bool (by rw [← HQ.out, HE.out]; rfl), rfl⟩
  | true =>
    have hb2 : s.size ≤ m := by have := of_decide_eq_true hb; omega
    go_enter Try.func111, Try.ntmps111
    go_wp2_with (go_at_call 133; refine (indexByte_any _ _ z HZ.out).mono ?_; rintro e w' ⟨rfl, rfl⟩)
    go_ret
    exact ⟨ret_bool (by rw [← HQ.out, HE.out]; simp), rfl⟩
/-- A number of 0 to m. -/
def upB (x m : Int) : Bool := decide (0 ≤ x ∧ x ≤ m)
theorem upTo_any (x m : Int) (w : World) :
    Calls Try.prog 112 #[.int .i64 x, .int .i64 m] w fun e w' => e = .returned (.bool (upB x m)) ∧ w' = w := by
  have HQ := hide (show upB x m = decide (0 ≤ x ∧ x ≤ m) from rfl)
  by_cases h : 0 ≤ x
  · go_enter Try.func112, Try.ntmps112
    go_wp2
    go_ret
    exact ⟨ret_bool (by rw [HQ.out]; simp [h]), rfl⟩
  · have h' : x < 0 := by omega
    go_enter Try.func112, Try.ntmps112
    go_wp2
    go_ret
    exact ⟨ret_bool (by rw [HQ.out]; simp; omega), rfl⟩
theorem attrB (n : Nod) : attrOk n = (upB n.mode 511 && upB n.uid 65535 && upB n.gid 65535) := by
  unfold attrOk upB
  rw [Bool.eq_iff_iff]
  simp only [Bool.and_eq_true, decide_eq_true_eq, and_assoc]
set_option maxRecDepth 100000 in
theorem attrMayBe_any (x y z : Int) (w : World) (q : Bool) (hq : (upB x 511 && upB y 65535 && upB z 65535) = q) :
    Calls Try.prog 88 #[.agg #[.int .i64 x, .int .i64 y, .int .i64 z]] w fun e w' => e = .returned (.bool q) ∧ Below w.heap.size w w' := by
  obtain ⟨a, ha⟩ : ∃ q, upB x 511 = q := ⟨_, rfl⟩
  obtain ⟨b, hb⟩ : ∃ q, upB y 65535 = q := ⟨_, rfl⟩
  have HE := hide hq
  have bel : Hid (∀ o, Below w.heap.size w (w.alloc o)) := fun o => (Below.refl _ _).alloc (Nat.le_refl _) _
  clear hq
  cases a with
  | false =>
    go_enter Try.func88, Try.ntmps88
    go_wp2_with (go_at_call 112; refine (upTo_any _ _ _).mono ?_; rintro e w' ⟨rfl, rfl⟩)
    go_ret
    exact ⟨ret_bool (by rw [← HE.out, ha]; rfl), bel.out _⟩
  | true =>
  cases b with
  | false =>
    go_enter Try.func88, Try.ntmps88
    go_wp2_with (go_at_call 112; refine (upTo_any _ _ _).mono ?_; rintro e w' ⟨rfl, rfl⟩)
    go_ret
    exact ⟨ret_bool (by rw [← HE.out, ha, hb]; rfl), bel.out _⟩
  | true =>
    go_enter Try.func88, Try.ntmps88
    go_wp2_with (go_at_call 112; refine (upTo_any _ _ _).mono ?_; rintro e w' ⟨rfl, rfl⟩)
    go_ret
    exact ⟨ret_bool (by rw [← HE.out, ha, hb]; rfl), bel.out _⟩
theorem kind_eq {w : World} {v : Nv} {n : Nod} (h : Rep w v n) (q : Bool) (hq : kdOk n = q) : (if v.kind = 1 then decide ((v.dn : Int) = 0) && v.tg.toList.isEmpty else if v.kind = 2 then decide ((v.dn : Int) ≤ 4096) && v.tg.toList.isEmpty else if v.kind = 3 then decide ((v.dn : Int) = 0) && txt v.tg.toList 200 else false) = q := by
  rw [← hq, kdOk, h.kind, h.tg, h.data.1]
  have e1 : decide ((v.dn : Int) = 0) = decide (v.dn = 0) := by rw [Bool.eq_iff_iff]; simp only [decide_eq_true_eq]; omega
  have e2 : decide ((v.dn : Int) ≤ 4096) = decide (v.dn ≤ 4096) := by rw [Bool.eq_iff_iff]; simp only [decide_eq_true_eq]; omega
  rw [e1, e2]
set_option maxRecDepth 100000 in
theorem kindMayBe_any (v : Nv) (n : Nod) (w : World) (h : Rep w v n) (q : Bool) (hq : kdOk n = q) :
    Calls Try.prog 87 #[.agg v.cells] w fun e w' => e = .returned (.bool q) ∧ Below w.heap.size w w' := by
  have HE := hide (kind_eq h q hq)
  have bel : Hid (∀ o, Below w.heap.size w (w.alloc o)) := fun o => (Below.refl _ _).alloc (Nat.le_refl _) _
  clear h hq
  unfold Nv.cells
  by_cases k1 : v.kind = 1
  · have k1' : (v.kind == 1) = true := by simpa using k1
    have HK := hide k1
    by_cases hz : v.dn = 0
    · have hz' : ((v.dn : Int) == 0) = true := by simpa using hz
      have HZ := hide hz
      clear k1 hz
      go_enter Try.func87, Try.ntmps87
      go_wp2
      go_ret
      exact ⟨ret_bool (by rw [← HE.out, if_pos HK.out, HZ.out]; rfl), bel.out _⟩
    · have hz' : ((v.dn : Int) == 0) = false := by simpa using hz
      have HZ := hide hz
      clear k1 hz
      go_enter Try.func87, Try.ntmps87
      go_wp2
      go_ret
      exact ⟨ret_bool (by rw [← HE.out, if_pos HK.out, decide_eq_false (by have := HZ.out; omega)]; rfl), bel.out _⟩
  · have k1' : (v.kind == 1) = false := by simpa using k1
    by_cases k2 : v.kind = 2
    · have k2' : (v.kind == 2) = true := by simpa using k2
      have HK := hide k1
      have HK2 := hide k2
      by_cases hz : v.dn ≤ 4096
      · have hz' : decide ((v.dn : Int) ≤ 4096) = true := by simp; omega
        have hz2 : (v.dn : Int) ≤ 4096 := by omega
        clear k1 k2
        go_enter Try.func87, Try.ntmps87
        go_wp2
        go_ret
        exact ⟨ret_bool (by rw [← HE.out, if_neg HK.out, if_pos HK2.out, hz']; rfl), bel.out _⟩
      · have hz' : decide ((v.dn : Int) ≤ 4096) = false := by simp; omega
        have hz2 : ¬ (v.dn : Int) ≤ 4096 := by omega
        clear k1 k2
        go_enter Try.func87, Try.ntmps87
        go_wp2
        go_ret
        exact ⟨ret_bool (by rw [← HE.out, if_neg HK.out, if_pos HK2.out, hz']; rfl), bel.out _⟩
    · have k2' : (v.kind == 2) = false := by simpa using k2
      by_cases k3 : v.kind = 3
      · have k3' : (v.kind == 3) = true := by simpa using k3
        have HK := hide k1
        have HK2 := hide k2
        have HK3 := hide k3
        by_cases hz : v.dn = 0
        · have hz' : ((v.dn : Int) == 0) = true := by simpa using hz
          have HZ := hide hz
          clear k1 k2 k3 hz
          go_enter Try.func87, Try.ntmps87
          go_wp2_with (go_at_call 111; refine (isText_any v.tg 200 _ (txt v.tg.toList 200) rfl (by omega)).mono ?_; rintro e w' ⟨rfl, rfl⟩)
          go_ret
          exact ⟨ret_bool (by rw [← HE.out, if_neg HK.out, if_neg HK2.out, if_pos HK3.out, HZ.out]; rfl), bel.out _⟩
        · have hz' : ((v.dn : Int) == 0) = false := by simpa using hz
          have HZ := hide hz
          clear k1 k2 k3 hz
          go_enter Try.func87, Try.ntmps87
          go_wp2_with (go_at_call 111; refine (isText_any v.tg 200 _ (txt v.tg.toList 200) rfl (by omega)).mono ?_; rintro e w' ⟨rfl, rfl⟩)
          go_ret
          exact ⟨ret_bool (by rw [← HE.out, if_neg HK.out, if_neg HK2.out, if_pos HK3.out, decide_eq_false (by have := HZ.out; omega)]; rfl), bel.out _⟩
      · have k3' : (v.kind == 3) = false := by simpa using k3
        have HK := hide k1
        have HK2 := hide k2
        have HK3 := hide k3
        clear k1 k2 k3
        go_enter Try.func87, Try.ntmps87
        go_wp2
        go_ret
        exact ⟨ret_bool (by rw [← HE.out, if_neg HK.out, if_neg HK2.out, if_neg HK3.out]), bel.out _⟩
end Go.Proofs.Ytgkclldiphcogaa

/- The plain mathematics of layer 2 (crc): the table's rule, sums by any table, that one turned byte turns the sum, and that sums are affine. Nothing of the program is named here. -/
namespace Go.Proofs.YthghodmjpdooaaaDoor.Crc

/-- One bit's step. -/
def stp (r : Nat) : Nat := if r % 2 = 1 then (r / 2) ^^^ 3988292384 else r / 2
/-- n bits' steps. -/
def steps : Nat → Nat → Nat
  | 0, r => r
  | n + 1, r => steps n (stp r)
/-- What comes of eight bits. -/
def ent (r : Nat) : Nat := steps 8 r
/-- One byte's step, by any table. -/
def bt (T : Nat → Nat) (r c : Nat) : Nat := (r / 256) ^^^ T ((r ^^^ c) % 256)
/-- All bytes' steps. -/
def run (T : Nat → Nat) : Nat → List Int → Nat
  | r, [] => r
  | r, c :: l => run T (bt T r c.toNat) l
/-- The sum goes on. -/
def more (T : Nat → Nat) (s : Nat) (l : List Int) : Nat := run T (s ^^^ 4294967295) l ^^^ 4294967295
def rows (T : Nat → Nat) : Nat → List (List Int) → Nat
  | s, [] => s
  | s, l :: r => rows T (more T s l) r

theorem xor_lt {a b : Nat} (ha : a < 4294967296) (hb : b < 4294967296) : a ^^^ b < 4294967296 := Nat.xor_lt_two_pow (n := 32) ha hb
theorem stp_lt {r : Nat} (h : r < 4294967296) : stp r < 4294967296 := by
  unfold stp
  split
  · exact xor_lt (by omega) (by omega)
  · omega
theorem steps_lt : ∀ (n : Nat) {r : Nat}, r < 4294967296 → steps n r < 4294967296
  | 0, _, h => h
  | n + 1, _, h => steps_lt n (stp_lt h)
theorem ent_lt {r : Nat} (h : r < 4294967296) : ent r < 4294967296 := steps_lt 8 h
theorem bt_lt {T : Nat → Nat} (hT : ∀ i, i < 256 → T i < 4294967296) {r : Nat} (h : r < 4294967296) (c : Nat) : bt T r c < 4294967296 :=
  xor_lt (by omega) (hT _ (Nat.mod_lt _ (by omega)))
theorem run_lt {T : Nat → Nat} (hT : ∀ i, i < 256 → T i < 4294967296) : ∀ (l : List Int) {r : Nat}, r < 4294967296 → run T r l < 4294967296
  | [], _, h => h
  | _ :: l, _, h => run_lt hT l (bt_lt hT h _)
theorem more_lt {T : Nat → Nat} (hT : ∀ i, i < 256 → T i < 4294967296) (l : List Int) {s : Nat} (h : s < 4294967296) : more T s l < 4294967296 :=
  xor_lt (run_lt hT l (xor_lt h (by omega))) (by omega)
theorem rows_lt {T : Nat → Nat} (hT : ∀ i, i < 256 → T i < 4294967296) : ∀ (l : List (List Int)) {s : Nat}, s < 4294967296 → rows T s l < 4294967296
  | [], _, h => h
  | _ :: l, _, h => rows_lt hT l (more_lt hT _ h)

theorem run_append (T : Nat → Nat) : ∀ (a b : List Int) (r : Nat), run T r (a ++ b) = run T (run T r a) b
  | [], _, _ => rfl
  | _ :: a, b, _ => run_append T a b _
theorem xor_twice (a b : Nat) : (a ^^^ b) ^^^ b = a := by rw [Nat.xor_assoc, Nat.xor_self, Nat.xor_zero]
theorem more_append (T : Nat → Nat) (a b : List Int) (s : Nat) : more T s (a ++ b) = more T (more T s a) b := by
  unfold more
  rw [xor_twice, run_append]
theorem more_nil (T : Nat → Nat) (s : Nat) : more T s [] = s := xor_twice s _
theorem rows_flatten (T : Nat → Nat) : ∀ (l : List (List Int)) (s : Nat), rows T s l = more T s l.flatten
  | [], s => (more_nil T s).symm
  | a :: l, s => by
    rw [List.flatten_cons, more_append]
    exact rows_flatten T l _
theorem rows_append (T : Nat → Nat) : ∀ (a b : List (List Int)) (s : Nat), rows T s (a ++ b) = rows T (rows T s a) b
  | [], _, _ => rfl
  | _ :: a, b, _ => rows_append T a b _
theorem run_congr {T U : Nat → Nat} (h : ∀ i, i < 256 → T i = U i) : ∀ (l : List Int) (r : Nat), run T r l = run U r l
  | [], _ => rfl
  | c :: l, r => by
    have e : bt T r c.toNat = bt U r c.toNat := by
      unfold bt
      rw [h _ (Nat.mod_lt _ (by omega))]
    show run T (bt T r c.toNat) l = run U (bt U r c.toNat) l
    rw [e]
    exact run_congr h l _

/-! ### sums are affine -/
theorem stp_xor (a b : Nat) : stp (a ^^^ b) = stp a ^^^ stp b := by
  have h1 : (a ^^^ b) / 2 = a / 2 ^^^ b / 2 := Nat.xor_div_two_pow (n := 1)
  have h2 : (a ^^^ b) % 2 = a % 2 ^^^ b % 2 := Nat.xor_mod_two_pow (n := 1)
  unfold stp
  rcases Nat.mod_two_eq_zero_or_one a with ha | ha <;> rcases Nat.mod_two_eq_zero_or_one b with hb | hb <;> rw [h1, h2, ha, hb] <;> simp
  · rw [Nat.xor_assoc]
  · rw [Nat.xor_assoc, Nat.xor_assoc, Nat.xor_comm 3988292384]
  · rw [Nat.xor_assoc, Nat.xor_comm 3988292384, Nat.xor_assoc, Nat.xor_self, Nat.xor_zero]
theorem steps_xor : ∀ (n a b : Nat), steps n (a ^^^ b) = steps n a ^^^ steps n b
  | 0, _, _ => rfl
  | n + 1, a, b => by
    show steps n (stp (a ^^^ b)) = steps n (stp a) ^^^ steps n (stp b)
    rw [stp_xor, steps_xor n]
theorem ent_xor (a b : Nat) : ent (a ^^^ b) = ent a ^^^ ent b := steps_xor 8 a b
theorem xor4 (a b c d : Nat) : (a ^^^ b) ^^^ (c ^^^ d) = (a ^^^ c) ^^^ (b ^^^ d) := by
  rw [Nat.xor_assoc, Nat.xor_assoc, ← Nat.xor_assoc b, ← Nat.xor_assoc c, Nat.xor_comm b c]
theorem xor_mod (a b : Nat) : (a ^^^ b) % 256 = a % 256 ^^^ b % 256 := Nat.xor_mod_two_pow (n := 8)
theorem bt_xor (r s c d : Nat) : bt ent (r ^^^ s) (c ^^^ d) = bt ent r c ^^^ bt ent s d := by
  unfold bt
  have h1 : (r ^^^ s) / 256 = r / 256 ^^^ s / 256 := Nat.xor_div_two_pow (n := 8)
  rw [xor4 r s c d, xor_mod (r ^^^ c), ent_xor, h1, xor4]
/-! ### one turned byte turns the sum -/
theorem hi_zero : ∀ i : Fin 256, ent i / 16777216 = 0 → i = 0 := by decide +kernel
theorem xor_hi (a b : Nat) : (a ^^^ b) / 16777216 = a / 16777216 ^^^ b / 16777216 := Nat.xor_div_two_pow (n := 24)
theorem hi_eq {i j : Nat} (hi : i < 256) (hj : j < 256) (h : ent i / 16777216 = ent j / 16777216) : i = j := by
  have e : ent (i ^^^ j) / 16777216 = 0 := by rw [ent_xor, xor_hi, h, Nat.xor_self]
  have := hi_zero ⟨i ^^^ j, Nat.xor_lt_two_pow (n := 8) hi hj⟩ e
  have h0 : i ^^^ j = 0 := congrArg Fin.val this
  have := xor_twice i j
  rw [h0, Nat.zero_xor] at this
  exact this.symm
theorem xor_left_cancel {a b c : Nat} (h : a ^^^ b = a ^^^ c) : b = c := by
  have := congrArg (a ^^^ ·) h
  simpa [← Nat.xor_assoc] using this
theorem xor_right_cancel {a b c : Nat} (h : a ^^^ c = b ^^^ c) : a = b := by
  rw [Nat.xor_comm a, Nat.xor_comm b] at h
  exact xor_left_cancel h
/-- The eight bits that were looked up, and the rest, come back of what came. -/
theorem bt_parts {r r' c c' : Nat} (hr : r < 4294967296) (hr' : r' < 4294967296) (h : bt ent r c = bt ent r' c') : (r ^^^ c) % 256 = (r' ^^^ c') % 256 ∧ r / 256 = r' / 256 := by
  have h1 := congrArg (· / 16777216) h
  unfold bt at h1
  simp only [xor_hi] at h1
  have z1 : r / 256 / 16777216 = 0 := by omega
  have z2 : r' / 256 / 16777216 = 0 := by omega
  rw [z1, z2, Nat.zero_xor, Nat.zero_xor] at h1
  have e := hi_eq (Nat.mod_lt _ (by omega)) (Nat.mod_lt _ (by omega)) h1
  refine ⟨e, ?_⟩
  unfold bt at h
  rw [e] at h
  exact xor_right_cancel h
theorem bt_inj_r {r r' c : Nat} (hr : r < 4294967296) (hr' : r' < 4294967296) (h : bt ent r c = bt ent r' c) : r = r' := by
  obtain ⟨h1, h2⟩ := bt_parts hr hr' h
  rw [xor_mod, xor_mod] at h1
  have h3 := xor_right_cancel h1
  omega
theorem bt_inj_c {r c c' : Nat} (hr : r < 4294967296) (hc : c < 256) (hc' : c' < 256) (h : bt ent r c = bt ent r c') : c = c' := by
  obtain ⟨h1, _⟩ := bt_parts hr hr h
  rw [xor_mod, xor_mod] at h1
  have h3 := xor_left_cancel h1
  omega
theorem ent_row : ∀ i, i < 256 → ent i < 4294967296 := fun i h => ent_lt (by omega)
theorem run_inj : ∀ (l : List Int) {r r' : Nat}, r < 4294967296 → r' < 4294967296 → run ent r l = run ent r' l → r = r'
  | [], _, _, _, _, h => h
  | _ :: l, _, _, h1, h2, h => bt_inj_r h1 h2 (run_inj l (bt_lt ent_row h1 _) (bt_lt ent_row h2 _) h)
/-- The sums of two rows that differ in one byte differ. -/
theorem more_turned (a b : List Int) (x y : Int) (hx : 0 ≤ x ∧ x ≤ 255) (hy : 0 ≤ y ∧ y ≤ 255) (hne : x ≠ y) : more ent 0 (a ++ y :: b) ≠ more ent 0 (a ++ x :: b) := by
  intro h
  unfold more at h
  have h1 := xor_right_cancel h
  rw [run_append, run_append] at h1
  have hr : run ent (0 ^^^ 4294967295) a < 4294967296 := run_lt ent_row a (by decide)
  have h2 := run_inj b (bt_lt ent_row hr _) (bt_lt ent_row hr _) h1
  have h3 := bt_inj_c hr (by omega) (by omega) h2
  omega

/-- Three rows' bytes, one by one. -/
def x3 (a b c : Int) : Int := (((a.toNat ^^^ b.toNat) ^^^ c.toNat : Nat) : Int)
theorem run_affine (A B C : Nat → Int) : ∀ (n k : Nat) (r s t : Nat), run ent (r ^^^ s ^^^ t) ((List.range' k n).map fun i => x3 (A i) (B i) (C i)) =
    run ent r ((List.range' k n).map A) ^^^ run ent s ((List.range' k n).map B) ^^^ run ent t ((List.range' k n).map C)
  | 0, _, _, _, _ => rfl
  | n + 1, k, r, s, t => by
    simp only [List.range'_succ, List.map_cons, run]
    rw [show (x3 (A k) (B k) (C k)).toNat = (A k).toNat ^^^ (B k).toNat ^^^ (C k).toNat by simp [x3], bt_xor, bt_xor]
    exact run_affine A B C n (k + 1) _ _ _
theorem more_affine (A B C : Nat → Int) (n : Nat) : more ent 0 ((List.range n).map A) ^^^ more ent 0 ((List.range n).map B) ^^^ more ent 0 ((List.range n).map C) = more ent 0 ((List.range n).map fun i => x3 (A i) (B i) (C i)) := by
  rw [List.range_eq_range']
  have h := run_affine A B C n 0 4294967295 4294967295 4294967295
  rw [show (4294967295 ^^^ 4294967295 ^^^ 4294967295 : Nat) = 4294967295 by decide] at h
  unfold more
  simp only [Nat.zero_xor]
  rw [h]
  generalize run ent 4294967295 _ = x
  generalize run ent 4294967295 _ = y
  generalize run ent 4294967295 _ = z
  rw [xor4 x 4294967295 y 4294967295, Nat.xor_self, Nat.xor_zero, Nat.xor_assoc (x ^^^ y)]

/-! ### the examples -/
theorem shown9 : more ent 0 [49, 50, 51, 52, 53, 54, 55, 56, 57] = 3421780262 := by decide +kernel
theorem shown0 : more ent 0 [] = 0 := by decide +kernel
theorem shownR : rows ent 0 [[49, 50, 51, 52], [53, 54, 55, 56, 57]] = 3421780262 := by decide +kernel
end Go.Proofs.YthghodmjpdooaaaDoor.Crc

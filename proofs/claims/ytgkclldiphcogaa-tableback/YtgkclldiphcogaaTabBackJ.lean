/- TabBackJ: TabXRow, TabBackP, TabBackW, as one text. -/
import Derived.Test.YtgkclldiphcogaaTabOpen2
import Derived.Test.YtgkclldiphcogaaTabTakeN
import Derived.Test.YtgkclldiphcogaaTabTakeX
import Derived.Test.YtgkclldiphcogaaCurApp
import Derived.Laws.Bits128
import Derived.Maps.AppendAt

/- Layer 11: rows of attributes that came in, opened. -/
namespace Go.Proofs.Ytgkclldiphcogaa
set_option linter.unusedVariables false
set_option maxRecDepth 100000
open Go.RowKit Go.Maps Go.ChangeShapes Go.WideShapes Go.ChangeAt
open Nam Tre
open Lz (g)

/-- A row's slice, and its attributes. -/
structure XRow where
  a : Option Addr
  n : Nat
  c : Nat
  xs : List (ByteArray × List Int)
/-- A row that may be read. -/
structure XRow.Ok (w : World) (r : XRow) : Prop where
  xr : XsR w r.a r.n r.xs
  cap : r.n ≤ r.c
  max : r.c ≤ 9223372036854775807
  nil : r.a = none → r.c = 0
theorem XRow.Ok.below {w w' : World} {r : XRow} (h : r.Ok w) (hb : Below w.heap.size w w') : r.Ok w' := { h with xr := h.xr.below hb }
/-- Rows of attributes in memory. -/
def XRows (w : World) (a : Option Addr) (len cap : Nat) (R : Nat → XRow) : Prop :=
  len ≤ 9223372036854775807 ∧ (len = 0 ∨ ∃ b off, a = some ⟨b, off, none⟩ ∧ b < w.heap.size ∧ ∀ i, i < len → w.cell? ⟨b, off + i, none⟩ = some (.slice (R i).a (R i).n (R i).c) ∧ (R i).Ok w)
theorem open_xrows {H : Type} {enc : TypeId × Value → H} {W : World} {base : Nat} {v : Value} {d : DataW H} {p : List MemPlace} (hok : Value.okWide Try.prog W .any base 57 v)
    (h : DataW.Trod enc Try.prog W 0 (fun _ => true) true 57 v d p) : ∃ a len cap R, v = .slice a len cap ∧ XRows W a len cap R := by
  obtain ⟨a, len, cap, rfl⟩ := okWide_slice Try.underlying57 hok
  obtain ⟨fuel, hf⟩ := h
  rcases Deep.open_slice Try.underlying57 hf with ⟨hcs, _⟩ | ⟨x, l, c, m, n, D, Pl, hcs, _, hl, hm, hmm, _, hx⟩
  · simp [Value.cells] at hcs
    obtain ⟨rfl, rfl, rfl⟩ := hcs
    exact ⟨none, 0, 0, fun _ => ⟨none, 0, 0, []⟩, rfl, by omega, .inl rfl⟩
  · simp [Value.cells] at hcs
    obtain ⟨rfl, rfl, rfl⟩ := hcs
    have ce : Try.prog.cellsOf 28 = 1 := by kernel_rfl
    have hlm : len ≤ m := by rw [hmm]; simp; exact hl
    have each : ∀ i, i < len → ∃ o : XRow, W.cell? (x.add i) = some (.slice o.a o.n o.c) ∧ o.Ok W := by
      intro i hi
      obtain ⟨cs', h1, h2⟩ := hx i (by omega)
      rw [ce] at h1
      obtain ⟨_, hlen, hcell⟩ := World.cells?_some h1
      obtain ⟨a', n', c', xs, rfl, r1, r2, r3, r4⟩ := xs_trod h2
      have e0 := hcell 0 (by omega)
      rw [Deep.add_add] at e0
      exact ⟨⟨a', n', c', xs⟩, by simpa using e0, ⟨r1, r2, r3, r4⟩⟩
    obtain ⟨O, hO⟩ : ∃ O : Nat → XRow, ∀ i, i < len → W.cell? (x.add i) = some (.slice (O i).a (O i).n (O i).c) ∧ (O i).Ok W := by
      refine ⟨fun i => if h : i < len then (each i h).choose else ⟨none, 0, 0, []⟩, fun i hi => ?_⟩
      simp only [dif_pos hi]
      exact (each i hi).choose_spec
    refine ⟨_, len, cap, O, rfl, by unfold maxLen at hm; omega, ?_⟩
    by_cases e : len = 0
    · exact .inl e
    · obtain ⟨b, off, spot⟩ := x
      have h00 := (hO 0 (by omega)).1
      have hspot : spot = none := by simpa [Addr.add] using World.cell?_spot h00
      subst hspot
      have hlt : b < W.heap.size := by
        have := World.block_lt_of_cell? W _ h00
        simpa [Addr.add] using this
      refine .inr ⟨b, off, rfl, hlt, fun i hi => ?_⟩
      have := hO i hi
      simp only [Addr.add_lit] at this
      exact this
/-- Rows' slices, as cells. -/
def rvs (L : List XRow) : List Value := L.map fun r => .slice r.a r.n r.c
theorem rvs_append (L M : List XRow) : rvs (L ++ M) = rvs L ++ rvs M := by simp [rvs]
theorem infoXs : (Try.prog.info? 28).map (fun i => (i.zero, i.size, i.bytes)) = some (some (.slice none 0 0), 1, 24) := by kernel_rfl
/-- 'append' of one row to a row of rows of the call's own. -/
theorem wpList_append_xrow (w : World) {ops : Array Oper} {rest : List Oper} {o : Oper} {a : Act} {Q : Exit → Act → World → Prop} (hgd : o.guard = none) (s x : Operand)
    (ho : o.op = .call { callee := .builtin .append, args := #[s, x], argTypes := #[57, 57] })
    (base : Nat) (vo : Option Addr) (n vc : Nat) (L : List XRow) (hs : a.eval s = .slice vo n vc) (hown : w.ownsRow base 28 1 (.slice vo n vc) n (rvs L))
    (p : Nat) (t : XRow) (hx : a.eval x = .slice (some ⟨p, 0, none⟩) 1 1) (hp : w.cell? ⟨p, 0, none⟩ = some (.slice t.a t.n t.c))
    (hbd : n + 1 ≤ 1000000) (hbase : base ≤ w.heap.size)
    (h : ∀ b' c' w', w'.ownsRow base 28 1 (.slice (some ⟨b', 0, none⟩) (n + 1) c') (n + 1) (rvs (L ++ [t])) → w.grownBy w' (Value.slice vo n vc).ownBlock → ((Value.slice vo n vc).ownBlock = some b' ∨ b' = w.heap.size) → wpList Try.prog ops Q rest (a.put o.dst (.slice (some ⟨b', 0, none⟩) (n + 1) c')) w') :
    wpList Try.prog ops Q (o :: rest) a w := by
  obtain ⟨i0, hi, hz0, hz1, hz2⟩ := info_parts infoXs
  refine wpList_append_own_at w hgd s x _ ho base 28 i0 (.slice none 0 0) 1 24 Try.underlying57 hi hz0 hz1 hz2 rfl (by decide) _ n _ hs hown ⟨p, 0, none⟩ 1 1 [.slice t.a t.n t.c] hx (by simp) ?_ (by simp; rfl) (by unfold maxLen; omega) (by omega) hbase ?_
  · intro j u hj
    match j, hj with
    | 0, hj => simp at hj; subst hj; simpa [Addr.add] using hp
  · intro v' w' h2 h3 _ h5
    obtain ⟨g', c', rfl, _⟩ := h2.form (by omega)
    refine h g' c' w' (by rw [rvs_append]; exact h2) h3 ?_
    rcases h5 with h5 | h5
    · exact .inl h5.symm
    · exact .inr (by simpa [Value.ownBlock] using h5)
end Go.Proofs.Ytgkclldiphcogaa

/- Layer 11: what was put into a row is taken out of it as it was: on lists. -/
namespace Go.Proofs.Ytgkclldiphcogaa
set_option linter.unusedVariables false
open Lz (g)
open Crc (ent)
open Cur
open Frm Mtr Tre Tab
namespace Tab
theorem rdO_row (z : List Int) (j n : Nat) (h : j + n ≤ z.length) : rdO (done ent z) (rf ent z j) n = some ((z.drop j).take n, rf ent z (j + n)) := by
  unfold rdO
  have := (rf_bd ent z j).1
  rw [if_neg (by omega)]
  exact rd_row small_ent z n j n (Nat.le_refl _) h
theorem rdO_end (z : List Int) (n : Nat) (hn : 0 < n) : rdO (done ent z) (rf ent z z.length) n = none := by
  unfold rdO
  have := (rf_bd ent z z.length).1
  rw [if_neg (by omega)]
  unfold rd
  obtain ⟨k, rfl⟩ : ∃ k, n = k + 1 := ⟨n - 1, by omega⟩
  exact rdF_none (by omega) (pt_none (rd_end small_ent z))
/-- Numbers' bytes, two each. -/
def b2 (R : List Int) : List Int := R.flatMap (by' 2)
theorem b2_length (R : List Int) : (b2 R).length = R.length * 2 := by
  induction R with
  | nil => rfl
  | cons x r ih =>
    have : b2 (x :: r) = by' 2 x ++ b2 r := rfl
    rw [this, List.length_append, ih, by_length]
    simp; omega
theorem b2_bytes (R : List Int) : Bytes (b2 R) := by
  induction R with
  | nil => exact Bytes.nil
  | cons x r ih => exact (by_bytes 2 x).append ih
theorem pn_ok : ∀ (R : List Int) (zs : List Int), (∀ x ∈ R, 0 ≤ x ∧ x < 65536) → R.foldl (fun s x => wNum x 2 s) (zs, 0) = (zs ++ b2 R, 0)
  | [], zs, _ => by simp [b2]
  | x :: r, zs, h => by
    have hx := h x (List.mem_cons_self ..)
    rw [List.foldl_cons, wNum_ok zs 2 2 x rfl (by omega) (by omega) hx.1 (by have := hx.2; omega), pn_ok r _ (fun y hy => h y (List.mem_cons_of_mem _ hy))]
    simp [b2]
theorem putN_ok {R : List Int} (h : ∀ x ∈ R, 0 ≤ x ∧ x < 65536) : putN 2 R = (b2 R, 0) := by
  unfold putN
  rw [if_pos (.inl rfl)]
  have := pn_ok R [] h
  simpa [pn] using this
theorem nums_b2 : ∀ (R : List Int), (∀ x ∈ R, 0 ≤ x ∧ x < 65536) → nums 2 R.length (b2 R) = R
  | [], _ => rfl
  | x :: r, h => by
    have hx := h x (List.mem_cons_self ..)
    have e : b2 (x :: r) = by' 2 x ++ b2 r := rfl
    rw [e, List.length_cons, nums, List.take_left' (by_length 2 x), List.drop_left' (by_length 2 x), nums_b2 r (fun y hy => h y (List.mem_cons_of_mem _ hy)), le_by 2 x hx.1 (by have := hx.2; omega)]
theorem back_nums {R : List Int} (h : ∀ x ∈ R, 0 ≤ x ∧ x < 65536) : takN (done ent (b2 R)) R.length 2 = (R, 0) := by
  have hB := done_bytes ent (b2_bytes R)
  refine takN_some (nx := rf ent (b2 R) (b2 R).length) (by omega) ?_ (rdO_end _ 1 (by omega))
  rw [sq_rdO hB _ _ 0 (Int.le_refl _)]
  have hr := rdO_row (b2 R) 0 (b2 R).length (by omega)
  rw [rf_zero, Nat.zero_add, List.drop_zero, List.take_of_length_le (Nat.le_refl _)] at hr
  have e : ((R.length : Int)).toNat * ((2 : Int)).toNat = (b2 R).length := by rw [b2_length]; rfl
  rw [e, hr, Int.toNat_natCast]
  simp only [Option.map_some]
  rw [show ((2 : Int)).toNat = 2 from rfl, nums_b2 R h]
theorem back_more (R : List Int) : takN (done ent (b2 R)) (R.length + 1) 2 = ([], 2) := by
  have hB := done_bytes ent (b2_bytes R)
  refine takN_none (by omega) ?_
  rw [sq_rdO hB _ _ 0 (Int.le_refl _)]
  have hr := rdO_row (b2 R) 0 (b2 R).length (by omega)
  rw [rf_zero, Nat.zero_add, List.drop_zero, List.take_of_length_le (Nat.le_refl _)] at hr
  have e : ((R.length : Int) + 1).toNat * ((2 : Int)).toNat = (b2 R).length + 2 := by
    rw [b2_length, show ((R.length : Int) + 1).toNat = R.length + 1 by omega, show ((2 : Int)).toNat = 2 from rfl]; omega
  rw [e, rdO_add hB, hr]
  simp only [Option.bind_some]
  rw [rdO_end (b2 R) 2 (by omega)]
  rfl
theorem back_less {R : List Int} (hn : 0 < R.length) : takN (done ent (b2 R)) ((R.length : Int) - 1) 2 = ([], 2) := by
  have hB := done_bytes ent (b2_bytes R)
  have hl := b2_length R
  have hr := rdO_row (b2 R) 0 ((R.length - 1) * 2) (by omega)
  rw [rf_zero, Nat.zero_add, List.drop_zero] at hr
  refine takN_more (l := nums 2 (R.length - 1) ((b2 R).take ((R.length - 1) * 2))) (nx := rf ent (b2 R) ((R.length - 1) * 2)) (by omega) ?_ ?_
  · rw [sq_rdO hB _ _ 0 (Int.le_refl _), show ((R.length : Int) - 1).toNat = R.length - 1 by omega, show ((2 : Int)).toNat = 2 from rfl, hr]
    rfl
  · rw [rdO_row (b2 R) ((R.length - 1) * 2) 1 (by omega)]
    rfl
/-- A text that was put is read. -/
theorem txO_row {z t r : List Int} {j : Nat} (h : z.drop j = ((t.length : Int) :: t) ++ r) (hj : j ≤ z.length) : txO (done ent z) (rf ent z j) = some (t, rf ent z (j + (t.length + 1))) := by
  have hl : z.length - j = t.length + 1 + r.length := by
    have := congrArg List.length h
    simp at this
    omega
  unfold txO
  rw [rdO_row z j 1 (by omega), h]
  simp only [Option.bind_some]
  have e1 : (((t.length : Int) :: t) ++ r).take 1 = [(t.length : Int)] := by simp
  rw [e1, show g [(t.length : Int)] 0 = (t.length : Int) from rfl, Int.toNat_natCast, rdO_row z (j + 1) t.length (by omega)]
  have e2 : z.drop (j + 1) = t ++ r := by
    rw [← List.drop_drop, h]; simp
  rw [e2, List.take_left' rfl]
  congr 3
  omega
theorem xaR_row {z : List Int} : ∀ (xs : List (ByteArray × List Int)) (r : List Int) (j : Nat), j ≤ z.length → z.drop j = xs.flatMap xB ++ r → xaR (done ent z) xs.length (rf ent z j) = xs
  | [], r, j, hj, h => rfl
  | x :: xs, r, j, hj, h => by
    have hxB : (x :: xs).flatMap xB ++ r = (((sb x.1).length : Int) :: sb x.1) ++ (((x.2.length : Int) :: x.2) ++ (xs.flatMap xB ++ r)) := by
      simp [xB, sb_length, List.flatMap_cons]
    rw [hxB] at h
    have h1 := txO_row h hj
    have hl : z.length - j = (sb x.1).length + 1 + (x.2.length + 1 + (xs.flatMap xB ++ r).length) := by
      have := congrArg List.length h
      simp at this ⊢
      omega
    have h2 : z.drop (j + ((sb x.1).length + 1)) = ((x.2.length : Int) :: x.2) ++ (xs.flatMap xB ++ r) := by
      rw [← List.drop_drop, h, List.drop_left' (by simp)]
    have h3 := txO_row h2 (by omega)
    have h4 : z.drop (j + ((sb x.1).length + 1) + (x.2.length + 1)) = xs.flatMap xB ++ r := by
      rw [← List.drop_drop, h2, List.drop_left' (by simp)]
    rw [List.length_cons, xaR_one h1 h3, xaR_row xs r _ (by omega) h4, Cap.str_sb]
/-- Attributes that were put are taken. -/
theorem back_xs {u v : List Int} {xs : List (ByteArray × List Int)} (hne : xs ≠ []) (hok : xsOk xs = true) : txA (done ent (u ++ (xsB xs.length xs ++ v))) (rf ent (u ++ (xsB xs.length xs ++ v)) u.length) = some xs := by
  obtain ⟨z, hz⟩ : ∃ z, z = u ++ (xsB xs.length xs ++ v) := ⟨_, rfl⟩
  rw [← hz]
  have hd : z.drop u.length = (xs.length : Int) :: (xs.flatMap xB ++ v) := by rw [hz, List.drop_left' rfl]; rfl
  have hlen : u.length + 1 ≤ z.length := by rw [hz]; simp [xsB]
  have hpos := List.length_pos_iff.2 hne
  unfold txA
  rw [rdO_row z u.length 1 hlen, hd]
  simp only []
  have e1 : ((xs.length : Int) :: (xs.flatMap xB ++ v)).take 1 = [(xs.length : Int)] := by simp
  rw [e1, show g [(xs.length : Int)] 0 = (xs.length : Int) from rfl, Int.toNat_natCast, xaR_row xs v (u.length + 1) hlen (by rw [← List.drop_drop, hd]; rfl), if_pos ⟨by omega, rfl, hok⟩]
end Tab
end Go.Proofs.Ytgkclldiphcogaa

/- Layer 11: rows of attributes put one behind the other, with their refs: on lists, and in memory. -/
namespace Go.Proofs.Ytgkclldiphcogaa
set_option linter.unusedVariables false
set_option maxRecDepth 100000
open Go.RowKit Go.Maps
open Lz (g)
open Crc (ent)
open Cur
open Frm Mtr Tre Tab

theorem and_low (n : Int) : bits .and .i64 n 65535 = n % 65536 := by
  have hl : (BitVec.ofInt 64 65535).toNat = 2 ^ 16 - 1 := by decide
  have key : (BitVec.ofInt 64 n &&& BitVec.ofInt 64 65535).toNat = (n % ((2 ^ 64 : Nat) : Int)).toNat % 2 ^ 16 := by
    rw [BitVec.toNat_and, BitVec.toNat_ofInt, hl, Nat.and_two_pow_sub_one_eq_mod]
  show IntKind.i64.wrap ((BitVec.ofInt 64 n &&& BitVec.ofInt 64 65535).toNat : Nat) = n % 65536
  rw [key, IntKind.wrap_i64]
  omega
/-- 'append' of one number to a row of the call's own, and where the row lies. -/
theorem wpList_append_num_at (w : World) {ops : Array Oper} {rest : List Oper} {o : Oper} {a : Act} {Q : Exit → Act → World → Prop} (hgd : o.guard = none) (s x : Operand)
    (ho : o.op = .call { callee := .builtin .append, args := #[s, x], argTypes := #[25, 25] })
    (base : Nat) (vo : Option Addr) (n vc : Nat) (l : List Int) (hs : a.eval s = .slice vo n vc) (hown : w.ownsRow base 3 1 (.slice vo n vc) n (zv l))
    (p : Nat) (t : Int) (hx : a.eval x = .slice (some ⟨p, 0, none⟩) 1 1) (hp : w.cell? ⟨p, 0, none⟩ = some (.int .i64 t))
    (hbd : n + 1 ≤ 100000000) (hbase : base ≤ w.heap.size)
    (h : ∀ b' c' w', w'.ownsRow base 3 1 (.slice (some ⟨b', 0, none⟩) (n + 1) c') (n + 1) (zv (l ++ [t])) → w.grownBy w' (Value.slice vo n vc).ownBlock → ((Value.slice vo n vc).ownBlock = some b' ∨ b' = w.heap.size) → wpList Try.prog ops Q rest (a.put o.dst (.slice (some ⟨b', 0, none⟩) (n + 1) c')) w') :
    wpList Try.prog ops Q (o :: rest) a w := by
  obtain ⟨i0, hi, hz0, hz1, hz2⟩ := info_parts infoNum
  refine wpList_append_own_at w hgd s x _ ho base 3 i0 (.int .i64 0) 1 8 Try.underlying25 hi hz0 hz1 hz2 rfl (by decide) _ n _ hs hown ⟨p, 0, none⟩ 1 1 [.int .i64 t] hx (by simp) ?_ (by simp; rfl) (by unfold maxLen; omega) (by omega) hbase ?_
  · intro j u hj
    match j, hj with
    | 0, hj => simp at hj; subst hj; simpa [Addr.add] using hp
  · intro v' w' h2 h3 _ h5
    obtain ⟨g', c', rfl, _⟩ := h2.form (by omega)
    refine h g' c' w' (by rw [zv_append]; exact h2) h3 ?_
    rcases h5 with h5 | h5
    · exact .inl h5.symm
    · exact .inr (by simpa [Value.ownBlock] using h5)
namespace Tab
/-- The rows' bytes, one behind the other. -/
def zL (L : List XRow) : List Int := L.flatMap fun r => xsB r.xs.length r.xs
def pL (L : List XRow) (j : Nat) : Nat := (zL (L.take j)).length
def refL (L : List XRow) : List Int := (List.range L.length).map fun j => rf ent (zL L) (pL L j)
theorem zL_append (A B : List XRow) : zL (A ++ B) = zL A ++ zL B := by simp [zL]
theorem zL_one (r : XRow) : zL [r] = xsB r.xs.length r.xs := by simp [zL]
theorem zL_cons (r : XRow) (L : List XRow) : zL (r :: L) = xsB r.xs.length r.xs ++ zL L := by simp [zL]
theorem zL_split (L : List XRow) (j : Nat) : zL L = zL (L.take j) ++ zL (L.drop j) := by rw [← zL_append, List.take_append_drop]
theorem pL_le (L : List XRow) (j : Nat) : pL L j ≤ (zL L).length := by
  unfold pL
  rw [zL_split L j, List.length_append]; omega
theorem refL_length (L : List XRow) : (refL L).length = L.length := by simp [refL]
theorem refL_snoc (L : List XRow) (r : XRow) : refL (L ++ [r]) = refL L ++ [rf ent (zL L) (zL L).length] := by
  unfold refL
  rw [List.length_append, List.length_singleton, List.range_succ, List.map_append]
  congr 1
  · apply List.map_congr_left
    intro j hj
    have hj := List.mem_range.1 hj
    have e : pL (L ++ [r]) j = pL L j := by unfold pL; rw [List.take_append_of_le_length (by omega)]
    rw [e, zL_append, rf_append _ _ _ _ (pL_le L j)]
  · simp only [List.map_cons, List.map_nil]
    have e : pL (L ++ [r]) L.length = (zL L).length := by unfold pL; rw [List.take_left']; rfl
    rw [e, zL_append, rf_append _ _ _ _ (Nat.le_refl _)]
theorem refL_get (L : List XRow) (j : Nat) (h : j < L.length) : g (refL L) j = rf ent (zL L) (pL L j) := by simp [refL, g, h]
theorem xsB_length {xs : List (ByteArray × List Int)} (h : xsOk xs = true) : (xsB xs.length xs).length ≤ 2000 := by
  obtain ⟨h1, h2⟩ := xsOk_mem h
  have := flat_length h2
  simp only [xsB, List.length_cons]
  omega
theorem zL_length {L : List XRow} (h : ∀ r ∈ L, xsOk r.xs = true) : (zL L).length ≤ 2000 * L.length := by
  induction L with
  | nil => simp [zL]
  | cons r L ih =>
    have h1 := xsB_length (h r (List.mem_cons_self ..))
    have h2 := ih (fun x hx => h x (List.mem_cons_of_mem _ hx))
    rw [zL_cons, List.length_append, List.length_cons]
    omega
theorem xsB_bytes {xs : List (ByteArray × List Int)} (h : xsOk xs = true) (hb : ∀ x ∈ xs, Bytes x.2) : Bytes (xsB xs.length xs) := by
  obtain ⟨h1, h2⟩ := xsOk_mem h
  have one : ∀ n : Nat, n ≤ 255 → ∀ l : List Int, Bytes l → Bytes ((n : Int) :: l) := fun n hn l hl => by
    intro x hx
    rcases List.mem_cons.1 hx with rfl | hx
    · omega
    · exact hl x hx
  refine one _ (by omega) _ ?_
  have hx : ∀ ys : List (ByteArray × List Int), (∀ x ∈ ys, x ∈ xs) → Bytes (ys.flatMap xB) := by
    intro ys
    induction ys with
    | nil => intro _; exact Bytes.nil
    | cons y ys ih =>
      intro hs
      rw [List.flatMap_cons]
      have hy := hs y (List.mem_cons_self ..)
      obtain ⟨q1, q2⟩ := h2 y hy
      refine Bytes.append ?_ (ih (fun x hx => hs x (List.mem_cons_of_mem _ hx)))
      exact (one _ (by omega) _ (sb_bytes _)).append (one _ (by omega) _ (hb y hy))
  exact hx xs (fun _ h => h)
theorem zL_bytes {L : List XRow} (h : ∀ r ∈ L, xsOk r.xs = true) (hb : ∀ r ∈ L, ∀ x ∈ r.xs, Bytes x.2) : Bytes (zL L) := by
  induction L with
  | nil => exact Bytes.nil
  | cons r L ih =>
    rw [zL_cons]
    exact (xsB_bytes (h r (List.mem_cons_self ..)) (hb r (List.mem_cons_self ..))).append (ih (fun x hx => h x (List.mem_cons_of_mem _ hx)) (fun x hx => hb x (List.mem_cons_of_mem _ hx)))
/-- Each row that was put is taken by its ref. -/
theorem back_row (L : List XRow) (j : Nat) (h : j < L.length) (hne : L[j].xs ≠ []) (hok : xsOk L[j].xs = true) : txA (done ent (zL L)) (g (refL L) j) = some L[j].xs := by
  have hz : zL L = zL (L.take j) ++ (xsB L[j].xs.length L[j].xs ++ zL (L.drop (j + 1))) := by
    rw [← zL_cons, ← List.drop_eq_getElem_cons h, ← zL_append, List.take_append_drop]
  rw [refL_get L j h]
  have := back_xs (u := zL (L.take j)) (v := zL (L.drop (j + 1))) hne hok
  rw [← hz] at this
  exact this
/-- The writer at p, the row of refs, the row of rows, since w8. -/
structure BX (w8 : World) (p tb : Nat) (z : List Int) (R : List Int) (L : List XRow) (v6 v7 : Value) (O : Nat → Prop) (w : World) : Prop where
  wr : WrM w p O tb (Mtr.fr ent z (z.length / 128)) (rest z)
  r6 : w.ownsRow w8.heap.size 3 1 v6 R.length (zv R)
  r7 : w.ownsRow w8.heap.size 28 1 v7 L.length (rvs L)
  n6 : ∀ j, v6.ownBlock = some j → ¬ O j
  n7 : ∀ j, v7.ownBlock = some j → ¬ O j
  up : ∀ t, O t → t = p ∨ w8.heap.size ≤ t
  fr : Fr (fun k => k = p ∨ w8.heap.size ≤ k) w8 w
section
variable {w8 w w' : World} {p tb : Nat} {z zs R : List Int} {L : List XRow} {v6 v7 v' : Value} {O O' : Nat → Prop}
theorem BX.below (h : BX w8 p tb z R L v6 v7 O w) (hb : Below w.heap.size w w') : BX w8 p tb z R L v6 v7 O w' :=
  ⟨h.wr.below hb, owns_below h.r6 hb, owns_below h.r7 hb, h.n6, h.n7, h.up, h.fr.then (Fr.of_below hb)⟩
theorem BX.apart (h : BX w8 p tb z R L v6 v7 O w) (k : Nat) (e6 : v6.ownBlock = some k) : v7.ownBlock ≠ some k := fun e7 => by
  obtain ⟨c6, e6⟩ := owns_obj h.r6 e6
  obtain ⟨c7, e7⟩ := owns_obj h.r7 e7
  rw [e6] at e7
  injection e7 with e8
  injection e8 with _ e9 _
  exact absurd e9 (by decide)
theorem BX.add (h : BX w8 p tb z R L v6 v7 O w) (hW : WrM w' p O' tb (Mtr.fr ent (z ++ zs) ((z ++ zs).length / 128)) (rest (z ++ zs))) (hF : Fr O w w') (hG : Gr O O' w) : BX w8 p tb (z ++ zs) R L v6 v7 O' w' := by
  refine ⟨hW, owns_fr h.r6 hF h.n6, owns_fr h.r7 hF h.n7, fun j hj hx => ?_, fun j hj hx => ?_, fun t ht => ?_, h.fr.trans hF (fun t _ ht => h.up t ht)⟩
  · rcases hG j hx with hx | hx
    · exact h.n6 j hj hx
    · have := (h.r6.lt j hj).2; omega
  · rcases hG j hx with hx | hx
    · exact h.n7 j hj hx
    · have := (h.r7.lt j hj).2; omega
  · rcases hG t ht with hx | hx
    · exact h.up t hx
    · have := h.fr.size; omega
theorem BX.ref {b c : Nat} (h : BX w8 p tb z R L v6 v7 O w) (x : Int) (hg : w.grownBy w' v6.ownBlock) (ho : w'.ownsRow w8.heap.size 3 1 (.slice (some ⟨b, 0, none⟩) (R.length + 1) c) (R.length + 1) (zv (R ++ [x]))) (hl : v6.ownBlock = some b ∨ b = w.heap.size) :
    BX w8 p tb z (R ++ [x]) L (.slice (some ⟨b, 0, none⟩) (R.length + 1) c) v7 O w' := by
  have f : Fr (fun j => v6.ownBlock = some j) w w' := Fr.of_grown hg (fun k hk => hk)
  refine ⟨h.wr.fr f (fun k hk hx => h.n6 k hx hk), ?_, owns_fr h.r7 f (fun k hk hx => h.apart k hx hk), fun j hj hx => ?_, h.n7, h.up, h.fr.trans f (fun t _ ht => .inr (h.r6.lt t ht).1)⟩
  · rw [List.length_append]; exact ho
  · simp [Value.ownBlock] at hj
    subst hj
    rcases hl with hl | hl
    · exact h.n6 _ hl hx
    · have := h.wr.olt _ hx
      omega
theorem BX.row {b c : Nat} (h : BX w8 p tb z R L v6 v7 O w) (x : XRow) (hg : w.grownBy w' v7.ownBlock) (ho : w'.ownsRow w8.heap.size 28 1 (.slice (some ⟨b, 0, none⟩) (L.length + 1) c) (L.length + 1) (rvs (L ++ [x]))) (hl : v7.ownBlock = some b ∨ b = w.heap.size) :
    BX w8 p tb z R (L ++ [x]) v6 (.slice (some ⟨b, 0, none⟩) (L.length + 1) c) O w' := by
  have f : Fr (fun j => v7.ownBlock = some j) w w' := Fr.of_grown hg (fun k hk => hk)
  refine ⟨h.wr.fr f (fun k hk hx => h.n7 k hx hk), owns_fr h.r6 f (fun k hk hx => h.apart k hk hx), ?_, h.n6, fun j hj hx => ?_, h.up, h.fr.trans f (fun t _ ht => .inr (h.r7.lt t ht).1)⟩
  · rw [List.length_append]; exact ho
  · simp [Value.ownBlock] at hj
    subst hj
    rcases hl with hl | hl
    · exact h.n7 _ hl hx
    · have := h.wr.olt _ hx
      omega
end
end Tab
end Go.Proofs.Ytgkclldiphcogaa

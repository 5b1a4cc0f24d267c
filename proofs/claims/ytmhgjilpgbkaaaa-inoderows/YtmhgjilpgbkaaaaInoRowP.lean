/- Layer 9: records in a row, one behind the other: what is read of it; records in memory, one behind the other. -/
import Derived.Test.YtmhgjilpgbkaaaaInoRead
import Derived.Test.YtmhgjilpgbkaaaaInoShown
import Derived.Deep.MidRow
import Derived.Deep.SlicePairs
namespace Go.Proofs.Ytmhgjilpgbkaaaa
set_option linter.unusedVariables false
set_option maxRecDepth 100000
open Go.RowKit Go.Maps Go.ChangeShapes Go.WideShapes Go.ChangeAt
open Lz (g)
open Crc (ent)
open Cur
open Ino
open Mtr (rd rf done rf_append rf_bd rd_row)

namespace Ino
/-- The bytes of records, one behind the other; the refs at which they begin. -/
def zsK (Ks : List Rec) : List Int := (Ks.map putB).flatten
def pK (Ks : List Rec) (j : Nat) : Nat := (zsK (Ks.take j)).length
def refK (Ks : List Rec) : List Int := (List.range Ks.length).map fun j => rf ent (zsK Ks) (pK Ks j)
theorem zsK_append (A B : List Rec) : zsK (A ++ B) = zsK A ++ zsK B := by simp [zsK]
theorem zsK_one (K : Rec) : zsK [K] = putB K := by simp [zsK]
theorem zsK_split (Ks : List Rec) (j : Nat) : zsK Ks = zsK (Ks.take j) ++ zsK (Ks.drop j) := by rw [← zsK_append, List.take_append_drop]
theorem pK_le (Ks : List Rec) (j : Nat) : pK Ks j ≤ (zsK Ks).length := by
  unfold pK
  rw [zsK_split Ks j, List.length_append]; omega
theorem refK_length (Ks : List Rec) : (refK Ks).length = Ks.length := by simp [refK]
theorem refK_snoc (Ks : List Rec) (K : Rec) : refK (Ks ++ [K]) = refK Ks ++ [rf ent (zsK Ks) (zsK Ks).length] := by
  unfold refK
  rw [List.length_append, show ([K] : List Rec).length = 1 from rfl, List.range_succ, List.map_append]
  congr 1
  · refine List.map_congr_left (fun j hj => ?_)
    have hj : j < Ks.length := by simpa using hj
    have e : pK (Ks ++ [K]) j = pK Ks j := by unfold pK; rw [List.take_append_of_le_length (by omega)]
    rw [e, zsK_append, rf_append _ _ _ _ (pK_le Ks j)]
  · simp only [List.map_cons, List.map_nil]
    have e : pK (Ks ++ [K]) Ks.length = (zsK Ks).length := by unfold pK; rw [List.take_left']; rfl
    rw [e, zsK_append, rf_append _ _ _ _ (Nat.le_refl _)]
theorem refK_get (Ks : List Rec) (j : Nat) (h : j < Ks.length) : (refK Ks)[j]? = some (rf ent (zsK Ks) (pK Ks j)) := by simp [refK, h]
theorem zsK_length {Ks : List Rec} (h : ∀ K ∈ Ks, K.may = true) : (zsK Ks).length ≤ 214 * Ks.length := by
  induction Ks with
  | nil => simp [zsK]
  | cons K Ks ih =>
    have h1 := ih (fun X hX => h X (List.mem_cons_of_mem _ hX))
    have h2 := (putB_least (h K (by simp))).2
    have e : zsK (K :: Ks) = putB K ++ zsK Ks := by simp [zsK]
    rw [e, List.length_append, List.length_cons]; omega
theorem zsK_bytes {Ks : List Rec} (h : ∀ K ∈ Ks, K.may = true) : Bytes (zsK Ks) := by
  induction Ks with
  | nil => intro x hx; simp [zsK] at hx
  | cons K Ks ih =>
    have e : zsK (K :: Ks) = putB K ++ zsK Ks := by simp [zsK]
    rw [e]
    exact (putB_bytes (h K (by simp))).append (ih (fun X hX => h X (List.mem_cons_of_mem _ hX)))
theorem pK_succ (Ks : List Rec) (j : Nat) (h : j < Ks.length) : pK Ks (j + 1) = pK Ks j + (putB Ks[j]).length := by
  unfold pK
  rw [List.take_succ_eq_append_getElem h, zsK_append, zsK_one, List.length_append]
theorem drop_K (Ks : List Rec) (y : List Int) (j : Nat) (h : j < Ks.length) : ∃ r, (zsK Ks ++ y).drop (pK Ks j) = putB Ks[j] ++ r := by
  refine ⟨zsK (Ks.drop (j + 1)) ++ y, ?_⟩
  rw [zsK_split Ks j, List.append_assoc]
  unfold pK
  rw [List.drop_left' rfl, List.drop_eq_getElem_cons h]
  have e : zsK (Ks[j] :: Ks.drop (j + 1)) = putB Ks[j] ++ zsK (Ks.drop (j + 1)) := by unfold zsK; rw [List.map_cons, List.flatten_cons]
  rw [e, List.append_assoc]
/-- P9.2: what was put is read of the row as it was, and what comes next begins behind it. -/
theorem readA_row {Ks : List Rec} (hm : ∀ K ∈ Ks, K.may = true) (y : List Int) (j : Nat) (h : j < Ks.length) :
    readA (done ent (zsK Ks ++ y)) (rf ent (zsK Ks) (pK Ks j)) = (Ks[j], rf ent (zsK Ks) (pK Ks (j + 1)), 0) := by
  have hk := hm _ (List.getElem_mem h)
  have hl := putB_least hk
  have h1 := pK_succ Ks j h
  have h2 := pK_le Ks (j + 1)
  have h3 := pK_le Ks j
  obtain ⟨r, hr⟩ := drop_K Ks y j h
  have e0 : rf ent (zsK Ks) (pK Ks j) = rf ent (zsK Ks ++ y) (pK Ks j) := (rf_append _ _ _ _ h3).symm
  have e1 : rf ent (zsK Ks) (pK Ks (j + 1)) = rf ent (zsK Ks ++ y) (pK Ks (j + 1)) := (rf_append _ _ _ _ h2).symm
  rw [e0, e1]
  have hb := rf_bd ent (zsK Ks ++ y) (pK Ks j)
  have rdr : ∀ n, pK Ks j + n ≤ (zsK Ks ++ y).length → rdA (done ent (zsK Ks ++ y)) (rf ent (zsK Ks ++ y) (pK Ks j)) n = some ((putB Ks[j] ++ r).take n, rf ent (zsK Ks ++ y) (pK Ks j + n)) := fun n hn => by
    unfold rdA
    rw [if_neg (by omega)]
    have := rd_row small_ent (zsK Ks ++ y) n (pK Ks j) n (Nat.le_refl _) hn
    rw [hr] at this
    exact this
  have hlen : (zsK Ks ++ y).length = (zsK Ks).length + y.length := List.length_append
  have a1 := rdr 14 (by omega)
  have e14 : ((putB Ks[j] ++ r).take 14).take 14 = (putB Ks[j]).take 14 := by rw [List.take_take, List.take_append_of_le_length (by omega)]; rfl
  have hlg : long ((putB Ks[j] ++ r).take 14) = (putB Ks[j]).length := by rw [long_take e14, ← putB_long hk]
  have hg0 : g ((putB Ks[j] ++ r).take 14) 0 = (Ks[j]).kind := by rw [Lz.g_take _ _ _ (by omega), Lz.g_append_left _ _ _ (by omega), putB_zero hk]
  have a2 := rdr (putB Ks[j]).length (by omega)
  rw [List.take_left' rfl] at a2
  rw [readA_some a1 (by rw [hg0]; exact kind_may hk) (by rw [hlg]; exact a2), if_pos (good_put hk), (read_put hk).1, h1]
/-- Records' cells, one behind the other. -/
def ivs (Ks : List Rec) : List Value := (Ks.map fun K => (iv K).toList).flatten
theorem ivs_append (A B : List Rec) : ivs (A ++ B) = ivs A ++ ivs B := by simp [ivs]
theorem ivs_one (K : Rec) : ivs [K] = (iv K).toList := by simp [ivs]
theorem ivs_length (Ks : List Rec) : (ivs Ks).length = Ks.length * 11 := by
  induction Ks with
  | nil => rfl
  | cons K Ks ih =>
    have e : ivs (K :: Ks) = (iv K).toList ++ ivs Ks := by simp [ivs]
    rw [e, List.length_append, ih, List.length_cons]
    have : (iv K).toList.length = 11 := rfl
    omega
theorem ivs_get (Ks : List Rec) (j c : Nat) (h : j < Ks.length) (hc : c < 11) : (ivs Ks)[j * 11 + c]? = (iv Ks[j]).toList[c]? := by
  have e : ivs Ks = ivs (Ks.take j) ++ ((iv Ks[j]).toList ++ ivs (Ks.drop (j + 1))) := by
    have h1 : ivs Ks = ivs (Ks.take j ++ (Ks[j] :: Ks.drop (j + 1))) := by rw [List.getElem_cons_drop, List.take_append_drop]
    rw [h1, ivs_append]
    unfold ivs
    rw [List.map_cons, List.flatten_cons]
  have hl : (ivs (Ks.take j)).length = j * 11 := by rw [ivs_length, List.length_take, Nat.min_eq_left (by omega)]
  have hl2 : (iv Ks[j]).toList.length = 11 := rfl
  rw [e, List.getElem?_append_right (by omega), hl, List.getElem?_append_left (by omega)]
  congr 1
  omega
theorem ivs_ones (Ks : List Rec) : ∀ u ∈ ivs Ks, u.oneCell' = true := by
  intro u hu
  unfold ivs at hu
  rw [List.mem_flatten] at hu
  obtain ⟨l, hl, hu⟩ := hu
  rw [List.mem_map] at hl
  obtain ⟨K, _, rfl⟩ := hl
  have := iv_one K
  rw [Array.all_eq_true_iff_forall_mem] at this
  exact this u (by simpa using hu)
theorem infoRecs : (Try.prog.info? 23).map (fun i => (i.zero, i.size, i.bytes)) = some (some (.agg (iv zr)), 11, 96) := by kernel_rfl
theorem infoInts : (Try.prog.info? 3).map (fun i => (i.zero, i.size, i.bytes)) = some (some (.int .i64 0), 1, 8) := by kernel_rfl
theorem emptyR {w : World} {B t size : Nat} (hB : B ≤ w.heap.size) : (w.alloc (.cells #[] t)).ownsRow B t size (.slice (some ⟨w.heap.size, 0, none⟩) 0 0) 0 [] :=
  ⟨by simp, .inr ⟨w.heap.size, 0, #[], rfl, hB, heap_alloc_new w _, Nat.le_refl _, by unfold maxLen; omega, by simp, by simp⟩⟩
/-- A record loaded from the midst of a row, also behind a test. -/
theorem wpList_load_rec_at {ops : Array Oper} {rest : List Oper} {o : Oper} {a : Act} {w : World} {Q : Exit → Act → World → Prop} (hw : Region.wanted o (yielded ops a.tmps) = true) (x : Operand) (ho : o.op = .load 23 x)
    (b off : Nat) (hx : a.eval x = .pointer (some ⟨b, off, none⟩)) (K : Rec) (hc : w.rangeAt b off (iv K).toList)
    (h : wpList Try.prog ops Q rest (a.put o.dst (.agg (iv K))) w) : wpList Try.prog ops Q (o :: rest) a w :=
  wpList_step fun Kk hK => by
    rw [if_pos hw]
    exact wp_load_mid 23 x ho b off hx (iv K).toList _ hc Try.underlying23 rfl infoRec (hK _ _ h)
theorem range_cell {w w' : World} {b o B : Nat} {cs : List Value} (h : w.rangeAt b o cs) (hb : Below B w w') (hlt : b < B) : w'.rangeAt b o cs := fun j v hv => (hb.cell (p := ⟨b, o + j, none⟩) hlt).trans (h j v hv)
/-- A record of a row of the call's own. -/
theorem owns_rec {w : World} {B n c : Nat} {ao : Option Addr} {Ks : List Rec} (h : w.ownsRow B 23 11 (.slice ao n c) n (ivs Ks)) (j : Nat) (hj : j < Ks.length) : ∃ gb, ao = some ⟨gb, 0, none⟩ ∧ gb < w.heap.size ∧ w.rangeAt gb (j * 11) (iv Ks[j]).toList := by
  have hl : Ks.length * 11 = n * 11 := by have := h.1; rw [ivs_length] at this; omega
  obtain ⟨gb, c', hv, _, hlt⟩ := h.form (by omega)
  obtain ⟨rfl, _, rfl⟩ : ao = some ⟨gb, 0, none⟩ ∧ n = n ∧ c = c' := by simpa using hv
  refine ⟨gb, rfl, hlt, fun i v hv => ?_⟩
  have hi : i < 11 := by
    have := (List.getElem?_eq_some_iff.1 hv).1
    have e : (iv Ks[j]).toList.length = 11 := rfl
    omega
  rw [h.cellAt (j * 11 + i) (by omega), ivs_get Ks j i hj hi, hv]
theorem owns_int {w : World} {B n c : Nat} {ao : Option Addr} {xs : List Int} (h : w.ownsRow B 3 1 (.slice ao n c) n (xs.map (Value.int .i64))) (j : Nat) (hj : j < xs.length) : ∃ gb, ao = some ⟨gb, 0, none⟩ ∧ gb < w.heap.size ∧ w.cell? ⟨gb, j, none⟩ = some (.int .i64 xs[j]) := by
  have hl : xs.length = n := by have := h.1; simp at this; omega
  obtain ⟨gb, c', hv, _, hlt⟩ := h.form (by omega)
  obtain ⟨rfl, _, rfl⟩ : ao = some ⟨gb, 0, none⟩ ∧ n = n ∧ c = c' := by simpa using hv
  refine ⟨gb, rfl, hlt, ?_⟩
  rw [h.cellAt j (by omega)]
  simp [hj]
end Ino
/-- Records that came in. -/
def InosB (w : World) (a : Option Addr) (len cap : Nat) (O : Nat → Rec) : Prop :=
  len ≤ 9223372036854775807 ∧ (len = 0 ∨ ∃ b off, a = some ⟨b, off, none⟩ ∧ b < w.heap.size ∧ ∀ i, i < len → w.rangeAt b (off + i * 11) (iv (O i)).toList ∧ (O i).In ∧ (O i).target.size ≤ 9223372036854775807)
theorem open_inodes {H : Type} {enc : TypeId × Value → H} {W : World} {base : Nat} {v : Value} {d : DataW H} {p : List MemPlace} (hok : Value.okWide Try.prog W .any base 48 v)
    (h : DataW.Trod enc Try.prog W 0 (fun _ => true) true 48 v d p) : ∃ a len cap O, v = .slice a len cap ∧ InosB W a len cap O := by
  obtain ⟨a, len, cap, rfl⟩ := okWide_slice Try.underlying48 hok
  obtain ⟨fuel, hf⟩ := h
  rcases Deep.open_slice Try.underlying48 hf with ⟨hcs, _⟩ | ⟨x, l, c, m, n, D, Pl, hcs, _, hl, hm, hmm, _, hx⟩
  · simp [Value.cells] at hcs
    obtain ⟨rfl, rfl, rfl⟩ := hcs
    exact ⟨none, 0, 0, fun _ => zr, rfl, by omega, .inl rfl⟩
  · simp [Value.cells] at hcs
    obtain ⟨rfl, rfl, rfl⟩ := hcs
    have ce : Try.prog.cellsOf 23 = 11 := by kernel_rfl
    have ci : Try.prog.cellsOf 3 = 1 := by kernel_rfl
    have c9 : Try.prog.cellsOf 9 = 1 := by kernel_rfl
    have hlm : len ≤ m := by rw [hmm]; simp; exact hl
    have each : ∀ i, i < len → ∃ o : Rec, (∀ k v, (iv o).toList[k]? = some v → W.cell? (x.add (i * 11 + k)) = some v) ∧ o.In ∧ o.target.size ≤ 9223372036854775807 := by
      intro i hi
      obtain ⟨cs', h1, h2⟩ := hx i (by omega)
      rw [ce] at h1
      obtain ⟨_, hlen, hcell⟩ := World.cells?_some h1
      obtain ⟨xs, k, hk, hxy, _, hxl, hfld⟩ := DataW.trod_struct Try.underlying23 h2
      match xs, hxl, cs', hlen with
      | [y0, y1, y2, y3, y4, y5, y6, y7, y8, y9, y10], _, [v0, v1, v2, v3, v4, v5, v6, v7, v8, v9, v10], _ =>
        have g0 := hfld 0 _ rfl
        have g1 := hfld 1 _ rfl
        have g2 := hfld 2 _ rfl
        have g3 := hfld 3 _ rfl
        have g4 := hfld 4 _ rfl
        have g5 := hfld 5 _ rfl
        have g6 := hfld 6 _ rfl
        have g7 := hfld 7 _ rfl
        have g8 := hfld 8 _ rfl
        have g9 := hfld 9 _ rfl
        have g10 := hfld 10 _ rfl
        simp [ci, c9] at g0 g1 g2 g3 g4 g5 g6 g7 g8 g9 g10
        obtain ⟨a0, q0, _, x0⟩ := DataW.trod_int Try.underlying3 g0
        obtain ⟨a1, q1, _, x1⟩ := DataW.trod_int Try.underlying3 g1
        obtain ⟨a2, q2, _, x2⟩ := DataW.trod_int Try.underlying3 g2
        obtain ⟨a3, q3, _, x3⟩ := DataW.trod_int Try.underlying3 g3
        obtain ⟨a4, q4, _, x4⟩ := DataW.trod_int Try.underlying3 g4
        obtain ⟨a5, q5, _, x5⟩ := DataW.trod_int Try.underlying3 g5
        obtain ⟨a6, q6, _, x6⟩ := DataW.trod_int Try.underlying3 g6
        obtain ⟨a7, q7, _, x7⟩ := DataW.trod_int Try.underlying3 g7
        obtain ⟨a8, q8, _, x8⟩ := DataW.trod_int Try.underlying3 g8
        obtain ⟨a9, q9, _, x9⟩ := DataW.trod_int Try.underlying3 g9
        obtain ⟨a10, q10, _, x10⟩ := DataW.trod_string Try.underlying9 g10
        simp at q0 q1 q2 q3 q4 q5 q6 q7 q8 q9 q10
        subst q0 q1 q2 q3 q4 q5 q6 q7 q8 q9 q10
        refine ⟨⟨a0, a1, a2, a3, a4, a5, a6, a7, a8, a9, a10⟩, fun k v hv => ?_, ⟨wf_i64_bd x0, wf_i64_bd x1, wf_i64_bd x2, wf_i64_bd x3, wf_i64_bd x4, wf_i64_bd x5, wf_i64_bd x6, wf_i64_bd x7, wf_i64_bd x8, wf_i64_bd x9⟩, by unfold maxLen at x10; omega⟩
        have hk11 : k < 11 := (List.getElem?_eq_some_iff.1 hv).1
        have e0 := hcell k (by omega)
        rw [Deep.add_add] at e0
        rw [e0]
        exact hv
    obtain ⟨O, hO⟩ : ∃ O : Nat → Rec, ∀ i, i < len → (∀ k v, (iv (O i)).toList[k]? = some v → W.cell? (x.add (i * 11 + k)) = some v) ∧ (O i).In ∧ (O i).target.size ≤ 9223372036854775807 := by
      refine ⟨fun i => if h : i < len then (each i h).choose else zr, fun i hi => ?_⟩
      simp only [dif_pos hi]
      exact (each i hi).choose_spec
    refine ⟨_, len, cap, O, rfl, by unfold maxLen at hm; omega, ?_⟩
    by_cases e : len = 0
    · exact .inl e
    · obtain ⟨b, off, spot⟩ := x
      have h00 := (hO 0 (by omega)).1 0 _ rfl
      have hspot : spot = none := by simpa [Addr.add] using World.cell?_spot h00
      subst hspot
      have hlt : b < W.heap.size := by
        have := World.block_lt_of_cell? W _ h00
        simpa [Addr.add] using this
      refine .inr ⟨b, off, rfl, hlt, fun i hi => ?_⟩
      obtain ⟨h1, h2⟩ := hO i hi
      refine ⟨fun k v hv => ?_, h2⟩
      have := h1 k v hv
      simp only [Addr.add_lit, ← Nat.add_assoc] at this
      exact this
end Go.Proofs.Ytmhgjilpgbkaaaa

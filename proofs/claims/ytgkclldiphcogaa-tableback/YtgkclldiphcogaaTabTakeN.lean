/- Layer 11: TakeNums, by the program. -/
import Derived.Test.YtgkclldiphcogaaTabText
import Derived.Test.YtgkclldiphcogaaTabNums
import Derived.Laws.MakeOwn
namespace Go.Proofs.Ytgkclldiphcogaa
set_option linter.unusedVariables false
open Go.RowKit Go.Maps
open Lz (g)
open Crc (ent)
open Frm Mtr Tab
open Cur

namespace Tab
/-- So many numbers of so many bytes. -/
def nums (w : Nat) : Nat → List Int → List Int
  | 0, _ => []
  | k + 1, z => le (z.take w) :: nums w k (z.drop w)
theorem nums_length (w : Nat) : ∀ (k : Nat) (z : List Int), (nums w k z).length = k
  | 0, _ => rfl
  | k + 1, z => by simp [nums, nums_length w k]
theorem nums_at (w : Nat) : ∀ (k : Nat) (z : List Int) (i : Nat), i < k → g (nums w k z) i = le ((z.drop (w * i)).take w)
  | 0, _, i, h => by omega
  | k + 1, z, 0, h => by simp [nums, g]
  | k + 1, z, i + 1, h => by
    have := nums_at w k (z.drop w) i (by omega)
    unfold nums
    have e : g (le (z.take w) :: nums w k (z.drop w)) (i + 1) = g (nums w k (z.drop w)) i := by simp [g]
    rw [e, this, List.drop_drop, Nat.mul_add, Nat.mul_one, Nat.add_comm]
/-- Numbers one behind the other, at refs. -/
def sq (X : List Int) (w : Nat) : Nat → Int → Option (List Int × Int)
  | 0, at' => some ([], at')
  | k + 1, at' => (rdO X at' w).bind fun q => (sq X w k q.2).map fun r => (le q.1 :: r.1, r.2)
theorem sq_rdO {X : List Int} (hX : Bytes X) (w : Nat) : ∀ (k : Nat) (at' : Int), 0 ≤ at' → sq X w k at' = (rdO X at' (k * w)).map fun q => (nums w k q.1, q.2)
  | 0, at', h => by rw [Nat.zero_mul, rdO_zero X h]; rfl
  | k + 1, at', h => by
    rw [show (k + 1) * w = w + k * w by rw [Nat.add_mul]; omega, rdO_add hX, sq]
    cases h1 : rdO X at' w with
    | none => rfl
    | some q =>
      obtain ⟨b, nx⟩ := q
      obtain ⟨a1, a2, a3, a4, a5⟩ := rdO_some hX h1
      simp only [Option.bind_some]
      rw [sq_rdO hX w k nx a3, Option.map_map, Option.map_map]
      congr 1
      funext r
      simp only [Function.comp]
      rw [nums, List.take_left' a2, List.drop_left' a2]
/-- What TakeNums answers: numbers and an error. -/
def takN (X : List Int) (many wide : Int) : List Int × Int :=
  if many < 0 ∨ ¬ (wide = 2 ∨ wide = 4) then ([], 1)
  else match sq X wide.toNat many.toNat 0 with
    | none => ([], 2)
    | some (l, nx) => if (rdO X nx 1).isSome = true then ([], 2) else (l, 0)
theorem takN_arg {X : List Int} {many wide : Int} (h : many < 0 ∨ ¬ (wide = 2 ∨ wide = 4)) : takN X many wide = ([], 1) := by unfold takN; rw [if_pos h]
theorem takN_none {X : List Int} {many wide : Int} (h : ¬ (many < 0 ∨ ¬ (wide = 2 ∨ wide = 4))) (hs : sq X wide.toNat many.toNat 0 = none) : takN X many wide = ([], 2) := by unfold takN; rw [if_neg h, hs]
theorem takN_more {X l : List Int} {many wide nx : Int} (h : ¬ (many < 0 ∨ ¬ (wide = 2 ∨ wide = 4))) (hs : sq X wide.toNat many.toNat 0 = some (l, nx)) (hm : (rdO X nx 1).isSome = true) : takN X many wide = ([], 2) := by unfold takN; rw [if_neg h, hs]; simp [hm]
theorem takN_some {X l : List Int} {many wide nx : Int} (h : ¬ (many < 0 ∨ ¬ (wide = 2 ∨ wide = 4))) (hs : sq X wide.toNat many.toNat 0 = some (l, nx)) (hm : rdO X nx 1 = none) : takN X many wide = (l, 0) := by unfold takN; rw [if_neg h, hs]; simp [hm]
/-- All that a row has, if it is just so many bytes. -/
def whO (X : List Int) (n : Nat) : Option (List Int) := (rdO X 0 n).bind fun q => if (rdO X q.2 1).isSome = true then none else some q.1
/-- What whole answers. -/
def WhO (X : List Int) (n : Nat) (w' : World) (r : Ending) : Prop :=
  (whO X n = none ∧ ∃ ao m c, r = .returned (.tuple #[.slice ao m c, .bool false])) ∨
  ∃ z ao c, whO X n = some z ∧ z.length = n ∧ r = .returned (.tuple #[.slice ao n c, .bool true]) ∧ Bs w' ao n z ∧ n ≤ c ∧ (ao = none → c = 0)
theorem rdO_short {X : List Int} (hX : Bytes X) (hl : X.length ≤ 5000) {n : Nat} (hn : 700000 < n) (ref : Int) : rdO X ref n = none := by
  cases h : rdO X ref n with
  | none => rfl
  | some q =>
    obtain ⟨z, nx⟩ := q
    obtain ⟨a1, a2, a3, a4, a5⟩ := rdO_some hX h
    rcases a5 with a5 | a5
    · omega
    · have : 0 ≤ far ref := by unfold far; omega
      omega
end Tab
set_option maxRecDepth 100000 in
set_option maxHeartbeats 1000000 in
theorem tWhole_any {w wX : World} {p tb N : Nat} {O0 O : Nat → Prop} {X : List Int} (h : RM w p tb O0 X N O wX) (many wide : Nat) (hby : Bytes X) (hX : X.length ≤ 5000) (hN : N ≤ 800000000) (hm : many ≤ 9223372036854775807) (hw : wide = 2 ∨ wide = 4) :
    Calls Try.prog 43 #[.pointer (some ⟨p, 0, none⟩), .int .i64 many, .int .i64 wide] wX fun r w' => ∃ O', RM w p tb O0 X (N + 1000255) O' w' ∧ WhO X (many * wide) w' r := by
  by_cases hbig : 9223372036854775807 / wide < many
  · have hno : whO X (many * wide) = none := by
      unfold whO
      rw [rdO_short hby hX (by rcases hw with rfl | rfl <;> omega) 0]
      rfl
    have HA : Hid (∃ O', RM w p tb O0 X (N + 1000255) O' wX ∧ WhO X (many * wide) wX (.returned (.tuple #[.slice none 0 0, .bool false]))) := ⟨O, h.mono (by omega), .inl ⟨hno, none, 0, 0, rfl⟩⟩
    clear h hno
    have g1 : (9223372036854775807 : Int) / (wide : Int) < (many : Int) := by rcases hw with rfl | rfl <;> omega
    go_enter Try.func43, Try.ntmps43
    go_wp2_with fail
    go_ret2
    exact HA.out
  · have hle : many * wide ≤ 9223372036854775807 := by rcases hw with rfl | rfl <;> omega
    have g1 : ¬ (9223372036854775807 : Int) / (wide : Int) < (many : Int) := by rcases hw with rfl | rfl <;> omega
    have g2 : wrap64 ((many : Int) * (wide : Int)) = ((many * wide : Nat) : Int) := by
      rw [Int.natCast_mul]
      unfold wrap64
      rcases hw with rfl | rfl <;> omega
    obtain ⟨m, hm'⟩ : ∃ m, many * wide = m := ⟨_, rfl⟩
    rw [hm'] at g2 hle ⊢
    have HR := hide (rm_readFar h 0 m m rfl hby (by constructor <;> omega) hX (by omega) hle)
    clear h hm'
    go_enter Try.func43, Try.ntmps43
    go_wp2_with fail
    refine HR.out.mono ?_
    rintro r w1 ⟨O1, hM1, hF1, hG1, ⟨hn, e, he, rfl⟩ | ⟨z, nx, ao, c, hs, rfl, hB, d1, d2, d3, d4⟩⟩
    · have he' : (e != 0) = true := by simpa using he
      have HA : Hid (∃ O', RM w p tb O0 X (N + 1000255) O' w1 ∧ WhO X m w1 (.returned (.tuple #[.slice none 0 0, .bool false]))) := ⟨O1, hM1.mono (by omega), .inl ⟨by unfold whO; rw [hn]; rfl, none, 0, 0, rfl⟩⟩
      clear hM1 hF1 hG1 HR g2
      go_wp2
      go_ret2
      exact HA.out
    · obtain ⟨a1, a2, a3, a4, a5⟩ := rdO_some hby hs
      have hnx : In64 nx := by
        rcases a5 with a5 | a5
        · rw [a5, rdO_zero X (by omega)] at hs
          simp at hs
          constructor <;> omega
        · constructor <;> omega
      have HE : Hid (whO X m = if (rdO X nx 1).isSome = true then none else some z) := by show _ = _; unfold whO; rw [hs]; rfl
      have HR2 := hide (rm_read hM1 nx 1 1 rfl hby hnx (by omega) (by omega) (by omega))
      have HB := hide hB
      clear hM1 hF1 hG1 HR hs hB g2
      go_wp2_with fail
      refine HR2.out.mono ?_
      rintro r w2 ⟨O2, hM2, hF2, hG2, ⟨hn, e, he, rfl⟩ | ⟨z2, nx2, ao2, c2, hs2, rfl, _⟩⟩
      · have he' : (e != 0) = true := by simpa using he
        have HA : Hid (∃ O', RM w p tb O0 X (N + 1000255) O' w2 ∧ WhO X m w2 (.returned (.tuple #[.slice ao m c, .bool true]))) := ⟨O2, hM2.mono (by omega), .inr ⟨z, ao, c, by rw [HE.out, hn]; rfl, a2, rfl, HB.out.fr hF2 (fun a ha _ => (d4 a ha).2), d1, d3⟩⟩
        clear hM2 hF2 hG2 HR2 HB
        go_wp2
        go_ret2
        exact HA.out
      · have HA : Hid (∃ O', RM w p tb O0 X (N + 1000255) O' w2 ∧ WhO X m w2 (.returned (.tuple #[.slice ao m c, .bool false]))) := ⟨O2, hM2.mono (by omega), .inl ⟨by rw [HE.out, hs2]; rfl, ao, m, c, rfl⟩⟩
        clear hM2 hF2 hG2 HR2 HB
        go_wp2
        go_ret2
        exact HA.out
/-- A new row of ints. -/
theorem make_ints (n : Nat) (hn : n ≤ 1000000) : ∃ M : Array Value, M.size = n ∧ ∀ W : World, (Instr.makeSlice 25 (.int .i64 (n : Int)) (.int .i64 (n : Int))).run Try.prog W = .ok (.slice (some ⟨W.heap.size, 0, none⟩) n n) (W.alloc (.cells M 3)) := by
  obtain ⟨i0, hi, hz0, hz1, hz2⟩ := info_parts infoNum
  refine ⟨madeCells (Value.int .i64 0).cells (((n : Nat) : Int).toNat * i0.size), by rw [size_madeCells, hz1]; simp, fun W => ?_⟩
  have h := run_make (P := Try.prog) W 25 3 i0 (.int .i64 0) Try.underlying25 hi hz0 .i64 .i64 (n : Int) (n : Int) (by omega) (by omega) (by rw [hz2]; omega) (by omega)
  simpa using h
theorem row_made {W : World} {M : Array Value} {n B : Nat} (hM : M.size = n) (hn : n ≤ 1000000) (hB : B ≤ W.heap.size) : (W.alloc (.cells M 3)).ownsRow B 3 1 (.slice (some ⟨W.heap.size, 0, none⟩) n n) n M.toList :=
  ⟨by simp [hM], .inr ⟨W.heap.size, n, M, rfl, hB, heap_alloc_new W _, Nat.le_refl _, by unfold maxLen; omega, by simp [hM], by rw [List.take_of_length_le (by simp [hM])]⟩⟩
namespace Tab
/-- The cursor at pc, and the row of numbers, of which i have come. -/
structure TN (w2 : World) (pc L b n wd : Nat) (z : List Int) (i : Nat) (W : World) : Prop where
  rd : RdP W pc L (z.drop (wd * i), 0)
  row : ∃ xs, W.ownsRow w2.heap.size 3 1 (.slice (some ⟨b, 0, none⟩) n n) n xs ∧ xs.take i = zv ((nums wd n z).take i)
  bel : Below w2.heap.size w2 W
  up : w2.heap.size ≤ pc
  lb : L ≤ b
theorem TN.next {w2 wr w4 : World} {pc b n wd i : Nat} {z : List Int} (h : TN w2 pc b b n wd z i wr) (hi : i < n) (hR : RdP w4 pc b (z.drop (wd * (i + 1)), 0)) (hF : Fr (One pc) wr w4) :
    (∃ u, w4.cell? ⟨b, i, none⟩ = some u) ∧ w4.frozen? ⟨b, i, none⟩ = false ∧ TN w2 pc b b n wd z (i + 1) (w4.setCell ⟨b, i, none⟩ (.int .i64 (g (nums wd n z) i))) := by
  obtain ⟨xs, ho, hx⟩ := h.row
  have hxl : xs.length = n := by have := ho.1; simpa using this
  have hne : b ≠ pc := fun e => by
    obtain ⟨cur, hc⟩ := owns_obj ho (k := b) rfl
    obtain ⟨ao, m, c, hd, _⟩ := h.rd
    rw [e] at hc
    have := (show wr.heap[pc]? = _ from hd).symm.trans hc
    simp at this
  have ho4 : w4.ownsRow w2.heap.size 3 1 (.slice (some ⟨b, 0, none⟩) n n) n xs := owns_fr ho hF (fun k hk e => by
    have hk' : b = k := by simpa [Value.ownBlock] using hk
    exact hne (hk'.trans e))
  have hbw := (ho.lt b rfl).1
  refine ⟨⟨xs[i], by rw [ho4.cellAt i (by omega)]; simp [hxl, hi]⟩, ho4.frozenAt i, ?_, ⟨xs.set i (.int .i64 (g (nums wd n z) i)), (ho4.stored i _).1, ?_⟩, ?_, h.up, h.lb⟩
  · exact hR.above (S := One b) ((Fr.refl (One b) w4).set _ (fun _ => rfl)) (fun k hk => by have : k = b := hk; omega) (fun e => hne (by have : pc = b := e; exact this.symm))
  · have h1 : (xs.set i (.int .i64 (g (nums wd n z) i))).take (i + 1) = xs.take i ++ [.int .i64 (g (nums wd n z) i)] := by
      rw [List.take_succ_eq_append_getElem (by simp; omega), List.take_set_of_le (Nat.le_refl _)]
      simp
    have h2 : (nums wd n z).take (i + 1) = (nums wd n z).take i ++ [g (nums wd n z) i] := by
      rw [List.take_succ_eq_append_getElem (by rw [nums_length]; exact hi), g_get _ _ (by rw [nums_length]; exact hi)]
    rw [h1, h2, hx, zv_append]
    rfl
  · exact (h.bel.trans (hF.one_below h.bel.size h.up)).setCell (by exact hbw) _
theorem num_bytes_at {z : List Int} {wd i n : Nat} (hz : z.length = n * wd) (hi : i < n) (hw : wd = 2 ∨ wd = 4) : numA wd (z.drop (wd * i), 0) = g (nums wd n z) i ∧ numS wd (z.drop (wd * i), 0) = (z.drop (wd * (i + 1)), 0) := by
  have hl : wd ≤ (z.drop (wd * i)).length := by
    rw [List.length_drop, hz]
    have : wd * (i + 1) ≤ n * wd := by rw [Nat.mul_comm]; exact Nat.mul_le_mul_right wd hi
    rw [Nat.mul_add] at this
    omega
  have h1 : (1 : Int) ≤ (wd : Int) ∧ (wd : Int) ≤ 4 := by rcases hw with rfl | rfl <;> omega
  constructor
  · unfold numA
    rw [if_pos h1, nums_at wd n z i hi]
    unfold pa
    rw [Int.toNat_natCast, if_neg (by simp only []; omega)]
  · unfold numS
    rw [if_pos h1]
    unfold ps
    rw [Int.toNat_natCast, if_neg (by simp only []; omega)]
    simp only [List.drop_drop]
    rw [Nat.mul_add, Nat.mul_one]
end Tab
set_option maxRecDepth 100000 in
set_option maxHeartbeats 2000000 in
theorem TakeNums_any (p tb N : Nat) (O : Nat → Prop) (X : List Int) (many wide : Int) (w : World) (h : RdM w p O tb ent X N) (hT : Tb w tb ent) (htb : tb < w.heap.size) (hOt : ¬ O tb) (hby : Bytes X) (hX : X.length ≤ 5000) (hN : N ≤ 600000000) (hm : In64 many) (hw : In64 wide) :
    Calls Try.prog 19 #[.pointer (some ⟨p, 0, none⟩), .int .i64 many, .int .i64 wide] w fun r w' => ∃ O', RM w p tb O X (N + 1000255) O' w' ∧ ∃ ao m c, r = .returned (.tuple #[.slice ao m c, .int .i64 (takN X many wide).2]) ∧ Zs w' ao m (takN X many wide).1 ∧ ∀ x, ao = some x → ¬ O' x.block := by
  have hM0 := RM.start h hT htb hOt
  clear h hT hOt
  by_cases hneg : many < 0
  · rw [takN_arg (.inl hneg)]
    have HA : Hid (∃ O', RM w p tb O X (N + 1000255) O' w ∧ ∃ ao m c, (Ending.returned (.tuple #[.slice none 0 0, .int .i64 1])) = .returned (.tuple #[.slice ao m c, .int .i64 1]) ∧ Zs w ao m [] ∧ ∀ x, ao = some x → ¬ O' x.block) := ⟨O, hM0.mono (by omega), none, 0, 0, rfl, Zs.nil _ _, fun x hx => by cases hx⟩
    clear hM0
    go_enter Try.func19, Try.ntmps19
    go_wp2_with fail
    go_ret2
    exact HA.out
  · by_cases hq : wide = 2 ∨ wide = 4
    · have hok : ¬ (many < 0 ∨ ¬ (wide = 2 ∨ wide = 4)) := by rw [not_or]; exact ⟨hneg, fun h => h hq⟩
      obtain ⟨n, rfl⟩ : ∃ n : Nat, many = n := ⟨many.toNat, by omega⟩
      obtain ⟨wd, rfl⟩ : ∃ n : Nat, wide = n := ⟨wide.toNat, by omega⟩
      have hwd : wd = 2 ∨ wd = 4 := by omega
      have hm2 := hm.2
      have HWh := hide (tWhole_any hM0 n wd hby hX (by omega) (by omega) hwd)
      have HSq := hide (sq_rdO hby wd n 0 (Int.le_refl _))
      have hn0 : ¬ (n : Int) < 0 := by omega
      clear hM0
      go_enter Try.func19, Try.ntmps19
      go_wp2_with fail
      refine (isWide_any (wd : Int) w true (decide_eq_true hq)).mono ?_
      rintro r wx ⟨rfl, hwx⟩
      obtain rfl := hwx.symm
      go_wp2_with fail
      refine HWh.out.mono ?_
      rintro r w2 ⟨O2, hM2, ⟨hno, ao, m, c, rfl⟩ | ⟨z, ao, c, hs, hzl, rfl, hB, hc1, hc2⟩⟩
      · have e : takN X n wd = ([], 2) := by
          unfold whO at hno
          cases h1 : rdO X 0 (n * wd) with
          | none =>
            refine takN_none hok ?_
            rw [Int.toNat_natCast, Int.toNat_natCast, HSq.out, h1]; rfl
          | some q =>
            obtain ⟨zz, nx⟩ := q
            rw [h1] at hno
            simp only [Option.bind_some] at hno
            by_cases h2 : (rdO X nx 1).isSome = true
            · refine takN_more (l := nums wd n zz) (nx := nx) hok ?_ h2
              rw [Int.toNat_natCast, Int.toNat_natCast, HSq.out, h1]; rfl
            · rw [if_neg h2] at hno; cases hno
        have HA : Hid (∃ O', RM w p tb O X (N + 1000255) O' w2 ∧ ∃ ao m c, (Ending.returned (.tuple #[.slice none 0 0, .int .i64 2])) = .returned (.tuple #[.slice ao m c, .int .i64 (takN X n wd).2]) ∧ Zs w2 ao m (takN X n wd).1 ∧ ∀ x, ao = some x → ¬ O' x.block) := by rw [e]; exact ⟨O2, hM2, none, 0, 0, rfl, Zs.nil _ _, fun x hx => by cases hx⟩
        clear hM2 HWh e
        go_wp2_with fail
        go_ret2
        exact HA.out
      · have e : takN X n wd = (nums wd n z, 0) := by
          unfold whO at hs
          cases h1 : rdO X 0 (n * wd) with
          | none => rw [h1] at hs; cases hs
          | some q =>
            obtain ⟨zz, nx⟩ := q
            rw [h1] at hs
            simp only [Option.bind_some] at hs
            by_cases h2 : (rdO X nx 1).isSome = true
            · rw [if_pos h2] at hs; cases hs
            · rw [if_neg h2] at hs
              cases hs
              refine takN_some (nx := nx) hok ?_ (by simpa using h2)
              rw [Int.toNat_natCast, Int.toNat_natCast, HSq.out, h1]; rfl
        have HEq := hide e
        have hzb : n * wd ≤ 700000 := by
          by_cases hb : n * wd ≤ 700000
          · exact hb
          · unfold whO at hs
            rw [rdO_short hby hX (by omega) 0] at hs
            cases hs
        have hnb : n ≤ 700000 := by rcases hwd with rfl | rfl <;> omega
        obtain ⟨M, hMs, hMk⟩ := make_ints n (by omega)
        have HC := hide (Read_any (n * wd) c ao z w2 hB hc1 hc2 (by omega))
        have HM2 := hide hM2
        have HZl := hide hzl
        clear hM2 hB hs e HWh
        go_wp2_with fail
        refine HC.out.mono ?_
        rintro r w3 ⟨pc, rfl, hpc, hRd, hb3⟩
        have HN0 : Hid (TN w2 pc w3.heap.size w3.heap.size n wd z 0 (w3.alloc (.cells M 3))) :=
          ⟨hRd.below (below_one _ _), ⟨M.toList, row_made hMs (by omega) hb3.size, by simp [zv]⟩, hb3.alloc hb3.size _, hpc, Nat.le_refl _⟩
        have hmk3 := hMk w3
        clear hRd hb3 HC hMk
        go_wp2_with fail
        generalize w3.heap.size = b at *
        clear hmk3
        go_loopw [35] (fun s35 wr => ∃ i : Nat, s35 = .int .i64 i ∧ i ≤ n ∧ TN w2 pc b b n wd z i wr) (fun s35 _ => n - (intOf s35).toNat)
        case atStart => exact ⟨0, rfl, Nat.zero_le _, HN0.out⟩
        case round =>
          clear HN0
          obtain ⟨i, rfl, hi, hTN⟩ := hrel
          by_cases hp : i < n
          · have hd : (i : Int) < (n : Int) := by omega
            obtain ⟨k1, k2⟩ := num_bytes_at (z := z) (wd := wd) (i := i) (n := n) HZl.out hp hwd
            have HNm := hide (Num_any pc b (wd : Int) _ wr hTN.rd hw)
            rw [k1, k2] at HNm
            have HTN := hide hTN
            clear hTN k1 k2
            go_wp2_with fail
            refine HNm.out.mono ?_
            rintro r w4 ⟨rfl, hR4, hF4⟩
            obtain ⟨⟨u, c0⟩, f0, hT2⟩ := HTN.out.next hp hR4 hF4
            have HT2 := hide hT2
            clear hT2 hR4 hF4 HNm HTN
            go_wp2_with fail
            exact ⟨⟨i + 1, by go_num, by omega, HT2.out⟩, by simp [intOf]; omega⟩
          · obtain rfl : i = n := by omega
            obtain ⟨xs, ho, hx⟩ := hTN.row
            have hxe : xs = zv (nums wd i z) := by
              have h1 : xs.length = i := by have := ho.1; simpa using this
              rw [List.take_of_length_le (by omega), List.take_of_length_le (by rw [nums_length]; omega)] at hx
              exact hx
            rw [hxe] at ho
            have HA : Hid (∃ O', RM w p tb O X (N + 1000255) O' wr ∧ ∃ ao m c, (Ending.returned (.tuple #[.slice (some ⟨b, 0, none⟩) i i, .int .i64 0])) = .returned (.tuple #[.slice ao m c, .int .i64 (takN X i wd).2]) ∧ Zs wr ao m (takN X i wd).1 ∧ ∀ x, ao = some x → ¬ O' x.block) := by
              rw [HEq.out]
              exact ⟨O2, HM2.out.below hTN.bel, _, _, _, rfl, Zs.of ho, fun x hx ho2 => by
                cases hx
                have h1 := HM2.out.rdm.olt _ ho2
                have h2 := (ho.lt b rfl).1
                simp only at h1
                omega⟩
            clear hTN ho hx hxe
            go_wp2_with fail
            go_ret2
            exact HA.out
    · have e := takN_arg (X := X) (many := many) (wide := wide) (.inr hq)
      have HA : Hid (∃ O', RM w p tb O X (N + 1000255) O' w ∧ ∃ ao m c, (Ending.returned (.tuple #[.slice none 0 0, .int .i64 1])) = .returned (.tuple #[.slice ao m c, .int .i64 (takN X many wide).2]) ∧ Zs w ao m (takN X many wide).1 ∧ ∀ x, ao = some x → ¬ O' x.block) := by rw [e]; exact ⟨O, hM0.mono (by omega), none, 0, 0, rfl, Zs.nil _ _, fun x hx => by cases hx⟩
      clear hM0 e
      go_enter Try.func19, Try.ntmps19
      go_wp2_with fail
      refine (isWide_any wide w false (decide_eq_false hq)).mono ?_
      rintro r wx ⟨rfl, hwx⟩
      obtain rfl := hwx.symm
      go_wp2_with fail
      go_ret2
      exact HA.out
end Go.Proofs.Ytgkclldiphcogaa

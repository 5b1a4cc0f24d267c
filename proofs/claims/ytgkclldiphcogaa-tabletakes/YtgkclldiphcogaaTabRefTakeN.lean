/- Layer 11: TakeNums, by the document's answer. -/
import Derived.Test.YtgkclldiphcogaaTabTakeN
import Derived.Test.YtgkclldiphcogaaTabRefTakeX
import Derived.Test.YtgkclldiphcogaaCurRef
namespace Go.Proofs.Ytgkclldiphcogaa
set_option linter.unusedVariables false
open Go.RowKit Go.Maps
open Lz (g)
open Crc (ent)
open Frm Mtr Tab
open Cur

theorem RdR.fresh {w : World} {ao : Option Addr} {n c : Nat} {z : List Int} (h : Bs w ao n z) (hc : n ≤ c) (hm : c ≤ 9223372036854775807) (hnil : ao = none → c = 0) (hn : n ≤ 1000000) :
    RdR (w.alloc (.cells #[.slice ao n c, .int .i64 0] 101)) w.heap.size w.heap.size (z, 0) := by
  refine ⟨ao, n, c, z, heap_new rfl, ⟨h.1, h.2.1, ?_⟩, hc, hm, hn, hnil, by simp, fun _ => rfl, .inl rfl⟩
  rcases h.2.2 with h0 | ⟨b, off, h1, h2, h3⟩
  · exact .inl h0
  · exact .inr ⟨b, off, h1, h2, fun i hi => ((below_one w _).cell (p := ⟨b, off + i, none⟩) h2).trans (h3 i hi)⟩
theorem numA_whole {z : List Int} {wd : Nat} (h : z.length = wd) (hw : wd = 2 ∨ wd = 4) : numA wd (z, 0) = le z := by
  unfold numA
  rw [if_pos (by rcases hw with rfl | rfl <;> omega)]
  unfold pa
  rw [Int.toNat_natCast, if_neg (by simp only []; omega), List.take_of_length_le (by simp only []; omega)]
theorem sq_none {X : List Int} {wd k : Nat} {at' : Int} (hk : 0 < k) (h : rdO X at' wd = none) : sq X wd k at' = none := by
  obtain ⟨k, rfl⟩ : ∃ j, k = j + 1 := ⟨k - 1, by omega⟩
  rw [sq, h]; rfl
theorem sq_step {X z : List Int} {wd k : Nat} {at' nx : Int} (h : rdO X at' wd = some (z, nx)) : sq X wd (k + 1) at' = (sq X wd k nx).map fun r => (le z :: r.1, r.2) := by
  rw [sq, h]; rfl
set_option maxRecDepth 100000 in
set_option maxHeartbeats 2000000 in
theorem refTakeNums_any (y n0 c0 : Nat) (X : List Int) (ao0 : Option Addr) (many wide : Int) (w : World) (h : RdY w y X 0 n0 ao0 n0 c0) (hby : Bytes X) (hX : X.length ≤ 5000) (hm : In64 many) (hw : In64 wide) :
    Calls Try.prog 20 #[.pointer (some ⟨y, 0, none⟩), .int .i64 many, .int .i64 wide] w fun r w' => Below w.heap.size w w' ∧ ∃ ao m c, r = .returned (.tuple #[.slice ao m c, .int .i64 (takN X many wide).2]) ∧ Zs w' ao m (takN X many wide).1 ∧ ∀ x, ao = some x → w.heap.size ≤ x.block := by
  by_cases hneg : many < 0
  · have HA : Hid (Below w.heap.size w w ∧ ∃ ao m c, (Ending.returned (.tuple #[.slice none 0 0, .int .i64 1])) = .returned (.tuple #[.slice ao m c, .int .i64 (takN X many wide).2]) ∧ Zs w ao m (takN X many wide).1 ∧ ∀ x, ao = some x → w.heap.size ≤ x.block) := by rw [takN_arg (.inl hneg)]; exact ⟨Below.refl _ _, none, 0, 0, rfl, Zs.nil _ _, fun x hx => by cases hx⟩
    clear h
    go_enter Try.func20, Try.ntmps20
    go_wp2_with fail
    go_ret2
    exact HA.out
  · by_cases hq : wide = 2 ∨ wide = 4
    · have hok : ¬ (many < 0 ∨ ¬ (wide = 2 ∨ wide = 4)) := by rw [not_or]; exact ⟨hneg, fun h => h hq⟩
      obtain ⟨n, rfl⟩ : ∃ n : Nat, many = n := ⟨many.toNat, by omega⟩
      obtain ⟨wd, rfl⟩ : ∃ n : Nat, wide = n := ⟨wide.toNat, by omega⟩
      have hwd : wd = 2 ∨ wd = 4 := by omega
      have hm2 := hm.2
      have hn0 : ¬ (n : Int) < 0 := by omega
      have HR := hide (yReadO_any y n0 c0 X ao0 0 0 0 rfl w h (by constructor <;> omega) (by omega))
      have HY := hide h
      have HT : Hid (∀ A, takN X n wd = A → ∀ w' ao m c, Below w.heap.size w w' → Zs w' ao m A.1 → (∀ x, ao = some x → w.heap.size ≤ x.block) → Below w.heap.size w w' ∧ ∃ ao2 m2 c2, (Ending.returned (.tuple #[.slice ao m c, .int .i64 A.2])) = .returned (.tuple #[.slice ao2 m2 c2, .int .i64 (takN X n wd).2]) ∧ Zs w' ao2 m2 (takN X n wd).1 ∧ ∀ x, ao2 = some x → w.heap.size ≤ x.block) := fun A hA w' ao m c hb hz hx => by rw [hA]; exact ⟨hb, ao, m, c, rfl, hz, hx⟩
      have HOk := hide hok
      clear h hok
      have hg : ((wd : Int) != 2) = false ∨ (((wd : Int) != 2) = true ∧ ((wd : Int) != 4) = false) := by
        rcases hwd with h | h
        · left; simp [h]
        · right; simp [h]
      have HD : Hid (((wd : Int) != 2) = false ∨ (((wd : Int) != 2) = true ∧ ((wd : Int) != 4) = false)) := hg
      rcases hg with g1 | ⟨g1, g2⟩
      all_goals
        go_enter Try.func20, Try.ntmps20
        go_wp2_with fail
        refine HR.out.mono ?_
        rintro r w1 ⟨b1, ⟨hn, e, he, rfl⟩ | ⟨z, nx, ao, c, hs, rfl, hB, _⟩⟩
        · rw [rdO_zero X (by omega)] at hn; cases hn
        · have HB1 := hide b1
          have HY1 := hide (HY.out.below b1)
          have HRow : Hid ((w1.alloc (.cells #[] 3)).ownsRow w.heap.size 3 1 (.slice (some ⟨w1.heap.size, 0, none⟩) 0 0) 0 (zv [])) := emptyR b1.size
          have HBe : Hid (Below w.heap.size w (w1.alloc (.cells #[] 3))) := b1.trans ((below_one _ _).mono b1.size)
          clear b1 hs hB HR
          go_wp2_with fail
          go_loopw [11, 12, 13] (fun s11 s12 s13 wr => ∃ (i : Nat) (at' : Int) (b c : Nat) (R : List Int), s11 = .int .i64 at' ∧ s12 = .slice (some ⟨b, 0, none⟩) i c ∧ s13 = .int .i64 i ∧ i ≤ n ∧ In64 at' ∧ 0 ≤ at' ∧ R.length = i ∧ wr.ownsRow w.heap.size 3 1 (.slice (some ⟨b, 0, none⟩) i c) i (zv R) ∧ Below w.heap.size w wr ∧ 2 * (i : Int) ≤ far at' ∧ (i = 0 ∨ far at' ≤ 128 * X.length + 128) ∧ Hid (sq X wd n 0 = (sq X wd (n - i) at').map fun q => (R ++ q.1, q.2))) (fun _ _ s13 _ => n - (intOf s13).toNat)
          case atStart => exact ⟨0, 0, _, 0, [], rfl, rfl, rfl, Nat.zero_le _, by constructor <;> omega, Int.le_refl _, rfl, HRow.out, HBe.out, by unfold far; omega, .inl rfl, by show _ = _; simp⟩
          case round =>
            clear HRow HBe
            obtain ⟨i, at', b, c, R, rfl, rfl, rfl, hi, hat, ha0, hRl, hrow, hbel, hf1, hf2, HI⟩ := hrel
            have HRw := hide hrow
            have HBl := hide hbel
            by_cases hp : i < n
            · have hd : (i : Int) < (n : Int) := by omega
              have HRd := hide (yReadO_any y n0 c0 X ao0 at' wd wd rfl wr (HY.out.below hbel) hat (by omega))
              clear hrow hbel
              go_wp2_with fail
              refine HRd.out.mono ?_
              rintro r w2 ⟨b2, ⟨hn, e, he, rfl⟩ | ⟨z, nx, ao, c2, hs, rfl, hB, d1, d2, d3, _⟩⟩
              · have he' : (e != 0) = true := by simpa using he
                have HA := hide (HT.out ([], 2) (takN_none HOk.out (by rw [Int.toNat_natCast, Int.toNat_natCast, HI.out, sq_none (by omega) hn]; rfl)) w2 none 0 0 (HBl.out.trans (b2.mono HBl.out.size)) (Zs.nil _ _) (fun x hx => by cases hx))
                clear b2 HRd
                go_wp2_with fail
                go_ret2
                exact HA.out
              · obtain ⟨a1, a2, a3, a4, a5⟩ := rdO_some hby hs
                have hnx : In64 nx ∧ far at' + wd ≤ far nx ∧ far nx ≤ 128 * X.length + 128 := by
                  rcases a5 with a5 | a5
                  · rcases hwd with h | h <;> omega
                  · exact ⟨by constructor <;> omega, a5.1, a5.2.1⟩
                have hib : i ≤ 400000 := by
                  have := hnx.2
                  omega
                obtain ⟨w3, hw3⟩ : ∃ w3, w3 = w2.alloc (.cells #[.slice ao wd c2, .int .i64 0] 101) := ⟨_, rfl⟩
                have b3 : Below w2.heap.size w2 w3 := by rw [hw3]; exact below_one _ _
                have hRR : RdR w3 w2.heap.size w2.heap.size (z, 0) := by rw [hw3]; exact RdR.fresh hB d1 d2 d3 (by omega)
                have HNm := hide (refNum_any w2.heap.size w2.heap.size (wd : Int) (z, 0) w3 hRR hw)
                rw [numA_whole a2 hwd] at HNm
                have HB3 := hide (HBl.out.trans ((b2.trans (b3.mono b2.size)).mono HBl.out.size))
                have HRw3 := hide (owns_fr (owns_fr HRw.out (Fr.of_below (S := fun _ => False) b2) (fun _ _ h => h)) (Fr.of_below (S := fun _ => False) b3) (fun _ _ h => h))
                have hlt : ∀ k, (Value.slice (some ⟨b, 0, none⟩) i c).ownBlock = some k → k < w2.heap.size := fun k hk => Nat.lt_of_lt_of_le (HRw.out.lt k hk).2 b2.size
                have HW3 := hide hw3
                have hw2s : w.heap.size ≤ w2.heap.size := Nat.le_trans HBl.out.size b2.size
                have HSt : Hid (sq X wd (n - i) at' = (sq X wd (n - (i + 1)) nx).map fun r => (le z :: r.1, r.2)) := by
                  show _ = _
                  rw [show n - i = (n - (i + 1)) + 1 by omega]
                  exact sq_step hs
                clear b2 HRd hs hB hw3 b3 hRR
                go_wp2_with fail
                rw [← HW3.out]
                refine HNm.out.mono ?_
                rintro r w4 ⟨rfl, _, hF4⟩
                have hrow4 := owns_fr HRw3.out hF4 (fun k hk e => by have h1 := hlt k hk; have : k = w2.heap.size := e; omega)
                have hb4 := HB3.out.trans (hF4.one_below HB3.out.size hw2s)
                have ho := hrow4.alloc (.cells #[.int .i64 (le z)] 3)
                have hx0 : (w4.alloc (.cells #[.int .i64 (le z)] 3)).cell? ⟨w4.heap.size, 0, none⟩ = some (.int .i64 (le z)) := by simp
                have hbs := hb4.size
                have HB4 := hide hb4
                clear hF4 HNm HW3 hrow4 hb4
                go_wp2_with (at_builtin; refine wpList_append_num _ rfl _ _ rfl w.heap.size _ i c R rfl ho w4.heap.size (le z) rfl hx0 (by omega) (by simp; omega) ?_; intro b5 c5 w5 ho5 hg5; have HB5 : Hid (Below w.heap.size w w5) := HB4.out.trans (((Below.refl _ w4).alloc hbs _).grown hg5 (by simp; omega) (fun kk e => (ho.lt kk e).1)); have HO5 := hide ho5; clear ho5 hg5)
                have HN : Hid (sq X wd n 0 = (sq X wd (n - (i + 1)) nx).map fun q => ((R ++ [le z]) ++ q.1, q.2)) := by
                  show _ = _
                  rw [HI.out, HSt.out, Option.map_map]
                  congr 1
                  funext q
                  simp
                go_roundw
                case rel => exact ⟨i + 1, nx, b5, c5, R ++ [le z], rfl, rfl, by go_num, by omega, hnx.1, a3, by simp; omega, HO5.out, HB5.out, by have := hnx.2.1; rcases hwd with h | h <;> omega, .inr hnx.2.2, HN⟩
                case measure => simp [intOf]; omega
            · obtain rfl : i = n := by omega
              have HRd := hide (yReadO_any y n0 c0 X ao0 at' 1 1 rfl wr (HY.out.below hbel) hat (by omega))
              have HSq : Hid (sq X wd i 0 = some (R, at')) := by show _ = _; rw [HI.out, Nat.sub_self, sq]; simp
              clear hrow hbel
              go_wp2_with fail
              refine HRd.out.mono ?_
              rintro r w2 ⟨b2, ⟨hn, e, he, rfl⟩ | ⟨z, nx, ao, c2, hs, rfl, hB, _⟩⟩
              · have he' : (e == 0) = false := by simpa using he
                have HA := hide (HT.out (R, 0) (takN_some HOk.out (by rw [Int.toNat_natCast, Int.toNat_natCast]; exact HSq.out) hn) w2 (some ⟨b, 0, none⟩) i c (HBl.out.trans (b2.mono HBl.out.size)) ((Zs.of HRw.out).below b2) (fun x hx => by cases hx; exact (HRw.out.lt b rfl).1))
                clear b2 HRd
                go_wp2_with fail
                go_ret2
                exact HA.out
              · have HA := hide (HT.out ([], 2) (takN_more HOk.out (by rw [Int.toNat_natCast, Int.toNat_natCast]; exact HSq.out) (by rw [hs]; rfl)) w2 none 0 0 (HBl.out.trans (b2.mono HBl.out.size)) (Zs.nil _ _) (fun x hx => by cases hx))
                clear b2 HRd hs hB
                go_wp2_with fail
                go_ret2
                exact HA.out
    · have HA : Hid (Below w.heap.size w w ∧ ∃ ao m c, (Ending.returned (.tuple #[.slice none 0 0, .int .i64 1])) = .returned (.tuple #[.slice ao m c, .int .i64 (takN X many wide).2]) ∧ Zs w ao m (takN X many wide).1 ∧ ∀ x, ao = some x → w.heap.size ≤ x.block) := by rw [takN_arg (.inr hq)]; exact ⟨Below.refl _ _, none, 0, 0, rfl, Zs.nil _ _, fun x hx => by cases hx⟩
      have e1 : (wide != 2) = true := by simp; intro h; exact hq (.inl h)
      have e2 : (wide != 4) = true := by simp; intro h; exact hq (.inr h)
      clear h
      go_enter Try.func20, Try.ntmps20
      go_wp2_with fail
      go_ret2
      obtain ⟨q1, ao, m, c, q2, q3, q4⟩ := HA.out
      exact ⟨q1, ao, m, ⟨c, q2⟩, q3, q4⟩
end Go.Proofs.Ytgkclldiphcogaa

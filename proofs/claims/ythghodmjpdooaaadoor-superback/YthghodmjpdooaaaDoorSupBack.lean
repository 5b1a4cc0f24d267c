/- Layer 8: SuperBack: a superblock that was written is read as it was, of an image of its size alone. -/
import Derived.Test.YthghodmjpdooaaaDoorSupTakes
import Derived.Test.YthghodmjpdooaaaDoorSupPuts
import Derived.ArgAppend
import Derived.Deep.Upon
namespace Go.Proofs.YthghodmjpdooaaaDoor
set_option linter.unusedVariables false
open Go.RowKit Go.Maps
open Lz (g)
open Crc (ent more)
open Cur
open Sup

/-- A row of bytes that is full, or of the call's own: what the loop appends to. -/
def Rx (w : World) (B : Nat) (ao : Option Addr) (n c : Nat) (zs : List Int) : Prop :=
  (∃ bb t, ao = some ⟨bb, 0, none⟩ ∧ n = 64 ∧ c = 64 ∧ B ≤ bb ∧ Bytes zs ∧ zs.length = 64 ∧ w.heap[bb]? = some (.cells (bl zs) t (0, 0))) ∨ (w.ownsRow B 5 1 (.slice ao n c) n (bv zs) ∧ Bytes zs)
theorem Rx.bs {w : World} {B n c : Nat} {ao : Option Addr} {zs : List Int} (h : Rx w B ao n c zs) : Bs w ao n zs := by
  rcases h with ⟨bb, t, rfl, rfl, rfl, h1, h2, h3, h4⟩ | ⟨h1, h2⟩
  · exact bs_block h4 h2 64 h3
  · exact bs_of_owns h1 h2
theorem Rx.nil {w : World} {B n c : Nat} {ao : Option Addr} {zs : List Int} (h : Rx w B ao n c zs) : ao = none → c = 0 := by
  rcases h with ⟨bb, t, rfl, rfl, rfl, h1, h2, h3, h4⟩ | ⟨h1, h2⟩
  · intro h; simp at h
  · exact nil_cap h1
theorem Rx.cap {w : World} {B n c : Nat} {ao : Option Addr} {zs : List Int} (h : Rx w B ao n c zs) : n ≤ c := by
  rcases h with ⟨bb, t, rfl, rfl, rfl, h1, h2, h3, h4⟩ | ⟨h1, h2⟩
  · omega
  · exact cap_of_owns h1
theorem Rx.below {w w' : World} {B n c : Nat} {ao : Option Addr} {zs : List Int} (h : Rx w B ao n c zs) (hb : Below w.heap.size w w') : Rx w' B ao n c zs := by
  rcases h with ⟨bb, t, rfl, rfl, rfl, h1, h2, h3, h4⟩ | ⟨h1, h2⟩
  · exact .inl ⟨bb, t, rfl, rfl, rfl, h1, h2, h3, (hb.block _ (heap_lt h4)).trans h4⟩
  · exact .inr ⟨owns_below h1 hb, h2⟩
/-- One byte is appended to such a row. -/
theorem wpList_append_rx (w : World) {ops : Array Oper} {rest : List Oper} {o : Oper} {a : Act} {Q : Exit → Act → World → Prop} (hgd : o.guard = none) (s x : Operand)
    (ho : o.op = .call { callee := .builtin .append, args := #[s, x], argTypes := #[29, 29] })
    (B : Nat) (vo : Option Addr) (n vc : Nat) (xs : List Int) (hs : a.eval s = .slice vo n vc) (hR : Rx w B vo n vc xs)
    (ao : Option Addr) (y : Int) (hx : a.eval x = .slice ao 1 1) (hb : Bs w ao 1 [y]) (hnil : ao = none → 1 = 0)
    (hbd : n + 1 ≤ 100000000) (hB : B ≤ w.heap.size)
    (h : ∀ ao' c' w', Rx w' B ao' (n + 1) c' (xs ++ [y]) → Below B w w' → wpList Tryd.prog ops Q rest (a.put o.dst (.slice ao' (n + 1) c')) w') :
    wpList Tryd.prog ops Q (o :: rest) a w := by
  rcases hR with ⟨bb, t, rfl, rfl, rfl, h1, h2, h3, h4⟩ | ⟨h1, h2⟩
  · obtain ⟨i0, hi, hz0, hz1, hz2⟩ := info_parts infoByte
    obtain ⟨ad, rfl, hnews⟩ := src_of hb (by omega)
    refine wpList_plain hgd fun K hK => ?_
    obtain ⟨v', w', hrun, r1, r2⟩ := run_append_arg_grows (P := Tryd.prog) w 29 o.type 5 i0 (.int .u8 0) 1 1 Tryd.underlying29 hi hz0 hz1 hz2 rfl (by decide) ⟨bb, 0, none⟩ 64 64 (bv xs) (by rw [bv_length]; omega) (fun j u hu => by
      rw [Addr.add_lit, Nat.zero_add, cell_of_row _ _ _ _ _ _ h4, ← hu]; simp [bl]) ad 1 1 (bv [y]) (by rw [bv_length]; rfl) hnews (by omega) (by unfold maxLen; omega) (by omega)
    obtain ⟨ao', c', rfl⟩ := owns_shape r1
    rw [← bv_append] at r1
    have r1' : w'.ownsRow B 5 1 (.slice ao' (64 + 1) c') (64 + 1) (bv (xs ++ [y])) := by
      refine ⟨r1.1, ?_⟩
      rcases r1.2 with h | ⟨g, cap, cur, e, hg, hr⟩
      · exact .inl h
      · exact .inr ⟨g, cap, cur, e, Nat.le_trans hB hg, hr⟩
    have hbel : Below B w w' := ⟨r2.os, r2.tape, r2.output, Nat.le_trans (Nat.le_refl _) r2.size, fun k hk => r2.block k (by omega) (by simp)⟩
    unfold Oper.wp
    simp [execOp, ho, resolve, invoke, builtin, hs, hx, hrun, Result.andThen]
    exact hK _ _ (h ao' c' w' (.inr ⟨r1', h2.append (Bs.bytes hb)⟩) hbel)
  · refine wpList_append_bs w hgd s x ho B vo n vc xs hs h1 ao 1 1 [y] hx hb (fun h => by have := hnil h; omega) hbd hB ?_
    intro ao' c' w' r1 r2
    exact h ao' c' w' (.inr ⟨r1, h2.append (Bs.bytes hb)⟩) (grown_below hB h1 r2)
/-- What stands behind the superblock: as many bytes as are wanted, noughts where there are none. -/
def rr (zs : List Int) (i : Nat) : List Int := (List.range i).map (g zs)
theorem rr_length (zs : List Int) (i : Nat) : (rr zs i).length = i := by simp [rr]
theorem rr_succ (zs : List Int) (i : Nat) : rr zs (i + 1) = rr zs i ++ [g zs i] := by simp [rr, List.range_succ]
theorem rr_bytes {zs : List Int} (h : Bytes zs) (i : Nat) : Bytes (rr zs i) := fun x hx => by
  simp only [rr, List.mem_map] at hx
  obtain ⟨j, _, rfl⟩ := hx
  exact h.g j
theorem g_out {zs : List Int} {i : Nat} (h : zs.length ≤ i) : g zs i = 0 := by simp [g, h]
theorem size_nat {s : Sb} (h : s.ok) : ∃ sz : Nat, s.size = (sz : Int) ∧ 64 ≤ sz := by
  obtain ⟨⟨h1, h2, h3, h4, h5, h6, h7⟩, _⟩ := h
  exact ⟨s.size.toNat, by omega, by omega⟩
theorem not_good_more {s : Sb} (h : s.ok) (r : List Int) (hs : s.size = ((64 + r.length : Nat) : Int)) : ¬ good ent (put ent s ++ r ++ [0]) := by
  rw [List.append_assoc]
  refine not_good_put h _ ?_
  rw [hs]; simp; omega
theorem not_good_less {s : Sb} (h : s.ok) (r : List Int) (hs : s.size = ((64 + r.length : Nat) : Int)) : ¬ good ent ((put ent s ++ r).take (64 + r.length - 1)) := by
  by_cases e : r = []
  · subst e
    intro hg
    have := hg.1
    simp [put_length] at this
  · have hl : 0 < r.length := List.length_pos_iff.2 e
    rw [List.take_append, List.take_of_length_le (by rw [put_length]; omega), put_length]
    refine not_good_put h _ ?_
    rw [hs]; simp; omega
set_option maxRecDepth 100000 in
set_option maxHeartbeats 4000000 in
theorem back_walk (s : Sb) (a1 : Option Addr) (len1 cap1 : Nat) (z1 : List Int) (w : World) (w1' : RowB w a1 len1 cap1 z1) (hW : Wid w) :
    Calls Tryd.prog 5 #[.agg (sv s), .slice a1 len1 cap1] w fun e w' => e = .returned (.bool true) ∧ Below w.heap.size w w' := by
  obtain ⟨hz, hi'⟩ := zero_of_info infoTable
  obtain ⟨hbs, hlc, hcm, hby, hnil⟩ := w1'.bs len1 (Nat.le_refl _)
  have HBS := hide hbs
  have HBy := hide hby
  have HW := hide hW
  clear w1' hbs hby hnil hW
  generalize z1.take len1 = zs at HBS HBy
  obtain ⟨X, hX⟩ : ∃ X, X = sv s := ⟨_, rfl⟩
  have hXs : X.size = 10 := by rw [hX]; rfl
  have hX1 : X.all (·.oneCell') = true := by rw [hX]; exact sv_one _
  have hEq : ∀ w', (Op.equalIn 10000 23 (.agg X) (.agg X)).run Tryd.prog w' = .ok true w' := fun w' => by rw [hX]; exact equal_self s w'
  have hp := fun tb w h1 h2 h3 => Put_any tb ent s w small_ent h1 h2 h3
  rw [← hX] at hp ⊢
  have HP := hide hp
  obtain ⟨w0, hw0⟩ : ∃ w0, w0 = w.alloc (.cells X 23) := ⟨_, rfl⟩
  have hx0 : w0.heap[w.heap.size]? = some (.cells X 23 (0, 0)) := by rw [hw0]; exact heap_new rfl
  have b0 : Below w.heap.size w w0 := by rw [hw0]; exact (Below.refl _ _).alloc (Nat.le_refl _) _
  have hlt0 := heap_lt hx0
  have HX0 : Hid (∀ wX, Below w0.heap.size w0 wX → wX.heap[w.heap.size]? = some (.cells X 23 (0, 0))) := fun wX h => (h.block _ hlt0).trans hx0
  have hc0 : X[0]? = some (.int .i64 s.size) := by rw [hX]; rfl
  have HC0 : Hid (∀ wX, Below w0.heap.size w0 wX → wX.cell? ⟨w.heap.size, 0, none⟩ = some (.int .i64 s.size)) := fun wX h => by rw [cell_of_row _ _ _ _ _ _ (HX0.out wX h), hc0]
  have HW0 := hide hw0
  have HB0 := hide b0
  have HXe := hide hX
  clear hX hw0 hx0 b0 hp hc0
  go_enter Tryd.func5, Tryd.ntmps5
  go_wp2_with fail
  rw [← HW0.out]
  refine (shown_any w0 (HW.out.below HB0.out HW.out.pos)).mono ?_
  rintro r w1 ⟨rfl, b1⟩
  have HB1 := hide b1
  clear b1
  go_wp2_with fail
  refine (New_any w1).mono ?_
  rintro r w2 ⟨rfl, b2⟩
  obtain ⟨C, hC⟩ : ∃ C, C = tab ent := ⟨_, rfl⟩
  rw [← hC]
  have HC := hide hC
  clear hC
  go_wp2_with (first
    | (refine wpList_store_table rfl _ _ rfl ent C HC.out rfl rfl _ (by simp) ?_; intro w3 ht3 hT3 hlt3 hb3; have HB3 : Hid (Below w0.heap.size w0 w3) := (HB1.out.trans (b2.mono HB1.out.size)).trans (hb3.mono (Nat.le_trans HB1.out.size b2.size)); have HT3 := hide hT3; have h3x := HX0.out w3 HB3.out; clear ht3 hT3 hb3 b2 HB1)
    | refine wpList_load_row rfl _ _ rfl w.heap.size rfl 23 X (0, 0) _ h3x Tryd.underlying23 rfl (by rw [hXs]; exact infoSuper) ?_)
  have HB3w : Hid (Below w.heap.size w w3) := HB0.out.trans (HB3.out.mono HB0.out.size)
  refine (HP.out w2.heap.size w3 HT3.out hlt3 (HW.out.below HB3w.out HW.out.pos)).mono ?_
  rintro r w4 ⟨hA, b4⟩
  have HB4 : Hid (Below w3.heap.size w3 w4) := b4
  clear b4 h3x HP
  rcases hA with ⟨hok, bb, rfl, hbb, hcell⟩ | ⟨hn, rfl⟩
  rotate_left
  · have HBf : Hid (Below w.heap.size w w4) := HB3w.out.trans (HB4.out.mono HB3w.out.size)
    clear hn
    go_wp2
    go_ret
    exact ⟨rfl, HBf.out⟩
  obtain ⟨sz, hsz, h64⟩ := size_nat hok
  have HOK := hide hok
  have HSz := hide hsz
  have HR4 : Hid (Rx w4 w3.heap.size (some ⟨bb, 0, none⟩) 64 64 (put ent s ++ rr zs 0)) := .inl ⟨bb, _, rfl, rfl, rfl, hbb, by simpa [rr] using put_bytes ent s, by simp [rr, put_length], by simpa [rr] using hcell⟩
  have HCw : Hid (∀ wX, Below w3.heap.size w3 wX → wX.cell? ⟨w.heap.size, 0, none⟩ = some (.int .i64 sz)) := fun wX h => by
    rw [HC0.out wX (HB3.out.trans (h.mono HB3.out.size)), hsz]
  have c4 := HCw.out w4 HB4.out
  clear hok hcell hsz HC0
  by_cases hbig : 2000 < sz
  · have HBf : Hid (Below w.heap.size w w4) := HB3w.out.trans (HB4.out.mono HB3w.out.size)
    have hbig' : (2000 : Int) < (sz : Int) := by omega
    go_wp2
    go_ret
    exact ⟨rfl, HBf.out⟩
  have hbig' : decide ((2000 : Int) < (sz : Int)) = false := by simp; omega
  go_wp2
  have hs4 := HB4.out.size
  go_loopw [7, 9, 10] (fun s7 s9 _ wr => ∃ (i n c : Nat) (ao : Option Addr), s9 = .int .i64 i ∧ s7 = .slice ao n c ∧ n = 64 + i ∧ n ≤ sz ∧ Rx wr w3.heap.size ao n c (put ent s ++ rr zs i) ∧ Below w3.heap.size w3 wr) (fun s7 _ _ _ => sz - slen s7)
  case atStart => exact ⟨0, 64, 64, _, rfl, rfl, rfl, h64, HR4.out, HB4.out⟩
  case round =>
    clear HR4 c4
    obtain ⟨i, n, c, ao, rfl, rfl, hn, hns, hR, hB⟩ := hrel
    have cr := HCw.out wr hB
    have HRr := hide hR
    have HBr := hide hB
    have hsr := hB.size
    have HN := hide hn
    have hn64 : 64 ≤ n := by omega
    have hi2 : i ≤ 2000 := by omega
    clear hn hR hB
    by_cases hlt : n < sz
    · have hlt' : (n : Int) < sz := by omega
      obtain ⟨y, hy⟩ : ∃ y, y = g zs i := ⟨_, rfl⟩
      have hyb : 0 ≤ y ∧ y ≤ 255 := by rw [hy]; exact HBy.out.g i
      have HY : Hid ([y] = [g zs i]) := by rw [hy]; exact rfl
      have hrx : Rx (wr.alloc (.cells #[.int .u8 y] 5)) w3.heap.size ao n c (put ent s ++ rr zs i) := HRr.out.below ((Below.refl _ _).alloc (Nat.le_refl _) _)
      have hsrc : Bs (wr.alloc (.cells #[.int .u8 y] 5)) (some ⟨wr.heap.size, 0, none⟩) 1 [y] := bs_new wr (0, 0) [y] (fun x hx => by simp at hx; omega)
      by_cases hb : i < len1
      · have hb' : (i : Int) < len1 := by omega
        obtain ⟨b1, o1, rfl, hb1, hc1⟩ : ∃ b off, a1 = some ⟨b, off, none⟩ ∧ b < w.heap.size ∧ Seg w b off zs := by
          rcases HBS.out.2.2 with h | h
          · omega
          · exact h
        have cb : wr.cell? ⟨b1, o1 + i, none⟩ = some (.int .u8 y) := by
          rw [((HB3w.out.trans (HBr.out.mono HB3w.out.size)).cell (p := ⟨b1, o1 + i, none⟩) hb1), hc1 i (by rw [HBS.out.1]; exact hb), hy]
        clear hy hc1
        go_wp2_with (first
          | (at_builtin
             refine wpList_append_rx _ (by rfl) (.tmp 60) (.tmp 62) (by rfl) w3.heap.size ao n c _ (by rfl) hrx (some ⟨wr.heap.size, 0, none⟩) y (by rfl) hsrc (fun h => by simp at h) (by omega) (by simp; omega) ?_
             intro ao' c' w' hR' hb'
             have HR' := hide hR'
             have HB' : Hid (Below w3.heap.size w3 w') := (HBr.out.alloc hsr _).trans hb'
             clear hR' hb'))
        go_roundw
        case rel => exact ⟨i + 1, n + 1, c', ao', by go_num, rfl, by have := HN.out; omega, by omega, by have h := HR'.out; rw [List.append_assoc, HY.out, ← rr_succ] at h; exact h, HB'.out⟩
        case measure => simp [slen]; omega
      · have hb' : decide ((i : Int) < len1) = false := by simp; omega
        have hy0 : y = 0 := by rw [hy]; exact g_out (by rw [HBS.out.1]; omega)
        subst hy0
        clear hy
        go_wp2_with (first
          | (at_builtin
             refine wpList_append_rx _ (by rfl) (.tmp 60) (.tmp 62) (by rfl) w3.heap.size ao n c _ (by rfl) hrx (some ⟨wr.heap.size, 0, none⟩) 0 (by rfl) hsrc (fun h => by simp at h) (by omega) (by simp; omega) ?_
             intro ao' c' w' hR' hb'
             have HR' := hide hR'
             have HB' : Hid (Below w3.heap.size w3 w') := (HBr.out.alloc hsr _).trans hb'
             clear hR' hb'))
        go_roundw
        case rel => exact ⟨i + 1, n + 1, c', ao', by go_num, rfl, by have := HN.out; omega, by omega, by have h := HR'.out; rw [List.append_assoc, HY.out, ← rr_succ] at h; exact h, HB'.out⟩
        case measure => simp [slen]; omega
    · obtain rfl : n = sz := by omega
      have hlt' : decide ((n : Int) < n) = false := by simp
      obtain ⟨Z, hZ⟩ : ∃ Z, Z = put ent s ++ rr zs i := ⟨_, rfl⟩
      have hZl : Z.length = n := by rw [hZ]; simp [put_length, rr_length]; exact HN.out.symm
      have hsn : s.size = ((64 + (rr zs i).length : Nat) : Int) := by rw [rr_length, ← HN.out]; exact HSz.out
      have hg1 : good ent Z := by rw [hZ]; exact good_put HOK.out _ (by rw [hsn]; simp)
      have hs1 : sbOf Z = s := by rw [hZ]; exact sbOf_put HOK.out _
      have hg2 : ¬ good ent (Z ++ [0]) := by rw [hZ]; exact not_good_more HOK.out _ hsn
      have hg3 : ¬ good ent (Z.take (n - 1)) := by
        have := not_good_less HOK.out _ hsn
        rw [rr_length, ← HN.out, ← hZ] at this
        exact this
      have hrz : Rx wr w3.heap.size ao n c Z := by rw [hZ]; exact HRr.out
      have HZ := hide hrz.bs
      have hZb : Bytes Z := Bs.bytes hrz.bs
      have hZn := hrz.nil
      have hZc := hrz.cap
      have HTw : Hid (∀ wX, Below w3.heap.size w3 wX → Tb wX w2.heap.size ent ∧ w2.heap.size < wX.heap.size ∧ Wid wX ∧ Below w.heap.size w wX) := fun wX h => by
        have h2 := HB3w.out.trans (h.mono HB3w.out.size)
        exact ⟨HT3.out.below h hlt3, Nat.lt_of_lt_of_le hlt3 h.size, HW.out.below h2 HW.out.pos, h2⟩
      have HG2 := hide hg2
      have HG3 := hide hg3
      have HG1 := hide hg1
      have HS1 := hide hs1
      clear hZ hrz HRr hg1 hg2 hg3 hs1 hsn HSz HN
      go_wp2_with fail
      obtain ⟨t1, t2, t3, t4⟩ := HTw.out wr HBr.out
      refine (Take_any w2.heap.size n c ent ao Z wr small_ent t1 t2 t3 HZ.out (by omega)).mono ?_
      clear t1 t2 t3 t4
      rintro r w5 ⟨⟨_, rfl⟩ | ⟨hn, _⟩, b5⟩
      rotate_left
      · exact absurd HG1.out hn
      rw [HS1.out, ← HXe.out]
      obtain ⟨w6, hw6⟩ : ∃ w6, w6 = w5.alloc (.cells X 23) := ⟨_, rfl⟩
      have hx6 : w6.heap[w5.heap.size]? = some (.cells X 23 (0, 0)) := by rw [hw6]; exact heap_new rfl
      have b6 : Below wr.heap.size wr w6 := by rw [hw6]; exact b5.alloc b5.size _
      have HB6 : Hid (Below w3.heap.size w3 w6) := HBr.out.trans (b6.mono HBr.out.size)
      have HZ6 := hide (HZ.out.below b6)
      have HW6 := hide hw6
      have HX6 : Hid (∀ wX, Below w6.heap.size w6 wX → wX.heap[w5.heap.size]? = some (.cells X 23 (0, 0))) := fun wX h => (h.block _ (heap_lt hx6)).trans hx6
      have ho := emptyB (w := w6) (Nat.le_refl _)
      have hsrc : Bs (w6.alloc (.cells #[] 5)) ao n Z := HZ6.out.alloc _
      have hk8 : 0 + n ≤ 100000000 := by omega
      clear b5 b6 hw6 hx6 cr
      go_wp2_with (first
        | (refine wpList_store_row rfl _ _ _ rfl w5.heap.size X rfl rfl 23 _ (heap_alloc_new w5 _) (by rw [hXs]; exact infoSuper) (by rw [hXs]; rfl) hX1 ?_; rw [World.setRow_alloc_new, ← HW6.out])
        | (at_builtin
           refine wpList_append_bs _ (by rfl) (.tmp 70) (.tmp 71) (by rfl) w6.heap.size _ 0 0 [] (by rfl) ho ao n c Z (by rfl) hsrc hZn hk8 (by simp) ?_
           intro ao7 c7 w7 ho1 hg1
           have b7 : Below w6.heap.size w6 w7 := ((Below.refl _ w6).alloc (Nat.le_refl _) _).grown hg1 (by simp) (fun kk e => (ho.lt kk e).1)
           have ho7 : w7.ownsRow w6.heap.size 5 1 (.slice ao7 n c7) n (bv Z) := by rw [Nat.zero_add, List.nil_append] at ho1; exact ho1
           have ho7a := ho7.alloc (.cells #[.int .u8 0] 5)
           have hsrc7 : Bs (w7.alloc (.cells #[.int .u8 0] 5)) (some ⟨w7.heap.size, 0, none⟩) 1 [0] := bs_new w7 (0, 0) [0] (fun x hx => by simp at hx; omega)
           have h67 := b7.size
           rw [Nat.zero_add]
           have HB7 := hide b7
           clear ho1 hg1 b7 ho7)
        | (at_builtin
           refine wpList_append_bs _ (by rfl) (.tmp 72) (.tmp 73) (by rfl) w6.heap.size ao7 n c7 Z (by rfl) ho7a (some ⟨w7.heap.size, 0, none⟩) 1 1 [0] (by rfl) hsrc7 (fun h => by simp at h) (by omega) (by simp; omega) ?_
           intro ao8 c8 w8 ho8 hg8
           have b8 : Below w6.heap.size w6 w8 := (HB7.out.alloc h67 _).grown hg8 (by simp; omega) (fun kk e => (ho7a.lt kk e).1)
           have HO8 := hide ho8
           have HB8 := hide b8
           clear ho8 hg8 b8))
      have HB8' : Hid (Below w3.heap.size w3 w8) := HB6.out.trans (HB8.out.mono HB6.out.size)
      obtain ⟨t1, t2, t3, t4⟩ := HTw.out w8 HB8'.out
      refine (Take_any w2.heap.size (n + 1) c8 ent ao8 (Z ++ [0]) w8 small_ent t1 t2 t3 (bs_of_owns HO8.out (hZb.append (fun x hx => by simp at hx; omega))) (by omega)).mono ?_
      clear t1 t2 t3 t4 ho7a hsrc7 ho hsrc
      rintro r w9 ⟨⟨hg, _⟩ | ⟨_, rfl⟩, b9⟩
      · exact absurd hg HG2.out
      obtain ⟨w10, hw10⟩ : ∃ w10, w10 = w9.alloc (.cells zv 23) := ⟨_, rfl⟩
      have b10 : Below w6.heap.size w6 w10 := by rw [hw10]; exact (HB8.out.trans (b9.mono HB8.out.size)).alloc (Nat.le_trans HB8.out.size b9.size) _
      have HB10 := hide b10
      have HB10' : Hid (Below w3.heap.size w3 w10) := HB6.out.trans (b10.mono HB6.out.size)
      have HW10 := hide hw10
      have hn1 : IntKind.i64.wrap ((n : Int) - 1) = ((n - 1 : Nat) : Int) := by rw [IntKind.wrap_i64]; omega
      clear b9 b10 hw10 HB8' HB8 HO8 HB7
      unfold zv at HW10 ⊢
      go_wp2_with fail
      rw [← HW10.out]
      obtain ⟨t1, t2, t3, t4⟩ := HTw.out w10 HB10'.out
      refine (Take_any w2.heap.size (n - 1) c ent ao (Z.take (n - 1)) w10 small_ent t1 t2 t3 ((HZ6.out.below HB10.out).take (n - 1) (by omega)) (by omega)).mono ?_
      clear t1 t2 t3 t4
      rintro r w11 ⟨⟨hg, _⟩ | ⟨_, rfl⟩, b11⟩
      · exact absurd hg HG3.out
      obtain ⟨w12, hw12⟩ : ∃ w12, w12 = w11.alloc (.cells zv 23) := ⟨_, rfl⟩
      have b12 : Below w6.heap.size w6 w12 := by rw [hw12]; exact (HB10.out.trans (b11.mono HB10.out.size)).alloc (Nat.le_trans HB10.out.size b11.size) _
      have h3w : Below w3.heap.size w3 w12 := HB6.out.trans (b12.mono HB6.out.size)
      have HB12 : Hid (Below w.heap.size w w12) := HB3w.out.trans (h3w.mono HB3w.out.size)
      have hx12 := HX6.out w12 b12
      have hy12 := HX0.out w12 (HB3.out.trans (h3w.mono HB3.out.size))
      have HW12 := hide hw12
      clear b11 b12 hw12 h3w
      unfold zv at HW12 ⊢
      go_wp2_with (first
        | (rw [← HW12.out]; refine wpList_load_super (by rfl) _ rfl w5.heap.size rfl 23 X (0, 0) hx12 hXs ?_)
        | refine wpList_load_super (by rfl) _ rfl w.heap.size rfl 23 X (0, 0) hy12 hXs ?_)
      go_ret
      exact ⟨rfl, HB12.out⟩
end Go.Proofs.YthghodmjpdooaaaDoor

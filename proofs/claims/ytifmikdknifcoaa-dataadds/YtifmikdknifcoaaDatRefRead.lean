/- Layer 12: what is read and passed, by the reference: Walk and Read. -/
import Derived.Test.YtifmikdknifcoaaDatWalk
import Derived.Test.YtifmikdknifcoaaFrmRefTake
namespace Go.Proofs.Ytifmikdknifcoaa
set_option linter.unusedVariables false
open Go.RowKit Go.Maps
open Lz (g)
open Crc (ent more)
open Frm Mtr Dat

set_option maxRecDepth 100000 in
theorem refDWalk_any (len cap : Nat) (start size e : Int) (ao : Option Addr) (zs : List Int) (w : World) (hB : Bs w ao len zs) (hc : len ≤ cap) (hnil : ao = none → cap = 0) (hl : len ≤ 100000) (hcm : cap ≤ 9223372036854775807) (ha : In64 start) (hs : In64 size) (he : In64 e) :
    Calls Try.prog 20 #[.slice ao len cap, .int .i64 start, .int .i64 size, .int .i64 e] w fun r w' => DWalks zs start size e r ∧ Below w.heap.size w w' := by
  by_cases h : 0 ≤ size ∧ size ≤ 4096
  · obtain ⟨sz, rfl⟩ : ∃ k : Nat, size = k := ⟨size.toNat, by omega⟩
    obtain ⟨k, hk⟩ : ∃ k : Nat, sz / 128 = k := ⟨_, rfl⟩
    have hq : (sz : Int) / 128 = (k : Int) := by omega
    have h1 : decide ((sz : Int) < 0) = false := by simp
    have h2 : ¬ (4096 : Int) < (sz : Int) := by omega
    have hkb : k ≤ 32 := by omega
    have HW := hide (wk_of zs start e sz (by omega))
    rw [hk] at HW
    have HB := hide hB
    have HN := hide hnil
    have HZ := hide hB.1
    clear hB hnil hk
    go_enter Try.func20, Try.ntmps20
    go_wp2
    go_loopw [10, 11] (fun s1 s13 wr => ∃ (i : Nat) (x : Int), s1 = .int .i64 x ∧ s13 = .int .i64 i ∧ i ≤ k ∧ In64 x ∧ Below w.heap.size w wr ∧ Hid (pas zs e k start = pas zs e (k - i) x)) (fun _ s13 _ => k - (intOf s13).toNat)
    case atStart => exact ⟨0, start, rfl, rfl, Nat.zero_le _, ha, Below.refl _ _, rfl⟩
    case round =>
      obtain ⟨i, x, rfl, rfl, hi, hx, hb, HE⟩ := hrel
      by_cases hp : i < k
      · have hd : (i : Int) < (k : Int) := by omega
        have HS := hide (refSkip_any len cap x ao zs wr (HB.out.below hb) hc HN.out hl hcm hx)
        have hnx := skip_next (z := zs) (at' := x)
        have HE2 : Hid (pas zs e k start = if (skip zs x).2 ≠ 0 ∨ e < (skip zs x).1 then none else pas zs e (k - (i + 1)) (skip zs x).1) := by
          show _ = _
          rw [HE.out, show k - i = (k - (i + 1)) + 1 by omega]; rfl
        have Hb := hide hb
        clear HE hb
        go_wp2_with fail
        refine HS.out.mono ?_
        rintro r w1 ⟨rfl, hb1⟩
        have Hb1 := hide (Hb.out.trans (hb1.mono Hb.out.size))
        clear hb1 HS Hb
        obtain ⟨⟨nx, er⟩, hsk⟩ : ∃ p, skip zs x = p := ⟨_, rfl⟩
        rw [hsk] at hnx HE2 ⊢
        simp only [] at hnx HE2 ⊢
        have hc0 : (er ≠ 0 ∧ nx = 0) ∨ (er = 0 ∧ 0 ≤ nx ∧ nx ≤ (len : Int)) := by
          have := HZ.out
          rcases hnx with hnx | hnx
          · have : nx = 0 ∧ er = 2 := by simpa using hnx
            omega
          · omega
        clear hsk hnx
        rcases hc0 with ⟨h1, h2⟩ | ⟨rfl, h2, h3⟩
        · have h1' : (er != 0) = true := by simpa using h1
          have HA : Hid (DWalks zs start sz e (.returned (.tuple #[.int .i64 0, .int .i64 2]))) := by
            show DWalks _ _ _ _ _
            unfold DWalks
            rw [HW.out, HE2.out, if_pos (.inl h1)]; rfl
          go_wp2
          go_ret2
          exact ⟨HA.out, Hb1.out⟩
        · by_cases h4 : e < nx
          · have HA : Hid (DWalks zs start sz e (.returned (.tuple #[.int .i64 0, .int .i64 2]))) := by
              show DWalks _ _ _ _ _
              unfold DWalks
              rw [HW.out, HE2.out, if_pos (.inr h4)]; rfl
            go_wp2
            go_ret2
            exact ⟨HA.out, Hb1.out⟩
          · have h4' : ¬ e < nx := h4
            have HA : Hid (pas zs e k start = pas zs e (k - (i + 1)) nx) := by
              show _ = _
              rw [HE2.out, if_neg (by omega)]
            go_wp2
            go_roundw
            case rel => exact ⟨i + 1, nx, rfl, by go_num, by omega, ⟨by omega, by omega⟩, Hb1.out, HA⟩
            case measure => simp [intOf]; omega
      · obtain rfl : i = k := by omega
        have HA : Hid (DWalks zs start sz e (.returned (.tuple #[.int .i64 x, .int .i64 0]))) := by
          show DWalks _ _ _ _ _
          unfold DWalks
          rw [HW.out, HE.out, Nat.sub_self]; rfl
        go_wp2
        go_ret2
        exact ⟨HA.out, hb⟩
  · have HW : Hid (DWalks zs start size e (.returned (.tuple #[.int .i64 0, .int .i64 1]))) := by
      show DWalks _ _ _ _ _
      unfold DWalks wk
      rw [if_pos (by omega)]
    clear hB hnil
    go_enter Try.func20, Try.ntmps20
    go_wp2
    all_goals first
      | (go_ret2; exact ⟨HW.out, Below.refl _ _⟩)
      | (exfalso; omega)
/-- What Read answers. -/
def DReads (T : Nat → Nat) (z : List Int) (start size off n : Int) (w w' : World) (r : Ending) : Prop :=
  ∃ ao c, r = .returned (.tuple #[.slice ao (rd T z start size off n).1.length c, .int .i64 (rd T z start size off n).2]) ∧ Fresh w w' ao (rd T z start size off n).1.length c (rd T z start size off n).1
theorem DReads.none {T : Nat → Nat} {z : List Int} {start size off n e : Int} {w w' : World} (h : rd T z start size off n = ([], e)) (hb : Below w.heap.size w w') : DReads T z start size off n w w' (.returned (.tuple #[.slice none 0 0, .int .i64 e])) := by
  refine ⟨Option.none, 0, by rw [h]; simp, ?_⟩
  rw [h]; exact Fresh.none hb
theorem DReads.of {T : Nat → Nat} {z Y : List Int} {start size off n : Int} {w w' : World} {ao : Option Addr} {m c : Nat} (h : rd T z start size off n = (Y, 0)) (hF : Fresh w w' ao m c Y) : DReads T z start size off n w w' (.returned (.tuple #[.slice ao m c, .int .i64 0])) := by
  have hl := hF.bs.1
  refine ⟨ao, c, by rw [h, hl], ?_⟩
  rw [h, hl]; exact hF
theorem fresh_owns {w w' : World} {n c : Nat} {ao : Option Addr} {zs : List Int} (h : w'.ownsRow w.heap.size 5 1 (.slice ao n c) n (bv zs)) (hb : Bytes zs) (hbel : Below w.heap.size w w') : Fresh w w' ao n c zs := (New.of_owns h hb (Nat.le_refl _) hbel).fresh
/-- Where the reference's Read stands. -/
def RSt (z : List Int) (start : Int) (q m t f i : Nat) (x : Int) (xs : List Int) : Prop :=
  (i ≤ q ∧ xs = [] ∧ pas z z.length q start = pas z z.length (q - i) x) ∨
  (q ≤ i ∧ ∃ B, B.length = 128 * (i - q) ∧ Bytes B ∧ xs = ot t f B ∧ i - q ≤ m ∧ (pas z z.length q start).bind (rds ent z m) = (rds ent z (m - (i - q)) x).map (fun y => B ++ y))
theorem RSt.low {z : List Int} {start : Int} {q m t f i : Nat} {x : Int} {xs : List Int} (h : RSt z start q m t f i x xs) (hi : i < q) : xs = [] ∧ pas z z.length q start = pas z z.length (q - i) x := by
  rcases h with h | h
  · exact h.2
  · omega
theorem RSt.high {z : List Int} {start : Int} {q m t f i : Nat} {x : Int} {xs : List Int} (h : RSt z start q m t f i x xs) (hi : q ≤ i) : ∃ B, B.length = 128 * (i - q) ∧ Bytes B ∧ xs = ot t f B ∧ i - q ≤ m ∧ (pas z z.length q start).bind (rds ent z m) = (rds ent z (m - (i - q)) x).map (fun y => B ++ y) := by
  rcases h with ⟨h1, rfl, h3⟩ | h
  · obtain rfl : i = q := by omega
    refine ⟨[], by simp, Bytes.nil, by simp [ot], by omega, ?_⟩
    rw [h3, Nat.sub_self]
    simp [pas]
  · exact h.2
set_option maxRecDepth 100000 in
set_option maxHeartbeats 4000000 in
theorem refDRead_any (len cap : Nat) (start size off n : Int) (ao : Option Addr) (zs : List Int) (w : World) (hB : Bs w ao len zs) (hc : len ≤ cap) (hnil : ao = none → cap = 0) (hl : len ≤ 100000) (hcm : cap ≤ 9223372036854775807) (ha : In64 start) (hs : In64 size) (ho : In64 off) (hn : In64 n) :
    Calls Try.prog 18 #[.slice ao len cap, .int .i64 start, .int .i64 size, .int .i64 off, .int .i64 n] w fun r w' => DReads ent zs start size off n w w' r := by
  by_cases h : size < 0 ∨ 4096 < size ∨ off < 0 ∨ n < 0
  · have HW : Hid (DReads ent zs start size off n w w (.returned (.tuple #[.slice none 0 0, .int .i64 1]))) := DReads.none (rd_arg h) (Below.refl _ _)
    clear hB hnil
    go_enter Try.func18, Try.ntmps18
    go_wp2
    all_goals first
      | (go_ret2; exact HW.out)
      | (exfalso; omega)
  obtain ⟨sz, rfl⟩ : ∃ k : Nat, size = k := ⟨size.toNat, by omega⟩
  obtain ⟨of, rfl⟩ : ∃ k : Nat, off = k := ⟨off.toNat, by omega⟩
  obtain ⟨N, rfl⟩ : ∃ k : Nat, n = k := ⟨n.toNat, by omega⟩
  have h4 : sz ≤ 4096 := by omega
  have g1 : ¬ (4096 : Int) < (sz : Int) := by omega
  have hN : (N : Int) ≤ 9223372036854775807 := hn.2
  have hO : (of : Int) ≤ 9223372036854775807 := ho.2
  clear h hs ho hn
  obtain ⟨K, hK⟩ : ∃ K, sz / 128 = K := ⟨_, rfl⟩
  have hq : (sz : Int) / 128 = (K : Int) := by omega
  have hKb : K ≤ 32 := by omega
  by_cases h2 : 128 * K ≤ of
  · have h2' : (K : Int) * 128 ≤ (of : Int) := by omega
    have HW : Hid (DReads ent zs start sz of N w w (.returned (.tuple #[.slice none 0 0, .int .i64 0]))) := DReads.none (rd_none h4 (.inr (by omega))) (Below.refl _ _)
    clear hB hnil hK
    go_enter Try.func18, Try.ntmps18
    go_wp2
    go_ret2
    exact HW.out
  have h2' : ¬ (K : Int) * 128 ≤ (of : Int) := by omega
  have HB := hide hB
  have HNi := hide hnil
  have HZ := hide hB.1
  have HZB := hide hB.bytes
  obtain ⟨i0, hi, hz0, hz1, hz2⟩ := info_parts infoByte
  by_cases h0 : N = 0
  · subst h0
    have HE := hide (emptyB (w := w) (Nat.le_refl _))
    have HW := hide (DReads.of (T := ent) (z := zs) (start := start) (w := w) (rd_none (size := sz) (off := of) h4 (.inl rfl)) (fresh_owns HE.out Bytes.nil (below_one _ _)))
    have hK0 : (0 : Int) < (K : Int) := by omega
    clear hB hnil hK
    go_enter Try.func18, Try.ntmps18
    go_wp2
    go_loopw [13, 15] (fun s13 s15 wr => s13 = .slice (some ⟨w.heap.size, 0, none⟩) 0 0 ∧ s15 = .int .i64 0 ∧ wr = w.alloc (.cells #[] 5)) (fun _ _ _ => 0)
    case atStart => exact ⟨rfl, rfl, rfl⟩
    case round =>
      obtain ⟨rfl, rfl, rfl⟩ := hrel
      go_wp2
      go_ret2
      exact HW.out
  obtain ⟨q, hqd⟩ : ∃ q, of / 128 = q := ⟨_, rfl⟩
  obtain ⟨f, hf⟩ : ∃ f, of % 128 = f := ⟨_, rfl⟩
  obtain ⟨t, ht⟩ : ∃ t, up sz of N = t := ⟨_, rfl⟩
  obtain ⟨m, hm⟩ : ∃ m, (t + 127) / 128 = m := ⟨_, rfl⟩
  have hofq : of = 128 * q + f := by omega
  have hf2 : f < 128 := by omega
  have htn : t = f + min N (128 * K - of) := by rw [← ht, ← hK, ← hf]; rfl
  have hqK : q < K := by omega
  have HR : Hid (rd ent zs start sz of N = rdO t f ((pas zs zs.length q start).bind (rds ent zs m))) := by
    show _ = _
    rw [rd_of h4 (by omega) (by omega), ht, hf, hqd, hm]
  have HT : Hid (t = f + min N (128 * K - of) ∧ (t + 127) / 128 = m ∧ of = 128 * q + f) := ⟨htn, hm, hofq⟩
  have HE := hide (emptyB (w := w) (Nat.le_refl _))
  clear hB hnil hK ht htn hm hofq hqd hf
  go_enter Try.func18, Try.ntmps18
  go_wp2
  go_loopw [13, 14, 15] (fun s13 s14 s15 wr => ∃ (i M c : Nat) (x : Int) (xs : List Int) (vo : Option Addr), s13 = .slice vo M c ∧ s14 = .int .i64 x ∧ s15 = .int .i64 i ∧ i ≤ K ∧ In64 x ∧ Below w.heap.size w wr ∧ wr.ownsRow w.heap.size 5 1 (.slice vo M c) M (bv xs) ∧ Bytes xs ∧ Hid (RSt zs start q m t f i x xs)) (fun _ _ s15 _ => K - (intOf s15).toNat)
  case atStart => exact ⟨0, 0, 0, start, [], _, rfl, rfl, rfl, Nat.zero_le _, ha, below_one _ _, HE.out, Bytes.nil, .inl ⟨Nat.zero_le _, rfl, rfl⟩⟩
  case round =>
    clear HE
    obtain ⟨i, M, c, x, xs, vo, rfl, rfl, rfl, hi', hx, hb, hown, hby, HSt⟩ := hrel
    have hML : xs.length = M := by have := hown.1; rw [bv_length] at this; omega
    have HO := hide hown
    have HBy := hide hby
    have Hb := hide hb
    have hsz := hb.size
    clear hown hby
    by_cases hlow : i < q
    · obtain ⟨hxs, hp⟩ := HSt.out.low hlow
      subst hxs
      obtain rfl : M = 0 := by rw [← hML]; rfl
      have e1 : (i : Int) < (K : Int) := by omega
      have e2 : (0 : Int) < (N : Int) := by omega
      have e3 : ((i : Int) + 1) * 128 ≤ (of : Int) := by have := HT.out; omega
      have HS := hide (refSkip_any len cap x ao zs wr (HB.out.below hb) hc HNi.out hl hcm hx)
      have hnx := skip_next (z := zs) (at' := x)
      have HE2 : Hid (pas zs zs.length q start = if (skip zs x).2 ≠ 0 ∨ (zs.length : Int) < (skip zs x).1 then none else pas zs zs.length (q - (i + 1)) (skip zs x).1) := by
        show _ = _
        rw [hp, show q - i = (q - (i + 1)) + 1 by omega]; rfl
      clear HSt hp hb hML
      go_wp2_with fail
      refine HS.out.mono ?_
      rintro r w1 ⟨rfl, hb1⟩
      have Hb1 := hide (Hb.out.trans (hb1.mono Hb.out.size))
      have HO1 := hide (owns_below HO.out hb1)
      clear hb1 HS Hb HO
      obtain ⟨⟨nx, er⟩, hsk⟩ : ∃ p, skip zs x = p := ⟨_, rfl⟩
      rw [hsk] at hnx HE2 ⊢
      simp only [] at hnx HE2 ⊢
      have hc0 : (er ≠ 0 ∧ nx = 0) ∨ (er = 0 ∧ 0 ≤ nx ∧ nx ≤ (zs.length : Int)) := by
        rcases hnx with hnx | hnx
        · have : nx = 0 ∧ er = 2 := by simpa using hnx
          omega
        · omega
      clear hsk hnx
      rcases hc0 with ⟨h1, h2⟩ | ⟨rfl, h2, h3⟩
      · have h1' : (er != 0) = true := by simpa using h1
        have HA : Hid (DReads ent zs start sz of N w w1 (.returned (.tuple #[.slice none 0 0, .int .i64 35]))) := by
          refine DReads.none ?_ Hb1.out
          rw [HR.out, HE2.out, if_pos (.inl h1)]; rfl
        go_wp2
        go_ret2
        exact HA.out
      · have HA : Hid (RSt zs start q m t f (i + 1) nx []) := by
          refine .inl ⟨by omega, rfl, ?_⟩
          rw [HE2.out, if_neg (by omega)]
        rw [HZ.out] at h3
        go_wp2
        go_roundw
        case rel => exact ⟨i + 1, 0, c, nx, [], vo, rfl, rfl, by go_num, by omega, ⟨by omega, by omega⟩, Hb1.out, HO1.out, Bytes.nil, HA⟩
        case measure => simp [intOf]; omega
    · obtain ⟨B, hBl, hBB, hxs, hjm, hbind⟩ := HSt.out.high (by omega)
      obtain ⟨j, hj⟩ : ∃ j, i - q = j := ⟨_, rfl⟩
      rw [hj] at hBl hjm hbind
      have hotl := ot_length t f B
      rw [← hxs, hML, hBl] at hotl
      clear HSt
      by_cases hjm' : j < m
      · have hlt : 128 * j < t := by have := HT.out; omega
        have e1 : (i : Int) < (K : Int) := by have := HT.out; omega
        have e2 : (M : Int) < (N : Int) := by have := HT.out; omega
        have e3 : ¬ ((i : Int) + 1) * 128 ≤ (of : Int) := by have := HT.out; omega
        have HS := hide (refTake_any len cap x ao zs wr (HB.out.below hb) hc HNi.out hl hcm hx)
        unfold RTakes at HS
        have hnx := fun h => take_next (T := ent) (z := zs) (at' := x) h
        have HTk : Hid (tkB ent zs x = if (take ent zs x).2.2 ≠ 0 ∨ ((take ent zs x).1.length ≠ 0 ∧ (take ent zs x).1.length ≠ 128) then none else some (if (take ent zs x).1.length = 0 then List.replicate 128 0 else (take ent zs x).1, (take ent zs x).2.1)) := rfl
        generalize take ent zs x = tk at *
        obtain ⟨b, nx, er⟩ := tk
        simp only [] at HS hnx HTk
        obtain ⟨bl, hbl⟩ : ∃ k, b.length = k := ⟨_, rfl⟩
        rw [hbl] at HS HTk
        have HBind := hide hbind
        have HBl := hide hBl
        have HBB := hide hBB
        have HXs := hide hxs
        have HML := hide hML
        have HJ := hide hj
        have HOtl := hide hotl
        clear hbind hBl hBB hxs hML hj hotl hbl hb
        go_wp2_with fail
        refine HS.out.mono ?_
        rintro r w1 ⟨bo, bc, rfl, hBs, hb1, hbc, hbn, hnew⟩
        have Hb1 := hide (Hb.out.trans (hb1.mono Hb.out.size))
        have HO1 := hide (owns_below HO.out hb1)
        have HBs1 := hide hBs
        have HNew := hide hnew
        have hblt := HO.out.lt
        have hwr1 := hb1.size
        clear hb1 hBs hnew HS Hb HO
        have HBad : Hid (tkB ent zs x = none → DReads ent zs start sz of N w w1 (.returned (.tuple #[.slice none 0 0, .int .i64 35]))) := fun h => by
          refine DReads.none ?_ Hb1.out
          rw [HR.out, HBind.out, show m - j = (m - j - 1) + 1 by omega, rds_none h]; rfl
        by_cases her : er = 0
        · subst her
          obtain ⟨t1, t2, t3⟩ := hnx rfl
          rw [HZ.out] at t3
          clear hnx
          by_cases hb0 : bl = 0
          · subst hb0
            have HTk2 : Hid (tkB ent zs x = some (List.replicate 128 0, nx)) := by show _ = _; rw [HTk.out, if_neg (by simp), if_pos rfl]
            clear HTk HBad HBs1 HNew hbn hbc
            go_wp2_with (at_make; refine wpList_make_full _ rfl _ _ 34 rfl w1.heap.size 5 i0 (.int .u8 0) 1 Try.underlying34 hi hz0 hz1 _ _ _ _ 128 (by rfl) (by rfl) rfl rfl (by rw [hz2]; omega) (by unfold maxLen; omega) (Nat.le_refl _) ?_; intro wM oM kM)
            rw [half_zero 128 0, show half 128 0 0 = List.replicate 128 0 from rfl] at oM
            have hbM : Below w1.heap.size w1 wM := (Below.refl _ w1).grown kM (Nat.le_refl _) (fun k e => by simp at e)
            obtain ⟨bb, hbb⟩ : ∃ bb, bb = List.replicate 128 (0 : Int) := ⟨_, rfl⟩
            rw [← hbb] at oM HTk2
            have HbbL : Hid (bb.length = 128) := by show _ = _; rw [hbb]; rfl
            have HbbB : Hid (Bytes bb) := fun y hy => by rw [hbb] at hy; simp at hy; omega
            clear hbb
            obtain ⟨bo2, hbo2⟩ : ∃ bo2, bo2 = some (⟨w1.heap.size, 0, none⟩ : Addr) := ⟨_, rfl⟩
            rw [← hbo2] at oM ⊢
            have HBs2 := hide (bs_of_owns oM HbbB.out)
            have Hbi := hide (Hb1.out.trans (hbM.mono Hb1.out.size))
            have HOi := hide (owns_below HO1.out hbM)
            have HNe : Hid (∀ a, bo2 = some a → (Value.slice vo M c).ownBlock ≠ some a.block) := fun a ha hk => by
              rw [hbo2] at ha; cases ha
              have h1 := (hblt _ hk).2
              have h2 : w1.heap.size < wr.heap.size := h1
              omega
            clear oM kM hbM Hb1 HO1 hblt hbo2
            obtain ⟨W, rfl⟩ : ∃ W, W = wr := ⟨_, rfl⟩
            go_loopw [13, 21] (fun s13 s21 wr => ∃ (k M2 c2 : Nat) (vo2 : Option Addr), s13 = .slice vo2 M2 c2 ∧ s21 = .int .i64 k ∧ k ≤ 128 ∧ 128 * j + k ≤ t ∧ Below w.heap.size w wr ∧ wr.ownsRow w.heap.size 5 1 (.slice vo2 M2 c2) M2 (bv (ot t f (B ++ bb.take k))) ∧ Bs wr bo2 128 bb ∧ (∀ a, bo2 = some a → (Value.slice vo2 M2 c2).ownBlock ≠ some a.block)) (fun _ s21 _ => 128 - (intOf s21).toNat)
            case atStart => exact ⟨0, M, c, vo, rfl, rfl, by omega, by omega, Hbi.out, by rw [List.take_zero, List.append_nil, ← HXs.out]; exact HOi.out, HBs2.out, HNe.out⟩
            case round =>
              clear HOi HBs2 HNe Hbi
              obtain ⟨k, M2, c2, vo2, rfl, rfl, hk, hkt, hb2, ho2, hbs2, hne2⟩ := hrel
              have HM2 : Hid (M2 = 128 * j + k - f) := by
                show _ = _
                have h1 := ho2.1
                rw [bv_length, ot_length, List.length_append, HBl.out, List.length_take, HbbL.out] at h1
                omega
              have hby2 : Bytes (ot t f (B ++ bb.take k)) := ot_bytes (HBB.out.append (HbbB.out.take k))
              have Hb2 := hide hb2
              have HO2 := hide ho2
              have HBs3 := hide hbs2
              have HNe3 := hide hne2
              have hszr := hb2.size
              clear hb2 ho2 hbs2 hne2
              by_cases hgo : k < 128 ∧ M2 < N
              · obtain ⟨hk1, hm1⟩ := hgo
                have e4 : (k : Int) < 128 := by omega
                have e5 : (M2 : Int) < (N : Int) := by omega
                have hlt2 : 128 * j + k < t := by have := HT.out; have := HJ.out; have := HM2.out; omega
                have hsn : bb.take (k + 1) = bb.take k ++ [g bb k] := by
                  have := HbbL.out
                  rw [List.take_succ_eq_append_getElem (by omega), Lz.g_lt _ _ (by omega)]
                have hXl : (B ++ bb.take k).length = 128 * j + k := by rw [List.length_append, HBl.out, List.length_take, HbbL.out]; omega
                by_cases hfl : f ≤ 128 * j + k
                · have e6 : (of : Int) ≤ (i : Int) * 128 + (k : Int) := by have := HT.out; have := HJ.out; omega
                  obtain ⟨b0, o0, rfl, hb0l, hseg⟩ : ∃ b0 o0, bo2 = some ⟨b0, o0, none⟩ ∧ b0 < wr.heap.size ∧ Seg wr b0 o0 bb := by
                    rcases HBs3.out.2.2 with h | h
                    · omega
                    · exact h
                  have hcell := hseg k (by have := HbbL.out; omega)
                  have hgb := HbbB.out.g k
                  have HSn : Hid (ot t f (B ++ bb.take (k + 1)) = ot t f (B ++ bb.take k) ++ [g bb k]) := by
                    show _ = _
                    rw [hsn, ← List.append_assoc, ot_snoc _ (by omega) (by omega)]
                  have HOa := hide (HO2.out.alloc (.cells #[.int .u8 (g bb k)] 5))
                  have HSrc := hide (bs_new wr (0, 0) [g bb k] (fun y hy => by simp at hy; rw [hy]; exact hgb))
                  obtain ⟨gk, hgk⟩ : ∃ y, g bb k = y := ⟨_, rfl⟩
                  rw [hgk] at hcell HSn HOa HSrc hgb
                  clear hseg hsn hgk hXl
                  have hMb : M2 ≤ 100000 := by have := HT.out; have := HM2.out; omega
                  go_wp2_with (first
                    | (at_builtin
                       refine wpList_append_at _ (by rfl) (.tmp 108) (.tmp 113) (by rfl) w.heap.size vo2 M2 c2 (ot t f (B ++ bb.take k)) (by rfl) HOa.out _ 1 1 [gk] (by rfl) HSrc.out (fun h => by simp at h) (by omega) (by simp; omega) ?_
                       intro ao9 c9 w9 ho9 hg9 hl9
                       have HF9 := hide (Fr.of_grown (S := fun k' => (Value.slice vo2 M2 c2).ownBlock = some k') hg9 (fun k' hk' => hk'))
                       have HL9 := hide hl9
                       have HO9 := hide ho9
                       clear ho9 hg9 hl9))
                  go_roundw
                  case rel =>
                    refine ⟨k + 1, M2 + 1, c9, ao9, rfl, by go_num, by omega, by omega, ?_, by rw [HSn.out]; exact HO9.out, ?_, ?_⟩
                    · refine (Hb2.out.alloc hszr _).trans (HF9.out.below w.heap.size (by simp; omega) (fun k' hk' => (HO2.out.lt k' hk').1))
                    · refine (HBs3.out.alloc (.cells #[.int .u8 gk] 5)).fr HF9.out (fun a ha _ hx => HNe3.out a ha hx)
                    · intro a ha hx
                      rcases HL9.out _ hx with h | h
                      · exact HNe3.out a ha h
                      · rw [World.size_alloc] at h
                        cases ha
                        exact absurd hb0l (by show ¬ b0 < _; have : wr.heap.size + 1 ≤ b0 := h; omega)
                  case measure => simp [intOf]; omega
                · have e6 : ¬ (of : Int) ≤ (i : Int) * 128 + (k : Int) := by have := HT.out; have := HJ.out; omega
                  have HSn : Hid (ot t f (B ++ bb.take (k + 1)) = ot t f (B ++ bb.take k)) := by
                    show _ = _
                    rw [ot_low (X := B ++ bb.take k) (by omega), ot_low]
                    rw [List.length_append, HBl.out, List.length_take, HbbL.out]; omega
                  clear hsn hXl
                  go_wp2
                  go_roundw
                  case rel => exact ⟨k + 1, M2, c2, vo2, rfl, by go_num, by omega, by omega, Hb2.out, by rw [HSn.out]; exact HO2.out, HBs3.out, HNe3.out⟩
                  case measure => simp [intOf]; omega
              · have HY : Hid (ot t f (B ++ bb.take k) = ot t f (B ++ bb)) := by
                  show _ = _
                  by_cases hk8 : k = 128
                  · rw [hk8, List.take_of_length_le (by rw [HbbL.out]; omega)]
                  · have hge : t ≤ (B ++ bb.take k).length := by
                      rw [List.length_append, HBl.out, List.length_take, HbbL.out]
                      have := HT.out; have := HJ.out; have := HM2.out; omega
                    have := ot_full (f := f) (bb.drop k) hge
                    rw [List.append_assoc, List.take_append_drop] at this
                    exact this.symm
                have HSt2 : Hid (RSt zs start q m t f (i + 1) nx (ot t f (B ++ bb))) := by
                  have h1 := HJ.out
                  refine .inr ⟨by omega, B ++ bb, ?_, HBB.out.append HbbB.out, rfl, by omega, ?_⟩
                  · rw [List.length_append, HBl.out, HbbL.out]; omega
                  · rw [HBind.out, show m - j = (m - (i + 1 - q)) + 1 by omega, rds_some HTk2.out, Option.map_map]
                    congr 1
                    funext y
                    simp
                have hexit : (¬ k < 128 ∧ decide ((k : Int) < 128) = false) ∨ ((k : Int) < 128 ∧ (N : Int) ≤ (M2 : Int)) := by
                  by_cases h1 : k < 128
                  · exact .inr ⟨by omega, by omega⟩
                  · exact .inl ⟨h1, by simp; omega⟩
                rw [HY.out] at HO2 hby2
                clear hgo
                rcases hexit with ⟨e4, e5⟩ | ⟨e4, e5⟩
                all_goals (
                  go_wp2
                  go_roundw
                  case rel => exact ⟨i + 1, M2, c2, nx, _, vo2, rfl, rfl, by go_num, by omega, ⟨by omega, by omega⟩, Hb2.out, HO2.out, hby2, HSt2⟩
                  case measure => simp [intOf]; omega)
          · by_cases hb8 : bl = 128
            · subst hb8
              have HTk2 : Hid (tkB ent zs x = some (b, nx)) := by show _ = _; rw [HTk.out, if_neg (by simp), if_neg (by simp)]
              have HbbL : Hid (b.length = 128) := HBs1.out.1
              have HbbB : Hid (Bytes b) := HBs1.out.bytes
              have HNe : Hid (∀ a, bo = some a → (Value.slice vo M c).ownBlock ≠ some a.block) := fun a ha hk => by
                have h1 := (hblt _ hk).2
                have h2 := HNew.out a ha
                omega
              obtain ⟨bb, rfl⟩ : ∃ bb, bb = b := ⟨_, rfl⟩
              obtain ⟨bo2, rfl⟩ : ∃ bo2, bo2 = bo := ⟨_, rfl⟩
              have HBs2 := HBs1
              have Hbi := Hb1
              have HOi := HO1
              clear HTk HBad HBs1 HNew hbn hblt Hb1 HO1
              go_wp2
              obtain ⟨W, rfl⟩ : ∃ W, W = wr := ⟨_, rfl⟩
              go_loopw [13, 21] (fun s13 s21 wr => ∃ (k M2 c2 : Nat) (vo2 : Option Addr), s13 = .slice vo2 M2 c2 ∧ s21 = .int .i64 k ∧ k ≤ 128 ∧ 128 * j + k ≤ t ∧ Below w.heap.size w wr ∧ wr.ownsRow w.heap.size 5 1 (.slice vo2 M2 c2) M2 (bv (ot t f (B ++ bb.take k))) ∧ Bs wr bo2 128 bb ∧ (∀ a, bo2 = some a → (Value.slice vo2 M2 c2).ownBlock ≠ some a.block)) (fun _ s21 _ => 128 - (intOf s21).toNat)
              case atStart => exact ⟨0, M, c, vo, rfl, rfl, by omega, by omega, Hbi.out, by rw [List.take_zero, List.append_nil, ← HXs.out]; exact HOi.out, HBs2.out, HNe.out⟩
              case round =>
                clear HOi HBs2 HNe Hbi
                obtain ⟨k, M2, c2, vo2, rfl, rfl, hk, hkt, hb2, ho2, hbs2, hne2⟩ := hrel
                have HM2 : Hid (M2 = 128 * j + k - f) := by
                  show _ = _
                  have h1 := ho2.1
                  rw [bv_length, ot_length, List.length_append, HBl.out, List.length_take, HbbL.out] at h1
                  omega
                have hby2 : Bytes (ot t f (B ++ bb.take k)) := ot_bytes (HBB.out.append (HbbB.out.take k))
                have Hb2 := hide hb2
                have HO2 := hide ho2
                have HBs3 := hide hbs2
                have HNe3 := hide hne2
                have hszr := hb2.size
                clear hb2 ho2 hbs2 hne2
                by_cases hgo : k < 128 ∧ M2 < N
                · obtain ⟨hk1, hm1⟩ := hgo
                  have e4 : (k : Int) < 128 := by omega
                  have e5 : (M2 : Int) < (N : Int) := by omega
                  have hlt2 : 128 * j + k < t := by have := HT.out; have := HJ.out; have := HM2.out; omega
                  have hsn : bb.take (k + 1) = bb.take k ++ [g bb k] := by
                    have := HbbL.out
                    rw [List.take_succ_eq_append_getElem (by omega), Lz.g_lt _ _ (by omega)]
                  have hXl : (B ++ bb.take k).length = 128 * j + k := by rw [List.length_append, HBl.out, List.length_take, HbbL.out]; omega
                  by_cases hfl : f ≤ 128 * j + k
                  · have e6 : (of : Int) ≤ (i : Int) * 128 + (k : Int) := by have := HT.out; have := HJ.out; omega
                    obtain ⟨b0, o0, rfl, hb0l, hseg⟩ : ∃ b0 o0, bo2 = some ⟨b0, o0, none⟩ ∧ b0 < wr.heap.size ∧ Seg wr b0 o0 bb := by
                      rcases HBs3.out.2.2 with h | h
                      · omega
                      · exact h
                    have hcell := hseg k (by have := HbbL.out; omega)
                    have hgb := HbbB.out.g k
                    have HSn : Hid (ot t f (B ++ bb.take (k + 1)) = ot t f (B ++ bb.take k) ++ [g bb k]) := by
                      show _ = _
                      rw [hsn, ← List.append_assoc, ot_snoc _ (by omega) (by omega)]
                    have HOa := hide (HO2.out.alloc (.cells #[.int .u8 (g bb k)] 5))
                    have HSrc := hide (bs_new wr (0, 0) [g bb k] (fun y hy => by simp at hy; rw [hy]; exact hgb))
                    obtain ⟨gk, hgk⟩ : ∃ y, g bb k = y := ⟨_, rfl⟩
                    rw [hgk] at hcell HSn HOa HSrc hgb
                    clear hseg hsn hgk hXl
                    have hMb : M2 ≤ 100000 := by have := HT.out; have := HM2.out; omega
                    go_wp2_with (first
                      | (at_builtin
                         refine wpList_append_at _ (by rfl) (.tmp 108) (.tmp 113) (by rfl) w.heap.size vo2 M2 c2 (ot t f (B ++ bb.take k)) (by rfl) HOa.out _ 1 1 [gk] (by rfl) HSrc.out (fun h => by simp at h) (by omega) (by simp; omega) ?_
                         intro ao9 c9 w9 ho9 hg9 hl9
                         have HF9 := hide (Fr.of_grown (S := fun k' => (Value.slice vo2 M2 c2).ownBlock = some k') hg9 (fun k' hk' => hk'))
                         have HL9 := hide hl9
                         have HO9 := hide ho9
                         clear ho9 hg9 hl9))
                    go_roundw
                    case rel =>
                      refine ⟨k + 1, M2 + 1, c9, ao9, rfl, by go_num, by omega, by omega, ?_, by rw [HSn.out]; exact HO9.out, ?_, ?_⟩
                      · refine (Hb2.out.alloc hszr _).trans (HF9.out.below w.heap.size (by simp; omega) (fun k' hk' => (HO2.out.lt k' hk').1))
                      · refine (HBs3.out.alloc (.cells #[.int .u8 gk] 5)).fr HF9.out (fun a ha _ hx => HNe3.out a ha hx)
                      · intro a ha hx
                        rcases HL9.out _ hx with h | h
                        · exact HNe3.out a ha h
                        · rw [World.size_alloc] at h
                          cases ha
                          exact absurd hb0l (by show ¬ b0 < _; have : wr.heap.size + 1 ≤ b0 := h; omega)
                    case measure => simp [intOf]; omega
                  · have e6 : ¬ (of : Int) ≤ (i : Int) * 128 + (k : Int) := by have := HT.out; have := HJ.out; omega
                    have HSn : Hid (ot t f (B ++ bb.take (k + 1)) = ot t f (B ++ bb.take k)) := by
                      show _ = _
                      rw [ot_low (X := B ++ bb.take k) (by omega), ot_low]
                      rw [List.length_append, HBl.out, List.length_take, HbbL.out]; omega
                    clear hsn hXl
                    go_wp2
                    go_roundw
                    case rel => exact ⟨k + 1, M2, c2, vo2, rfl, by go_num, by omega, by omega, Hb2.out, by rw [HSn.out]; exact HO2.out, HBs3.out, HNe3.out⟩
                    case measure => simp [intOf]; omega
                · have HY : Hid (ot t f (B ++ bb.take k) = ot t f (B ++ bb)) := by
                    show _ = _
                    by_cases hk8 : k = 128
                    · rw [hk8, List.take_of_length_le (by rw [HbbL.out]; omega)]
                    · have hge : t ≤ (B ++ bb.take k).length := by
                        rw [List.length_append, HBl.out, List.length_take, HbbL.out]
                        have := HT.out; have := HJ.out; have := HM2.out; omega
                      have := ot_full (f := f) (bb.drop k) hge
                      rw [List.append_assoc, List.take_append_drop] at this
                      exact this.symm
                  have HSt2 : Hid (RSt zs start q m t f (i + 1) nx (ot t f (B ++ bb))) := by
                    have h1 := HJ.out
                    refine .inr ⟨by omega, B ++ bb, ?_, HBB.out.append HbbB.out, rfl, by omega, ?_⟩
                    · rw [List.length_append, HBl.out, HbbL.out]; omega
                    · rw [HBind.out, show m - j = (m - (i + 1 - q)) + 1 by omega, rds_some HTk2.out, Option.map_map]
                      congr 1
                      funext y
                      simp
                  have hexit : (¬ k < 128 ∧ decide ((k : Int) < 128) = false) ∨ ((k : Int) < 128 ∧ (N : Int) ≤ (M2 : Int)) := by
                    by_cases h1 : k < 128
                    · exact .inr ⟨by omega, by omega⟩
                    · exact .inl ⟨h1, by simp; omega⟩
                  rw [HY.out] at HO2 hby2
                  clear hgo
                  rcases hexit with ⟨e4, e5⟩ | ⟨e4, e5⟩
                  all_goals (
                    go_wp2
                    go_roundw
                    case rel => exact ⟨i + 1, M2, c2, nx, _, vo2, rfl, rfl, by go_num, by omega, ⟨by omega, by omega⟩, Hb2.out, HO2.out, hby2, HSt2⟩
                    case measure => simp [intOf]; omega)
            · have hb0' : ((bl : Int) != 0) = true := by simp; omega
              have hb8' : ((bl : Int) != 128) = true := by simp; omega
              have HA := hide (HBad.out (by rw [HTk.out, if_pos (.inr ⟨hb0, hb8⟩)]))
              go_wp2
              go_ret2
              exact HA.out
        · have her' : (er != 0) = true := by simpa using her
          have HA := hide (HBad.out (by rw [HTk.out, if_pos (.inl her)]))
          go_wp2
          go_ret2
          exact HA.out
      · have hge : t ≤ 128 * j := by have := HT.out; omega
        have HFin : Hid (DReads ent zs start sz of N w wr (.returned (.tuple #[.slice vo M c, .int .i64 0]))) := by
          refine DReads.of (Y := xs) ?_ (fresh_owns HO.out HBy.out hb)
          obtain rfl : j = m := by omega
          rw [HR.out, hbind, Nat.sub_self]
          simp [rds, rdO, hxs]
        have hexit : (¬ i < K ∧ decide ((i : Int) < (K : Int)) = false) ∨ ((i : Int) < (K : Int) ∧ (N : Int) ≤ (M : Int)) := by
          by_cases h1 : i < K
          · exact .inr ⟨by omega, by have := HT.out; omega⟩
          · exact .inl ⟨h1, by simp; omega⟩
        clear hbind hBl hxs hj hotl hML
        rcases hexit with ⟨e1, e2⟩ | ⟨e1, e2⟩
        all_goals (
          go_wp2
          go_ret2
          exact HFin.out)
end Go.Proofs.Ytifmikdknifcoaa

/- The walk of the law CursorBack. -/
import Derived.Test.YtljjffeediopgaaCurWrite
import Derived.Test.YtljjffeediopgaaCurParts
import Derived.Deep.RegionHeld3
import Derived.Deep.RegionHeld
import Derived.Deep.CutBlock
import Derived.Deep.CutRange
namespace Go.Proofs.Ytljjffeediopgaa
set_option linter.unusedVariables false
open Go.RowKit Go.Maps
open Lz (g)
open Cur

namespace Cur
/-- What a call writes. -/
def enc (k x : Int) (b : List Int) : List Int := if k = 0 then by' 2 x else if k = 1 then b else (b.length : Int) :: b
def flat (E : Nat → List Int) : Nat → List Int
  | 0 => []
  | i + 1 => flat E i ++ E i
theorem flat_prefix (E : Nat → List Int) : ∀ (i j : Nat), j ≤ i → (flat E i).take (flat E j).length = flat E j
  | 0, j, h => by obtain rfl : j = 0 := by omega
                  rfl
  | i + 1, j, h => by
    by_cases e : j = i + 1
    · subst e; exact List.take_of_length_le (Nat.le_refl _)
    · have h1 := flat_prefix E i j (by omega)
      have h2 : (flat E j).length ≤ (flat E i).length := by rw [← h1, List.length_take]; omega
      rw [flat, List.take_append_of_le_length h2, h1]
def rst (E : Nat → List Int) (i j : Nat) : List Int := (flat E i).drop (flat E j).length
theorem rst_step (E : Nat → List Int) (i j : Nat) (h : j < i) : rst E i j = E j ++ rst E i (j + 1) := by
  unfold rst
  have h1 := flat_prefix E i (j + 1) (by omega)
  have h2 : flat E i = flat E (j + 1) ++ (flat E i).drop (flat E (j + 1)).length := by
    conv => lhs; rw [← List.take_append_drop (flat E (j + 1)).length (flat E i), h1]
  conv => lhs; rw [h2]
  show List.drop (flat E j).length ((flat E j ++ E j) ++ _) = _
  rw [List.append_assoc, List.drop_left]
theorem rst_zero (E : Nat → List Int) (i : Nat) : rst E i 0 = flat E i := rfl
theorem rst_end (E : Nat → List Int) (i : Nat) : rst E i i = [] := by unfold rst; simp
theorem enc_length (k x : Int) (b : List Int) (h : b.length ≤ 255) : (enc k x b).length ≤ 256 := by
  unfold enc; split
  · rw [by_length]; omega
  · split
    · omega
    · simp; omega
theorem flat_length (E : Nat → List Int) : ∀ i, (∀ j, j < i → (E j).length ≤ 256) → (flat E i).length ≤ 256 * i
  | 0, _ => by simp [flat]
  | i + 1, h => by
    have := flat_length E i (fun j hj => h j (by omega))
    have := h i (by omega)
    simp only [flat, List.length_append]; omega
theorem le_by : ∀ (n : Nat) (x : Int), 0 ≤ x → x < 256 ^ n → le (by' n x) = x
  | 0, x, h0, h => by simp at h; simp [by', le]; omega
  | n + 1, x, h0, h => by
    have h2 : x / 256 < 256 ^ n := by
      rw [Int.pow_succ] at h
      exact Int.ediv_lt_of_lt_mul (by omega) h
    simp only [by', le]
    rw [le_by n (x / 256) (by omega) h2]; omega
theorem ps_app (a r : List Int) (n : Nat) (h : a.length = n) : ps n (a ++ r, 0) = (r, 0) := by
  unfold ps; rw [if_neg (by simp; omega)]; simp [← h]
theorem pa_app (a r : List Int) (n : Nat) (h : a.length = n) : pa n (a ++ r, 0) = a := by
  unfold pa; rw [if_neg (by simp; omega)]; simp [← h]
theorem num_app (n : Nat) (x : Int) (r : List Int) (h1 : 1 ≤ n) (h4 : n ≤ 4) (h0 : 0 ≤ x) (h : x < 256 ^ n) : numS n (by' n x ++ r, 0) = (r, 0) ∧ numA n (by' n x ++ r, 0) = x := by
  unfold numS numA
  rw [if_pos (by omega), if_pos (by omega), Int.toNat_natCast, ps_app _ _ _ (by_length n x), pa_app _ _ _ (by_length n x), le_by n x h0 h]
  exact ⟨rfl, rfl⟩
theorem byt_app (b r : List Int) : bytS b.length (b ++ r, 0) = (r, 0) ∧ bytA b.length (b ++ r, 0) = b := by
  unfold bytS bytA
  rw [if_neg (by omega), if_neg (by omega), Int.toNat_natCast, ps_app _ _ _ rfl, pa_app _ _ _ rfl]
  exact ⟨rfl, rfl⟩
theorem txt_app (b r : List Int) (h : b.length ≤ 255) : txtS ((b.length : Int) :: b ++ r, 0) = (r, 0) ∧ txtA ((b.length : Int) :: b ++ r, 0) = b := by
  have h1 := num_app 1 b.length (b ++ r) (by omega) (by omega) (by omega) (by omega)
  have e : by' 1 (b.length : Int) = [(b.length : Int)] := by simp [by']; omega
  rw [e] at h1
  have e2 : ((b.length : Int) :: b ++ r, (0 : Int)) = ([(b.length : Int)] ++ (b ++ r), 0) := rfl
  rw [e2]
  unfold txtS txtA
  have h2 : numS 1 ([(b.length : Int)] ++ (b ++ r), 0) = (b ++ r, 0) := h1.1
  have h3 : numA 1 ([(b.length : Int)] ++ (b ++ r), 0) = b.length := h1.2
  rw [h2, h3, Int.toNat_natCast, ps_app _ _ _ rfl, pa_app _ _ _ rfl]
  exact ⟨rfl, rfl⟩
theorem str_sb (s : ByteArray) : strOfNums (sb s) = s := by
  unfold strOfNums sb
  rw [List.map_map]
  have : ((fun n : Int => UInt8.ofNat n.toNat) ∘ fun b : UInt8 => (b.toNat : Int)) = id := by
    funext b; simp
  rw [this, List.map_id]
theorem wr_num (x : Int) (z : List Int) (h0 : 0 ≤ x) (h : x < 65536) : wNum x 2 (z, 0) = (z ++ by' 2 x, 0) := by
  unfold wNum; rw [if_pos ⟨by omega, by omega, h0, h⟩]; rfl
theorem wr_byt' (b z : List Int) : wByt b (z, 0) = (z ++ b, 0) := rfl
theorem wr_txt (b z : List Int) (h : b.length ≤ 255) : wTxt b (z, 0) = (z ++ ((b.length : Int) :: b), 0) := by
  unfold wTxt; rw [if_neg (by omega)]
  unfold wNum; rw [if_pos ⟨by omega, by omega, by omega, by show (b.length : Int) < 256; omega⟩]
  show wByt b (z ++ by' 1 (b.length : Int), 0) = _
  have e : by' 1 (b.length : Int) = [(b.length : Int)] := by simp [by']; omega
  rw [e, wr_byt', List.append_assoc]; rfl
end Cur
/-- What the call number j writes. -/
def EO (O : Nat → OpR) (j : Nat) : List Int := enc (knd (O j).kind 3) (knd (O j).x 65536) (sb (O j).s)
theorem WrDone.below {w w' : World} {p B : Nat} {v : Value} {s s' : St} (h : WrP w p B v s) (hB : B ≤ w.heap.size) (hp : B ≤ p) (hf : Fr (Two p v) w w') : Below B w w' := by
  obtain ⟨ao, n, c, rfl, h2, h3, _⟩ := h
  refine hf.below B hB (fun k hk => ?_)
  rcases hk with hk | hk
  · omega
  · exact (h3.lt k hk).1

set_option maxRecDepth 100000 in
set_option maxHeartbeats 4000000 in
theorem back_any (a1 : Option Addr) (len1 cap1 : Nat) (O : Nat → OpR) (w : World) (f1 : OpsB w a1 len1 cap1 O) :
    Calls Try.prog 5 #[.slice a1 len1 cap1] w fun e w' => e = .returned (.bool true) ∧ Below w.heap.size w w' := by
  have HO : Hid (OpsB w a1 len1 cap1 O) := f1
  have hl2 := f1.1
  clear f1
  go_enter Try.func5, Try.ntmps5
  go_wp2_with fail
  refine (shown_any w).mono ?_
  rintro r ws ⟨rfl, hbs0⟩
  have HB0 : Hid (Below w.heap.size w ws) := hbs0
  have HW0 : Hid (WrP (ws.alloc (.cells #[.slice none 0 0, .int .i64 0] 45)) ws.heap.size w.heap.size (.slice none 0 0) ([], 0)) := ⟨none, 0, 0, rfl, Hd.new _ _ _ _ _ _, World.ownsRow_nil _ _ _ _, Bytes.nil, .inl rfl⟩
  have HB1 : Hid (Below w.heap.size w (ws.alloc (.cells #[.slice none 0 0, .int .i64 0] 45))) := hbs0.alloc hbs0.size _
  obtain ⟨p, hp⟩ : ∃ p, p = ws.heap.size := ⟨_, rfl⟩
  have HP : Hid (w.heap.size ≤ p) := by rw [hp]; exact hbs0.size
  have HW1 : Hid (WrP (ws.alloc (.cells #[.slice none 0 0, .int .i64 0] 45)) p w.heap.size (.slice none 0 0) ([], 0)) := by rw [hp]; exact HW0.out
  clear hbs0 HW0
  go_upto_block 0 with fail
  rw [← hp]
  clear hp
  go_cut [5, 6] from 13 to 66 (fun s5 s6 wx => ∃ (i : Nat) (v : Value), s5 = .int .i64 i ∧ i ≤ 40 ∧ i ≤ len1 ∧ (∀ j, j < i → (O j).s.size ≤ 255) ∧ WrP wx p w.heap.size v (flat (EO O) i, 0) ∧ Below w.heap.size w wx)
  case first =>
    go_wp2_with fail
    go_loopw [5, 6] (fun s5 s6 wr => ∃ (i : Nat) (v : Value), s5 = .int .i64 i ∧ s6 = .int .i64 i ∧ i ≤ 40 ∧ i ≤ len1 ∧ (∀ j, j < i → (O j).s.size ≤ 255) ∧ WrP wr p w.heap.size v (flat (EO O) i, 0) ∧ Below w.heap.size w wr) (fun _ s6 _ => 40 - (intOf s6).toNat)
    case atStart => exact ⟨0, _, rfl, rfl, by omega, by omega, fun j hj => by omega, HW1.out, HB1.out⟩
    case round =>
      obtain ⟨i, v, rfl, rfl, hi, hi1, hsz, hW, hBl⟩ := hrel
      have HSm : Hid (∀ j, j < i → (O j).s.size ≤ 255) := hsz
      have HWr : Hid (WrP wr p w.heap.size v (flat (EO O) i, 0)) := hW
      have HBl : Hid (Below w.heap.size w wr) := hBl
      clear hsz hW hBl HW1 HB1
      by_cases hlt : i < len1 ∧ i < 40
      · obtain ⟨hlt1, hlt2⟩ := hlt
        rcases HO.out.2 with h0 | ⟨b, off, rfl, hbl, hcs⟩
        · omega
        obtain ⟨e0, e1, _, e3, hkd, hxd, _, hss⟩ := hcs i hlt1
        have c0 : wr.cell? ⟨b, off + i * 4, none⟩ = some (.int .i64 (O i).kind) := (HBl.out.cell (by exact hbl)).trans e0
        have c1 : wr.cell? ⟨b, off + i * 4 + 1, none⟩ = some (.int .i64 (O i).x) := (HBl.out.cell (by exact hbl)).trans e1
        have c3 : wr.cell? ⟨b, off + i * 4 + 3, none⟩ = some (.string (O i).s) := (HBl.out.cell (by exact hbl)).trans e3
        have HKd : Hid (In64 (O i).kind) := hkd
        have HXd : Hid (In64 (O i).x) := hxd
        have HLen : Hid ((flat (EO O) i).length ≤ 256 * i) := flat_length (EO O) i (fun j hj => enc_length _ _ _ (by rw [sb_length]; exact HSm.out j hj))
        have hbw : w.heap.size ≤ wr.heap.size := HBl.out.size
        clear e0 e1 e3 hkd hxd hcs
        by_cases hbig : 255 < (O i).s.size
        · go_wp2_with fail
          go_meet
          case rel => exact ⟨i, v, rfl, hi, hi1, HSm.out, HWr.out, HBl.out⟩
        · have HSz : Hid ((O i).s.size ≤ 255) := by have : ¬ 255 < (O i).s.size := hbig; show _ ≤ _; omega
          have HD1 : Hid (∀ w9 v9, WrP w9 p w.heap.size v9 (flat (EO O) i ++ EO O i, 0) → Fr (Two p v) wr w9 → ∃ (i' : Nat) (v' : Value), (Value.int .i64 ((i : Int) + 1) = .int .i64 i' ∧ Value.int .i64 ((i : Int) + 1) = .int .i64 i' ∧ i' ≤ 40 ∧ i' ≤ len1 ∧ (∀ j, j < i' → (O j).s.size ≤ 255) ∧ WrP w9 p w.heap.size v' (flat (EO O) i', 0) ∧ Below w.heap.size w w9)) := fun w9 v9 h1 h2 =>
            ⟨i + 1, v9, by go_num, by go_num, by omega, by omega, fun j hj => by
              by_cases e : j = i
              · subst e; exact HSz.out
              · exact HSm.out j (by omega), h1, HBl.out.trans (WrDone.below (s' := ([], 0)) HWr.out HBl.out.size HP.out h2)⟩
          have HEn : Hid (EO O i = enc (knd (O i).kind 3) (knd (O i).x 65536) (sb (O i).s)) := rfl
          have hsb : Hid ((sb (O i).s).length = (O i).s.size) := sb_length _
          generalize (O i).kind = kk at *
          generalize (O i).x = xx at *
          generalize (O i).s = ss at *
          generalize EO O i = EN at *
          generalize flat (EO O) i = FL at *
          have k1 := knd_nonneg kk 3 (by omega)
          have k2 := knd_lt kk 3 (by omega)
          have x1 := knd_nonneg xx 65536 (by omega)
          have x2 := knd_lt xx 65536 (by omega)
          go_wp2_with fail
          refine (kind_any kk 3 wr (by omega) (by omega) HKd.out).mono ?_
          rintro r wx ⟨rfl, hwx⟩
          obtain rfl := hwx.symm
          clear hwx
          generalize knd kk 3 = kd at *
          have hkd : kd = 0 ∨ kd = 1 ∨ kd = 2 := by omega
          clear k1 k2
          rcases hkd with rfl | rfl | rfl
          · have HE0 : Hid (EN = by' 2 (knd xx 65536)) := HEn.out
            go_wp2_with fail
            refine (kind_any xx 65536 wr (by omega) (by omega) HXd.out).mono ?_
            rintro r wx ⟨rfl, hwx⟩
            obtain rfl := hwx.symm
            clear hwx
            generalize knd xx 65536 = xk at *
            go_wp2_with fail
            refine (wNum_any p w.heap.size v xk 2 (FL, 0) wr HWr.out hbw (by have := HLen.out; show FL.length ≤ _; omega) (by omega) (by omega)).mono ?_
            rintro r w9 ⟨rfl, v9, hW9, hF9, hL9⟩
            rw [wr_num xk FL x1 x2, ← HE0.out] at hW9
            have HR := HD1.out w9 v9 hW9 hF9
            have HR2 : Hid _ := HR
            clear HR hW9 hF9 hL9
            go_wp2
            go_roundw
            case rel => exact HR2.out
            case measure => simp [intOf]; omega
          · have HE0 : Hid (EN = sb ss) := HEn.out
            obtain ⟨c, o, hcv, hbs⟩ := conv_any wr ss
            have HB1 : Hid (Bs (wr.drew.alloc o) (some ⟨wr.heap.size, 0, none⟩) ss.size (sb ss)) := hbs
            clear hbs
            go_wp2_with fail
            refine (wBytes_any p w.heap.size ss.size c _ v (sb ss) (FL, 0) (wr.alloc o).drew (HWr.out.below ?_) ?_ HB1.out (fun h => by simp at h) ?_).mono ?_
            · exact ((Below.refl _ _).alloc (Nat.le_refl _) o).drew
            · simp; omega
            · have h1 := HLen.out; have h2 := HSz.out; simp at h1 ⊢; omega
            rintro r w9 ⟨rfl, hD⟩
            have HDn : WrDone wr w9 p w.heap.size v (wByt (sb ss) (FL, 0)) := WrDone.trans (Fr.of_below ((Below.refl _ _).alloc (Nat.le_refl _) o).drew) (Lie.refl _ _) hD
            obtain ⟨v9, hW9, hF9, hL9⟩ := HDn
            rw [wr_byt', ← HE0.out] at hW9
            have HR2 : Hid _ := HD1.out w9 v9 hW9 hF9
            clear hW9 hF9 hL9 hD
            go_wp2
            go_roundw
            case rel => exact HR2.out
            case measure => simp [intOf]; omega
          · have HE0 : Hid (EN = ((sb ss).length : Int) :: sb ss) := HEn.out
            go_wp2_with fail
            refine (wText_any p w.heap.size v ss (FL, 0) wr HWr.out hbw (by have := HLen.out; show FL.length ≤ _; omega) (by have := HSz.out; omega)).mono ?_
            rintro r w9 ⟨rfl, v9, hW9, hF9, hL9⟩
            rw [wr_txt (sb ss) FL (by rw [hsb.out]; exact HSz.out), ← HE0.out] at hW9
            have HR2 : Hid _ := HD1.out w9 v9 hW9 hF9
            clear hW9 hF9 hL9
            go_wp2
            go_roundw
            case rel => exact HR2.out
            case measure => simp [intOf]; omega
      · by_cases h1 : i < len1
        · obtain rfl : i = 40 := by omega
          go_wp2_with fail
          go_meet
          case rel => exact ⟨40, v, rfl, hi, hi1, HSm.out, HWr.out, HBl.out⟩
        · go_wp2_with fail
          go_meet
          case rel => exact ⟨i, v, rfl, hi, hi1, HSm.out, HWr.out, HBl.out⟩
  case rest =>
    obtain ⟨i, v, rfl, hi, hi1, hsz, hW, hBl⟩ := hcut
    have HSm : Hid (∀ j, j < i → (O j).s.size ≤ 255) := hsz
    have HWr : Hid (WrP wc p w.heap.size v (flat (EO O) i, 0)) := hW
    have HBl : Hid (Below w.heap.size w wc) := hBl
    have hLen : (flat (EO O) i).length ≤ 256 * i := flat_length (EO O) i (fun j hj => enc_length _ _ _ (by rw [sb_length]; exact HSm.out j hj))
    clear hsz hW hBl HW1 HB1
    go_wp2_with fail
    refine (Done_any p w.heap.size v (flat (EO O) i, 0) wc HWr.out (by show (flat (EO O) i).length ≤ _; omega)).mono ?_
    rintro r w1 ⟨ao, c, rfl, hb1, hc1, hc2, hnil, hbel1⟩
    have HBs : Hid (Bs w1 ao (flat (EO O) i).length (flat (EO O) i)) := hb1
    have HN1 : Hid (ao = none → c = 0) := hnil
    have HBe1 : Hid (Below wc.heap.size wc w1) := hbel1
    clear hb1 hnil hbel1
    go_wp2_with fail
    refine (Read_any (flat (EO O) i).length c ao (flat (EO O) i) w1 HBs.out hc1 HN1.out (by omega)).mono ?_
    rintro r w2 ⟨q, rfl, hq, hR, hbel2⟩
    have HBe2 : Hid (Below wc.heap.size wc w2) := HBe1.out.trans (hbel2.mono HBe1.out.size)
    have HW2 : Hid (WrP w2 p w.heap.size v (flat (EO O) i, 0)) := HWr.out.below HBe2.out
    have HB2 : Hid (Below w.heap.size w w2) := HBl.out.trans (HBe2.out.mono HBl.out.size)
    have HQ : Hid (w.heap.size ≤ q) := Nat.le_trans HBl.out.size (Nat.le_trans HBe1.out.size hq)
    obtain ⟨L, hL⟩ : ∃ L, L = w2.heap.size := ⟨_, rfl⟩
    have HR : Hid (RdP w2 q L (rst (EO O) i 0, 0)) := by rw [hL, rst_zero]; exact hR
    clear hbel2 hR hq hL HBs HN1 HBe1 hc1 hc2
    obtain ⟨vo, vn, vc, _, hdW, _⟩ := HW2.out.shape
    go_wp2_with fail
    refine (Err_any _ p vn vc vo 0 w2 hdW).mono ?_
    rintro r wx ⟨rfl, hwx⟩
    obtain rfl := hwx.symm
    clear hwx hdW
    go_wp2_with fail
    go_loopw [8, 9] (fun s8 s9 wr => ∃ (j : Nat), s8 = .int .i64 j ∧ j ≤ i ∧ RdP wr q L (rst (EO O) i j, 0) ∧ Below w.heap.size w wr) (fun s8 _ _ => i - (intOf s8).toNat)
    case atStart => exact ⟨0, rfl, by omega, HR.out, HB2.out⟩
    case round =>
      obtain ⟨j, rfl, hj, hRj, hBj⟩ := hrel
      have HRj : Hid (RdP wr q L (rst (EO O) i j, 0)) := hRj
      have HBj : Hid (Below w.heap.size w wr) := hBj
      clear hRj hBj HR HB2 HWr HBe2 HW2 HBl
      by_cases hlt : j < i
      · rcases HO.out.2 with h0 | ⟨b, off, rfl, hbl, hcs⟩
        · omega
        obtain ⟨e0, e1, _, e3, hkd, hxd, _, hss⟩ := hcs j (by omega)
        have c0 : wr.cell? ⟨b, off + j * 4, none⟩ = some (.int .i64 (O j).kind) := (HBj.out.cell (by exact hbl)).trans e0
        have c1 : wr.cell? ⟨b, off + j * 4 + 1, none⟩ = some (.int .i64 (O j).x) := (HBj.out.cell (by exact hbl)).trans e1
        have c3 : wr.cell? ⟨b, off + j * 4 + 3, none⟩ = some (.string (O j).s) := (HBj.out.cell (by exact hbl)).trans e3
        have HC1 : Hid (∀ w9, Fr (One q) wr w9 → w9.cell? ⟨b, off + j * 4 + 1, none⟩ = some (.int .i64 (O j).x)) := fun w9 hF => (hF.cell (q := ⟨b, off + j * 4 + 1, none⟩) (Nat.lt_of_lt_of_le hbl HBj.out.size) (fun h => by have h1 := HQ.out; have h9 : b = q := h; omega)).trans c1
        have HC3 : Hid (∀ w9, Fr (One q) wr w9 → w9.cell? ⟨b, off + j * 4 + 3, none⟩ = some (.string (O j).s)) := fun w9 hF => (hF.cell (q := ⟨b, off + j * 4 + 3, none⟩) (Nat.lt_of_lt_of_le hbl HBj.out.size) (fun h => by have h1 := HQ.out; have h9 : b = q := h; omega)).trans c3
        have HKd : Hid (In64 (O j).kind) := hkd
        have HXd : Hid (In64 (O j).x) := hxd
        have HSz : Hid ((O j).s.size ≤ 255) := HSm.out j hlt
        have HD1 : Hid (∀ w9, RdP w9 q L (rst (EO O) i (j + 1), 0) → Fr (One q) wr w9 → ∃ (j' : Nat), (Value.int .i64 ((j : Int) + 1) = .int .i64 j' ∧ j' ≤ i ∧ RdP w9 q L (rst (EO O) i j', 0) ∧ Below w.heap.size w w9)) := fun w9 h1 h2 =>
          ⟨j + 1, by go_num, by omega, h1, HBj.out.trans (h2.below _ HBj.out.size (fun k hk => by have h9 : k = q := hk; have := HQ.out; omega))⟩
        have HSt : Hid (rst (EO O) i j = enc (knd (O j).kind 3) (knd (O j).x 65536) (sb (O j).s) ++ rst (EO O) i (j + 1)) := rst_step (EO O) i j hlt
        have hsb : Hid ((sb (O j).s).length = (O j).s.size) := sb_length _
        clear e0 e1 e3 hkd hxd hcs
        generalize (O j).kind = kk at *
        generalize (O j).x = xx at *
        generalize (O j).s = ss at *
        generalize rst (EO O) i (j + 1) = RN at *
        generalize rst (EO O) i j = RJ at *
        have k1 := knd_nonneg kk 3 (by omega)
        have k2 := knd_lt kk 3 (by omega)
        have x1 := knd_nonneg xx 65536 (by omega)
        have x2 := knd_lt xx 65536 (by omega)
        go_wp2_with fail
        refine (kind_any kk 3 wr (by omega) (by omega) HKd.out).mono ?_
        rintro r wx ⟨rfl, hwx⟩
        obtain rfl := hwx.symm
        clear hwx c0
        generalize knd kk 3 = kd at *
        have hkd : kd = 0 ∨ kd = 1 ∨ kd = 2 := by omega
        clear k1 k2
        rcases hkd with rfl | rfl | rfl
        · have HE0 : Hid (RJ = by' 2 (knd xx 65536) ++ RN) := HSt.out
          have HCq : Hid (∀ wX, RdP wX q L (RJ, 0) → Calls Try.prog 12 #[.pointer (some ⟨q, 0, none⟩), .int .i64 2] wX fun r w' => r = .returned (.int .i64 (knd xx 65536)) ∧ RdP w' q L (RN, 0) ∧ Fr (One q) wX w') := fun wX h => by
            have h1 := Num_any q L 2 (RJ, 0) wX h (by omega)
            have h2 := num_app 2 (knd xx 65536) RN (by omega) (by omega) x1 x2
            rw [← HE0.out] at h2
            rw [show numS 2 (RJ, 0) = (RN, 0) from h2.1, show numA 2 (RJ, 0) = knd xx 65536 from h2.2] at h1
            exact h1
          have HKx : Hid (∀ wX, Calls Try.prog 11 #[.int .i64 xx, .int .i64 65536] wX fun e w' => e = .returned (.int .i64 (knd xx 65536)) ∧ w' = wX) := fun wX => kind_any xx 65536 wX (by omega) (by omega) HXd.out
          generalize knd xx 65536 = xk at *
          have hxx : (xk == xk) = true := beq_self_eq_true _
          clear c3
          have hj0 : (0 : Int) ≤ (j : Int) := by omega
          have hj1 : (j : Int) < (len1 : Int) := by omega
          have hj2 : j < len1 := by omega
          go_wp2_with fail
          go_region_held3 (fun wX => wX.cell? ⟨b, off + j * 4 + 1, none⟩ = some (.int .i64 xx)) (go_keep)
            ((first
              | (go_at_call 12; refine (HCq.out wr.drew HRj.out).mono ?_; rintro r w9 ⟨rfl, hR9, hF9⟩; have HRn : Hid (RdP w9 q L (RN, 0)) := hR9; have HF9 : Hid (Fr (One q) wr w9) := hF9.undrew; have c9 := HC1.out w9 HF9.out; clear hR9 hF9)
              | (go_at_call 11; refine (HKx.out _).mono ?_; rintro r wy ⟨rfl, hwy⟩; obtain rfl := hwy.symm; clear hwy)))
          all_goals (
            have HR2 : Hid _ := HD1.out w9 HRn.out HF9.out
            go_wp2
            go_roundw
            case rel => exact HR2.out
            case measure => simp [intOf]; omega)
        · have HE0 : Hid (RJ = sb ss ++ RN) := HSt.out
          have HCq : Hid (∀ wX, RdP wX q L (RJ, 0) → Calls Try.prog 14 #[.pointer (some ⟨q, 0, none⟩), .int .i64 (ss.size : Nat)] wX fun r w' => (∃ ao c, r = .returned (.slice ao ss.size c) ∧ Bs w' ao ss.size (sb ss)) ∧ RdP w' q L (RN, 0) ∧ Fr (One q) wX w') := fun wX h => by
            have h1 := Bytes_any q L ss.size (RJ, 0) wX h (by have := HSz.out; omega)
            have h2 := byt_app (sb ss) RN
            rw [← HE0.out, hsb.out] at h2
            rw [h2.1, h2.2, hsb.out] at h1
            refine h1.mono ?_
            rintro r w' ⟨⟨x, y, z1, z2, _⟩, z3⟩
            exact ⟨⟨x, y, z1, z2⟩, z3⟩
          have hss2 : (ss.toList == ss.toList) = true := beq_self_eq_true _
          clear c1 HE0 HSt
          have hj0 : (0 : Int) ≤ (j : Int) := by omega
          have hj1 : (j : Int) < (len1 : Int) := by omega
          have hj2 : j < len1 := by omega
          go_wp2_with fail
          go_region_held (fun wX => wX.cell? ⟨b, off + j * 4 + 3, none⟩ = some (.string ss)) (go_keep)
            ((first
              | (go_at_call 14; refine (HCq.out wr.drew HRj.out).mono ?_; rintro r w9 ⟨⟨ao9, c9, rfl, hb9⟩, hR9, hF9⟩; have HRn : Hid (RdP w9 q L (RN, 0)) := hR9; have HF9 : Hid (Fr (One q) wr w9) := hF9.undrew; have c99 := HC3.out w9 HF9.out; have t9 := str_any hb9 c9; rw [str_sb] at t9; clear hR9 hF9 hb9)))
          all_goals (
            have HR2 : Hid _ := HD1.out w9 HRn.out HF9.out
            go_wp2
            go_roundw
            case rel => exact HR2.out
            case measure => simp [intOf]; omega)
        · have HE0 : Hid (RJ = ((sb ss).length : Int) :: sb ss ++ RN) := HSt.out
          have HCq : Hid (∀ wX, RdP wX q L (RJ, 0) → Calls Try.prog 16 #[.pointer (some ⟨q, 0, none⟩)] wX fun r w' => r = .returned (.string ss) ∧ RdP w' q L (RN, 0) ∧ Fr (One q) wX w') := fun wX h => by
            have h1 := Text_any q L (RJ, 0) wX h
            have h2 := txt_app (sb ss) RN (by rw [hsb.out]; exact HSz.out)
            rw [← HE0.out] at h2
            rw [h2.1, h2.2, str_sb] at h1
            exact h1
          have hss2 : (ss.toList == ss.toList) = true := beq_self_eq_true _
          clear c1 HE0 HSt
          have hj0 : (0 : Int) ≤ (j : Int) := by omega
          have hj1 : (j : Int) < (len1 : Int) := by omega
          have hj2 : j < len1 := by omega
          go_wp2_with fail
          go_region_held3 (fun wX => wX.cell? ⟨b, off + j * 4 + 3, none⟩ = some (.string ss)) (go_keep)
            ((first
              | (go_at_call 16; refine (HCq.out wr.drew HRj.out).mono ?_; rintro r w9 ⟨rfl, hR9, hF9⟩; have HRn : Hid (RdP w9 q L (RN, 0)) := hR9; have HF9 : Hid (Fr (One q) wr w9) := hF9.undrew; have c99 := HC3.out w9 HF9.out; clear hR9 hF9)))
          all_goals (
            have HR2 : Hid _ := HD1.out w9 HRn.out HF9.out
            go_wp2
            go_roundw
            case rel => exact HR2.out
            case measure => simp [intOf]; omega)
      · obtain rfl : j = i := by omega
        have HRe : Hid (RdP wr q L ([], 0)) := by have := HRj.out; rw [rst_end] at this; exact this
        clear HRj
        go_wp2_with fail
        refine (rLeft_any q L ([], 0) wr HRe.out).mono ?_
        rintro r wx ⟨rfl, hwx⟩
        obtain rfl := hwx.symm
        clear hwx
        go_wp2_with fail
        refine (End_none q L 0 wr HRe.out).mono ?_
        rintro r wx ⟨rfl, hwx⟩
        obtain rfl := hwx.symm
        clear hwx
        go_wp2
        go_ret
        exact ⟨rfl, HBj.out⟩
end Go.Proofs.Ytljjffeediopgaa

/- What was framed is read as it was, wherever it stands; a frame that is cut, or of which a byte is turned, is none; how long frames are. -/
import Derived.Test.YtmhgjilpgbkaaaaFrmPut
namespace Go.Proofs.Ytmhgjilpgbkaaaa.Frm
set_option linter.unusedVariables false
open Lz (g pack unpack)
open Crc (ent more)
open Cur (le by')

theorem bsz_zero : bsz 0 = (0, true) := rfl
theorem bsz_of {n : Int} {m : Nat} (h1 : 1 ≤ m) (h2 : m ≤ 128) (hn : n = m ∨ n = (m : Int) + 32768) : bsz n = (((4 + m : Nat) : Int), true) := by
  unfold bsz
  rw [if_neg (by omega), if_neg (by omega)]
  have : 4 + n % 32768 = ((4 + m : Nat) : Int) := by omega
  rw [this]
theorem g_app_right (a b : List Int) (i : Nat) : g (a ++ b) (a.length + i) = g b i := by simp [g, List.getElem?_append_right]
theorem g_app_r {a b : List Int} {k : Nat} (hk : a.length = k) (i : Nat) : g (a ++ b) (k + i) = g b i := by rw [← hk]; exact g_app_right a b i
/-- A head with what belongs to it is a frame, wherever it stands. -/
theorem spot_frame {n : Int} (hn : 0 ≤ n ∧ n ≤ 65535) {s : Nat} (hs : bsz n = ((s : Int), true)) (A rest : List Int) (hr : s ≤ rest.length) : spot (A ++ (hd n ++ rest)) (A.length : Nat) = some (n, s) := by
  have e0 : g (A ++ (hd n ++ rest)) A.length = n % 256 := by have := g_app_right A (hd n ++ rest) 0; rw [Nat.add_zero] at this; rw [this]; rfl
  have e1 : g (A ++ (hd n ++ rest)) (A.length + 1) = n / 256 % 256 := by rw [g_app_right]; rfl
  have e2 : g (A ++ (hd n ++ rest)) (A.length + 2) = 255 - x8 (n % 256) (n / 256 % 256) := by rw [g_app_right]; rfl
  have en : num (A ++ (hd n ++ rest)) A.length = n := by unfold num; rw [e0, e1]; omega
  have hl : (A ++ (hd n ++ rest)).length = A.length + (3 + rest.length) := by rw [List.length_append, List.length_append, hd_length]
  unfold spot
  rw [Int.toNat_natCast, if_neg (by rw [hl]; omega), en, hs, e0, e1, e2, if_neg (by simp), if_neg (by rw [hl]; simp only []; omega)]
  simp
theorem body_frame {n : Int} (A rest : List Int) (s : Nat) : body (A ++ (hd n ++ rest)) A.length s = rest.take s := by
  unfold body
  rw [List.drop_append, List.drop_append, List.drop_eq_nil_of_le (by omega), List.drop_eq_nil_of_le (by rw [hd_length]; omega), List.nil_append, List.nil_append, hd_length]
  rw [show A.length + 3 - A.length - 3 = 0 by omega, List.drop_zero]
/-- What a frame is made of. -/
theorem put_shape {T : Nat → Nat} {b : List Int} (h : b.length ≤ 128) : ∃ n rest, put T b = hd n ++ rest ∧ bsz n = ((rest.length : Int), true) ∧ (0 ≤ n ∧ n ≤ 65535) ∧
    ((b = [] ∧ rest = []) ∨ (b ≠ [] ∧ ∃ p, rest = by' 4 (more T 0 p) ++ p ∧ 1 ≤ p.length ∧ p.length ≤ 128 ∧ ((32768 ≤ n ∧ p = b) ∨ (n < 32768 ∧ p = pack b)))) := by
  by_cases h0 : b = []
  · subst h0
    exact ⟨0, [], by rw [put_nil]; decide, rfl, by omega, .inl ⟨rfl, rfl⟩⟩
  · have hb : 1 ≤ b.length := by cases b; exact absurd rfl h0; simp
    by_cases h1 : (pack b).length < b.length
    · have hp : 1 ≤ (pack b).length := by
        cases hpk : pack b with
        | nil =>
          have := Lz.unpack_pack b 128 (by omega)
          rw [if_neg (by omega), hpk] at this
          have h9 : unpack [] 128 = ([], 0) := by decide
          rw [h9] at this
          exact absurd (congrArg Prod.fst this).symm h0
        | cons x y => simp
      refine ⟨(pack b).length, by' 4 (more T 0 (pack b)) ++ pack b, ?_, ?_, by omega, .inr ⟨h0, pack b, rfl, hp, by omega, .inr ⟨by omega, rfl⟩⟩⟩
      · unfold put; rw [if_neg h0, if_pos h1]; unfold whole; rw [List.append_assoc]
      · rw [List.length_append, by_length]; exact bsz_of hp (by omega) (.inl rfl)
    · refine ⟨(b.length : Int) + 32768, by' 4 (more T 0 b) ++ b, ?_, ?_, by omega, .inr ⟨h0, b, rfl, hb, h, .inl ⟨by omega, rfl⟩⟩⟩
      · unfold put; rw [if_neg h0, if_neg h1]; unfold whole; rw [List.append_assoc]
      · rw [List.length_append, by_length]; exact bsz_of hb h (.inr rfl)
theorem plain_sum {T : Nat → Nat} (hS : Small T) (n : Int) (p : List Int) : plain T n (by' 4 (more T 0 p) ++ p) = if 32768 ≤ n then p else (unpack p 128).1 := by
  have hm := more_bd hS p
  unfold plain
  have e1 : (by' 4 (more T 0 p) ++ p).take 4 = by' 4 (more T 0 p) := by rw [List.take_append_of_le_length (by rw [by_length]; omega), List.take_of_length_le (by rw [by_length]; omega)]
  have e2 : (by' 4 (more T 0 p) ++ p).drop 4 = p := by rw [List.drop_append, by_length, List.drop_eq_nil_of_le (by rw [by_length]; omega)]; simp
  rw [e1, e2, Cur.le_by 4 _ (by omega) (by show (more T 0 p : Int) < 4294967296; omega), if_neg (by simp)]
/-- What was framed is read as it was, wherever it stands. -/
theorem take_put {T : Nat → Nat} (hS : Small T) {b : List Int} (h : b.length ≤ 128) (A Z : List Int) :
    take T (A ++ (put T b ++ Z)) (A.length : Nat) = (b, ((A.length + (put T b).length : Nat) : Int), 0) ∧ skip (A ++ (put T b ++ Z)) (A.length : Nat) = (((A.length + (put T b).length : Nat) : Int), 0) := by
  obtain ⟨n, rest, e, hs, hn, hc⟩ := put_shape (T := T) h
  rw [e, List.append_assoc]
  have hsp := spot_frame hn hs A (rest ++ Z) (by simp)
  have hbd : body (A ++ (hd n ++ (rest ++ Z))) A.length rest.length = rest := by rw [body_frame]; simp
  have hlen : ((A.length : Nat) : Int) + 3 + (rest.length : Nat) = ((A.length + (hd n ++ rest).length : Nat) : Int) := by rw [List.length_append, hd_length]; omega
  constructor
  · unfold take
    rw [hsp]
    simp only [Int.toNat_natCast, hbd]
    rcases hc with ⟨rfl, rfl⟩ | ⟨h0, p, rfl, h1, h2, hc⟩
    · simp [hd_length]
    · rw [if_neg (by simp [by_length])]
      rw [plain_sum hS]
      rcases hc with ⟨h3, rfl⟩ | ⟨h3, rfl⟩
      · rw [if_pos h3, if_neg h0, hlen]
      · rw [if_neg (show ¬ 32768 ≤ n by omega), Lz.unpack_pack b 128 (by omega), if_neg (show ¬ (128 : Int) < b.length by omega)]
        rw [if_neg h0, hlen]
  · unfold skip
    rw [hsp]
    simp only [hlen]
theorem put_length {T : Nat → Nat} {b : List Int} (h : b.length ≤ 128) : 3 ≤ (put T b).length ∧ (put T b).length ≤ b.length + 7 ∧ (put T b).length ≤ 135 := by
  by_cases h0 : b = []
  · subst h0; rw [put_nil]; simp
  · unfold put; rw [if_neg h0]
    split
    · rw [whole_length]; omega
    · rw [whole_length]; omega
theorem put_bytes {T : Nat → Nat} {b : List Int} (h : Bytes b) : Bytes (put T b) := by
  unfold put whole
  split
  · exact hd_bytes 0
  · split
    · exact ((hd_bytes _).append (by_bytes 4 _)).append h.pack
    · exact ((hd_bytes _).append (by_bytes 4 _)).append h
theorem pack_four (k : Nat) (c : Int) (h1 : 4 ≤ k) (h2 : k ≤ 131) : (pack (List.replicate k c)).length ≤ 4 := by
  unfold Lz.pack
  have h0 : Lz.mt (List.replicate k c) 0 = (0, 0) := rfl
  rw [Lz.pk_byte _ [] 0 0 (by simp; omega) (by rw [h0])]
  have hb := Lz.mt_same k 1 c (by omega) (by omega)
  have hmt : Lz.mt (List.replicate k c) 1 = (min 130 (k - 1), 1) := by unfold Lz.mt; rw [hb, if_neg (by simp; omega)]
  have ih := Lz.same_tail k c k (1 + min 130 (k - 1)) (by omega) (by omega) (by omega)
  rw [Nat.zero_add, Lz.pk_copy _ [] 0 1 (by simp; omega) (by rw [hmt]; simp; omega), hmt, Lz.pk_out, List.length_append, List.length_append, List.length_append, Lz.runs_length]
  simp only [List.length_cons, List.length_nil, List.length_drop, List.length_take, List.length_replicate]
  rw [if_pos (by omega)] at ih
  omega
theorem put_same (T : Nat → Nat) (k : Nat) (c : Int) (h1 : 4 ≤ k) (h2 : k ≤ 128) : (put T (List.replicate k c)).length ≤ 11 := by
  have h4 := pack_four k c h1 (by omega)
  have hne : List.replicate k c ≠ [] := fun e => by have := congrArg List.length e; simp at this; omega
  unfold put
  rw [if_neg hne]
  split
  · rw [whole_length]; omega
  · rename_i h; rw [whole_length]; simp at h ⊢; omega
/-- A frame that is cut is none. -/
theorem cut_none {T : Nat → Nat} {b : List Int} (h : b.length ≤ 128) (k : Nat) (hk : k < (put T b).length) : spot ((put T b).take k) 0 = none := by
  obtain ⟨n, rest, e, hs, hn, _⟩ := put_shape (T := T) h
  rw [e] at hk ⊢
  have hl : ((hd n ++ rest).take k).length = k := by rw [List.length_take]; omega
  have hln : (hd n ++ rest).length = 3 + rest.length := by rw [List.length_append, hd_length]
  unfold spot
  by_cases h3 : k < 3
  · rw [if_pos (by rw [hl]; omega)]
  · rw [if_neg (by rw [hl]; omega)]
    have e0 : g ((hd n ++ rest).take k) 0 = n % 256 := by rw [Lz.g_take _ _ _ (by omega)]; rfl
    have e1 : g ((hd n ++ rest).take k) 1 = n / 256 % 256 := by rw [Lz.g_take _ _ _ (by omega)]; rfl
    have en : num ((hd n ++ rest).take k) 0 = n := by unfold num; rw [e0, Nat.zero_add, e1]; omega
    rw [Int.toNat_zero, en, hs]
    split
    · rfl
    · rw [if_pos (by rw [hl]; simp only []; omega)]
theorem x8_left {a b c : Int} (ha : 0 ≤ a ∧ a ≤ 255) (hb : 0 ≤ b ∧ b ≤ 255) (hc : 0 ≤ c ∧ c ≤ 255) (h : x8 a c = x8 b c) : a = b := by
  unfold x8 at h
  have := Crc.xor_right_cancel (Int.ofNat.inj h)
  omega
theorem x8_right {a b c : Int} (ha : 0 ≤ a ∧ a ≤ 255) (hb : 0 ≤ b ∧ b ≤ 255) (hc : 0 ≤ c ∧ c ≤ 255) (h : x8 c a = x8 c b) : a = b := by
  unfold x8 at h
  have := Crc.xor_left_cancel (Int.ofNat.inj h)
  omega
theorem g_set_same (z : List Int) (k : Nat) (y : Int) (h : k < z.length) : g (z.set k y) k = y := by simp [g, h]
theorem g_set_other (z : List Int) (k i : Nat) (y : Int) (h : k ≠ i) : g (z.set k y) i = g z i := by simp [g, h]
theorem le_set_ne : ∀ (z : List Int) (j : Nat) (y : Int), j < z.length → y ≠ g z j → le (z.set j y) ≠ le z
  | [], j, y, h, _ => by simp at h
  | x :: z, 0, y, _, hne => by
    have : y ≠ x := hne
    simp only [List.set_cons_zero, le]; omega
  | x :: z, j + 1, y, h, hne => by
    have ih := le_set_ne z j y (by simpa using h) (by simpa [g] using hne)
    simp only [List.set_cons_succ, le]; omega
theorem sum_turned (p : List Int) (j : Nat) (y : Int) (hp : Bytes p) (hy : 0 ≤ y ∧ y ≤ 255) (hj : j < p.length) (hne : y ≠ g p j) : more ent 0 (p.set j y) ≠ more ent 0 p := by
  have e1 : p = p.take j ++ g p j :: p.drop (j + 1) := by rw [Lz.g_lt _ _ hj, List.getElem_cons_drop, List.take_append_drop]
  have e2 : p.set j y = p.take j ++ y :: p.drop (j + 1) := by rw [List.set_eq_take_append_cons_drop, if_pos hj]
  have := Crc.more_turned (p.take j) (p.drop (j + 1)) (g p j) y (hp.g j) hy (fun h => hne h.symm)
  rw [← e1, ← e2] at this
  exact this
theorem plain_turned (n : Int) (p : List Int) (j : Nat) (y : Int) (hp : Bytes p) (hy : 0 ≤ y ∧ y ≤ 255) (hj : j < 4 + p.length) (hne : y ≠ g (by' 4 (more ent 0 p) ++ p) j) : plain ent n ((by' 4 (more ent 0 p) ++ p).set j y) = [] := by
  have hm := more_bd small_ent p
  have hle : le (by' 4 (more ent 0 p)) = (more ent 0 p : Int) := Cur.le_by 4 _ (by omega) (by show (more ent 0 p : Int) < 4294967296; omega)
  have hl4 := by_length 4 (more ent 0 p : Int)
  have hb4 : 4 = (by' 4 (more ent 0 p : Int)).length := hl4.symm
  generalize hB : by' 4 (more ent 0 p : Int) = B at *
  unfold plain
  by_cases h4 : j < 4
  · have e : (B ++ p).set j y = B.set j y ++ p := by rw [List.set_append_left _ _ (by omega)]
    have e1 : (B.set j y ++ p).take 4 = B.set j y := by rw [List.take_append_of_le_length (by simp; omega), List.take_of_length_le (by simp; omega)]
    have e2 : (B.set j y ++ p).drop 4 = p := by rw [List.drop_append, List.length_set, hl4, List.drop_eq_nil_of_le (by simp; omega)]; simp
    rw [e, e1, e2, ← hle]
    rw [Lz.g_append_left _ _ _ (by omega)] at hne
    rw [if_pos (le_set_ne B j y (by omega) hne)]
  · obtain ⟨i, rfl⟩ : ∃ i, j = 4 + i := ⟨j - 4, by omega⟩
    have e : (B ++ p).set (4 + i) y = B ++ p.set i y := by rw [List.set_append_right _ _ (by omega), hl4, Nat.add_sub_cancel_left]
    have e1 : (B ++ p.set i y).take 4 = B := by rw [List.take_append_of_le_length (by omega), List.take_of_length_le (by omega)]
    have e2 : (B ++ p.set i y).drop 4 = p.set i y := by rw [List.drop_append, hl4, List.drop_eq_nil_of_le (by omega)]; simp
    rw [g_app_r hl4] at hne
    rw [e, e1, e2, hle]
    rw [if_pos]
    intro h
    exact sum_turned p i y hp hy (by omega) hne (Int.ofNat.inj h).symm
/-- A frame of which a byte is turned into another one is none. -/
theorem turned_none {b : List Int} (h : b.length ≤ 128) (hb : Bytes b) (k : Nat) (y : Int) (hk : k < (put ent b).length) (hy : 0 ≤ y ∧ y ≤ 255) (hne : y ≠ g (put ent b) k) : (take ent ((put ent b).set k y) 0).2.2 = 2 := by
  obtain ⟨n, rest, e, hs, hn, hc⟩ := put_shape (T := ent) h
  rw [e] at hk hne ⊢
  have hln : (hd n ++ rest).length = 3 + rest.length := by rw [List.length_append, hd_length]
  have f0 : g (hd n ++ rest) 0 = n % 256 := rfl
  have f1 : g (hd n ++ rest) 1 = n / 256 % 256 := rfl
  have f2 : g (hd n ++ rest) 2 = 255 - x8 (n % 256) (n / 256 % 256) := rfl
  by_cases h3 : k < 3
  · have hsp : spot ((hd n ++ rest).set k y) 0 = none := by
      unfold spot
      rw [if_neg (by rw [List.length_set, hln]; omega)]
      rw [if_pos]
      refine .inr ?_
      rw [Int.toNat_zero, Nat.zero_add, Nat.zero_add]
      rcases (show k = 0 ∨ k = 1 ∨ k = 2 by omega) with rfl | rfl | rfl
      · rw [g_set_same _ _ _ hk, g_set_other _ _ _ _ (by omega), g_set_other _ _ _ _ (by omega), f1, f2]
        rw [f0] at hne
        intro h9
        exact hne (x8_left (a := y) (b := n % 256) (c := n / 256 % 256) hy (by omega) (by omega) (by omega))
      · rw [g_set_same _ _ _ hk, g_set_other _ _ _ _ (by omega), g_set_other _ _ _ _ (by omega), f0, f2]
        rw [f1] at hne
        intro h9
        exact hne (x8_right (a := y) (b := n / 256 % 256) (c := n % 256) hy (by omega) (by omega) (by omega))
      · rw [g_set_same _ _ _ hk, g_set_other _ _ _ _ (by omega), g_set_other _ _ _ _ (by omega), f0, f1]
        rw [f2] at hne
        exact hne
    unfold take; rw [hsp]
  · obtain ⟨j, rfl⟩ : ∃ j, k = 3 + j := ⟨k - 3, by omega⟩
    have e9 : (hd n ++ rest).set (3 + j) y = hd n ++ rest.set j y := by rw [List.set_append_right _ _ (by rw [hd_length]; omega), hd_length, Nat.add_sub_cancel_left]
    rw [g_app_r (hd_length n)] at hne
    rw [e9]
    have hsp := spot_frame hn hs [] (rest.set j y) (by simp)
    have hbd := body_frame (n := n) [] (rest.set j y) rest.length
    rw [List.nil_append] at hsp hbd
    have hbd2 : body (hd n ++ rest.set j y) 0 rest.length = rest.set j y := by
      rw [show (0 : Nat) = ([] : List Int).length from rfl, hbd, List.take_of_length_le (by simp)]
    have hsp2 : spot (hd n ++ rest.set j y) 0 = some (n, rest.length) := hsp
    unfold take
    rw [hsp2]
    simp only [Int.toNat_zero, hbd2]
    rcases hc with ⟨rfl, rfl⟩ | ⟨h0, p, rfl, h1, h2, hc⟩
    · simp at hln hk; omega
    · have hpb : Bytes p := by
        rcases hc with ⟨_, rfl⟩ | ⟨_, rfl⟩
        · exact hb
        · exact hb.pack
      rw [if_neg (by simp [by_length]), plain_turned n p j y hpb hy (by rw [hln, List.length_append, by_length] at hk; omega) hne, if_pos rfl]
end Go.Proofs.Ytmhgjilpgbkaaaa.Frm

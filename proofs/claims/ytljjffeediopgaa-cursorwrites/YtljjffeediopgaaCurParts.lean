/- The walk of the law CursorParts. -/
import Derived.Test.YtljjffeediopgaaCurStops
import Derived.Deep.RegionHeld3
namespace Go.Proofs.Ytljjffeediopgaa
set_option linter.unusedVariables false
open Go.RowKit Go.Maps
open Lz (g)
open Cur

/-- No more bytes than there are. -/
theorem pBytes (p L k q : Nat) (zs : List Int) (w : World) (h : RdP w p L (zs.drop k, 0)) (hq : k + q ≤ zs.length) (hz : zs.length ≤ 1000000) :
    Calls Try.prog 14 #[.pointer (some ⟨p, 0, none⟩), .int .i64 q] w fun r w' => (∃ ao c, r = .returned (.slice ao q c) ∧ Bs w' ao q ((zs.drop k).take q) ∧ (ao = none → c = 0)) ∧ RdP w' p L (zs.drop (k + q), 0) ∧ Fr (One p) w w' := by
  have := Bytes_any p L q (zs.drop k, 0) w h (by omega)
  have e1 : bytA q (zs.drop k, 0) = (zs.drop k).take q := by unfold bytA; rw [if_neg (by omega)]; unfold pa; rw [if_neg (by simp; omega)]; simp
  have e2 : bytS q (zs.drop k, 0) = (zs.drop (k + q), 0) := by unfold bytS; rw [if_neg (by omega)]; unfold ps; rw [if_neg (by simp; omega)]; simp
  have e3 : ((zs.drop k).take q).length = q := by simp; omega
  rw [e1, e2, e3] at this
  exact this

set_option maxRecDepth 100000 in
theorem End_none (p L : Nat) (e0 : Int) (w : World) (h : RdP w p L ([], e0)) :
    Calls Try.prog 21 #[.pointer (some ⟨p, 0, none⟩)] w fun r w' => r = .returned (.int .i64 e0) ∧ w' = w := by
  obtain ⟨ao, n, c, hd, hb, hnc, hc, hn, hnil, hL, hcan⟩ := h
  have h0 := hd.c0
  have h1 := hd.c1
  obtain rfl : n = 0 := hb.1.symm
  clear hd hb hcan hnil
  simp only at h1
  go_enter Try.func21, Try.ntmps21
  go_wp2
  go_ret
  exact ⟨rfl, rfl⟩

set_option maxRecDepth 100000 in
set_option maxHeartbeats 4000000 in
theorem parts_any (a0 : Option Addr) (len0 cap0 : Nat) (z0 : List Int) (a1 : Option Addr) (len1 cap1 : Nat) (Z : Nat → Int) (w : World) (w0 : RowB w a0 len0 cap0 z0) (f1 : IntsB w a1 len1 cap1 Z) :
    Calls Try.prog 8 #[.slice a0 len0 cap0, .slice a1 len1 cap1] w fun e w' => e = .returned (.bool true) ∧ Below w.heap.size w w' := by
  obtain ⟨hbs, hlc, hcm, hby, hnil⟩ := w0.bs (min len0 300) (by omega)
  have HBS : Hid (Bs w a0 (min len0 300) (z0.take (min len0 300))) := hbs
  have HN : Hid (a0 = none → cap0 = 0) := hnil
  have HO : Hid (IntsB w a1 len1 cap1 Z) := f1
  have hl2 := f1.1
  clear w0 f1 hbs hby hnil
  generalize z0.take (min len0 300) = zs at HBS
  go_enter Try.func8, Try.ntmps8
  go_wp2_with fail
  refine (shown_any w).mono ?_
  rintro r ws ⟨rfl, hbs0⟩
  have HB0 : Hid (Below w.heap.size w ws) := hbs0
  have HS0 : Hid (Bs ws a0 (min len0 300) zs) := HBS.out.below hbs0
  clear hbs0
  go_upto_if 15 with fail
  go_cut [0] from 16 to 17 (fun s0 wx => s0 = .slice a0 (min len0 300) cap0 ∧ wx = ws)
  case first =>
    by_cases h3 : 300 < len0
    · have e3 : min len0 300 = 300 := by omega
      go_wp2_with fail
      go_meet
      case rel => exact ⟨by rw [e3], rfl⟩
    · have e3 : min len0 300 = len0 := by omega
      go_wp2_with fail
      go_meet
      case rel => exact ⟨by rw [e3], rfl⟩
  case rest =>
  obtain ⟨rfl, rfl⟩ := hcut
  have hm2 : min len0 300 ≤ cap0 := by omega
  have hm1 : min len0 300 ≤ 300 := by omega
  generalize min len0 300 = m at *
  have HBS2 : Hid (Bs w a0 m zs) := HBS.out
  go_wp2_with fail
  refine (Read_any m cap0 a0 zs wc HS0.out hm2 HN.out (by omega)).mono ?_
  rintro r w1 ⟨p, rfl, hp, hR, hbel⟩
  have HB1 : Hid (Below w.heap.size w w1) := HB0.out.trans (hbel.mono HB0.out.size)
  have HP : Hid (w.heap.size ≤ p) := Nat.le_trans HB0.out.size hp
  obtain ⟨L, hL⟩ : ∃ L, L = w1.heap.size := ⟨_, rfl⟩
  rw [← hL] at hR
  have HR1 : Hid (RdP (w1.alloc (.cells #[] 5)) p L (zs, 0)) := hR.below ((Below.refl _ _).alloc (Nat.le_refl _) _)
  have HE1 : Hid ((w1.alloc (.cells #[] 5)).ownsRow L 5 1 (.slice (some ⟨w1.heap.size, 0, none⟩) 0 0) 0 (bv [])) := emptyB (w := w1) (by omega)
  have HB2 : Hid (Below w.heap.size w (w1.alloc (.cells #[] 5))) := HB1.out.alloc HB1.out.size _
  have HWL : Hid (w.heap.size ≤ L) := by rw [hL]; exact HB1.out.size
  have hz : zs.length = m := HS0.out.1
  clear hbel hR hp hL
  go_wp2
  go_loopw [7, 8] (fun s7 s8 wr => ∃ i k c : Nat, ∃ ao : Option Addr, s7 = .slice ao k c ∧ s8 = .int .i64 i ∧ i ≤ 400 ∧ k ≤ m ∧ RdP wr p L (zs.drop k, 0) ∧ wr.ownsRow L 5 1 (.slice ao k c) k (bv (zs.take k)) ∧ Below w.heap.size w wr) (fun _ s8 _ => 400 - (intOf s8).toNat)
  case atStart => exact ⟨0, 0, 0, _, rfl, rfl, by omega, by omega, HR1.out, HE1.out, HB2.out⟩
  case round =>
    obtain ⟨i, k, c, ao, rfl, rfl, hi, hk, hR, hO, hB⟩ := hrel
    have HRi : Hid (RdP wr p L (zs.drop k, 0)) := hR
    have HOi : Hid (wr.ownsRow L 5 1 (.slice ao k c) k (bv (zs.take k))) := hO
    have HBi : Hid (Below w.heap.size w wr) := hB
    clear hR hB hO HR1 HB2 HE1
    by_cases hlt : i < len1 ∧ i < 400
    · obtain ⟨hlt1, hlt2⟩ := hlt
      rcases HO.out.2 with h0 | ⟨b, off, rfl, hbl, hcs⟩
      · omega
      obtain ⟨e2, hn⟩ := hcs i hlt1
      have c1 : wr.cell? ⟨b, off + i, none⟩ = some (.int .i64 (Z i)) := (HBi.out.cell (by exact hbl)).trans e2
      have HCN : Hid (In64 (Z i)) := hn
      clear e2 hn hcs
      generalize Z i = nn at *
      have k1 := knd_nonneg nn 20 (by omega)
      have k2 := knd_lt nn 20 (by omega)
      go_wp2_with fail
      refine (kind_any nn 20 wr (by omega) (by omega) HCN.out).mono ?_
      rintro r wx ⟨rfl, rfl⟩
      generalize knd nn 20 = kd at *
      obtain ⟨kn, rfl⟩ : ∃ kn : Nat, kd = (kn : Int) := ⟨kd.toNat, by omega⟩
      go_wp2_with fail
      refine (rLeft_any p L (zs.drop k, 0) wx HRi.out).mono ?_
      rintro r wx ⟨rfl, rfl⟩
      have hlen : (zs.drop k).length = m - k := by simp; omega
      simp only [hlen]
      generalize hj : m - k = j at *
      have hcase : kn ≤ j ∨ j < kn := by omega
      rcases hcase with hle | hgt
      · have hq1 : kn ≤ j := hle
        have hi1 : ¬ (j : Int) < (kn : Int) := by omega
        have hi2 : (kn : Int) ≤ (j : Int) := by omega
        have hkq : k + kn ≤ zs.length := by omega
        go_wp2_with fail
        refine (pBytes p L k kn zs wx HRi.out hkq (by omega)).mono ?_
        rintro r w3 ⟨⟨ao3, c3, rfl, hb3, hn3⟩, hR3, hF3⟩
        have HR3 : Hid (RdP w3 p L (zs.drop (k + kn), 0)) := hR3
        have hb3' : Bs w3 ao3 kn ((zs.drop k).take kn) := hb3
        have hneP : ∀ kk, (Value.slice ao k c).ownBlock = some kk → ¬ One p kk := fun kk hkk hx => by
          obtain ⟨_, _, _, hd, _⟩ := HRi.out
          have := owns_ne_hd HOi.out hd (by decide)
          rw [hkk, show kk = p from hx] at this
          exact this rfl
        have ho3 : w3.ownsRow L 5 1 (.slice ao k c) k (bv (zs.take k)) := owns_fr HOi.out hF3 hneP
        have HB3 : Hid (Below w.heap.size w w3) := HBi.out.trans (hF3.one_below HBi.out.size HP.out)
        have hL3 : L ≤ w3.heap.size := by obtain ⟨_, _, _, _, _, _, _, _, _, hx, _⟩ := hR3; exact hx
        have hbd : k + kn ≤ 100000000 := by omega
        have HJ : Hid (m - k = j ∧ kn ≤ j) := ⟨hj, hq1⟩
        clear hR3 hF3 c1 hb3 k1 k2 hneP hj hq1
        go_wp2_with (first
          | (at_builtin
             refine wpList_append_bs _ (by rfl) (.tmp 52) (.tmp 53) (by rfl) L ao k c (zs.take k) (by rfl) ho3 ao3 kn c3 ((zs.drop k).take kn) (by rfl) hb3' hn3 hbd hL3 ?_
             intro ao4 c4 w4 ho4 hg4
             have HO4 : Hid (w4.ownsRow L 5 1 (.slice ao4 (k + kn) c4) (k + kn) (bv (zs.take (k + kn)))) := by rw [List.take_add]; exact ho4
             have HR4 : Hid (RdP w4 p L (zs.drop (k + kn), 0)) := HR3.out.above (Fr.of_grown (S := fun kk => (Value.slice ao k c).ownBlock = some kk) hg4 (fun kk h => h)) (fun kk h => (ho3.lt kk h).1) (fun h => by
               obtain ⟨_, _, _, hd, _⟩ := HR3.out
               exact owns_ne_hd ho3 hd (by decide) h)
             have HB4 : Hid (Below w.heap.size w w4) := HB3.out.grown hg4 HB3.out.size (fun kk h => Nat.le_trans HWL.out (ho3.lt kk h).1)
             clear ho4 hg4 ho3 hb3'))
        go_roundw
        case rel => exact ⟨i + 1, k + kn, c4, ao4, by go_num, by go_num, by omega, by have := HJ.out; omega, HR4.out, HO4.out, HB4.out⟩
        case measure => simp [intOf]; omega
      · have hq1 : j ≤ j := Nat.le_refl _
        have hi1 : (j : Int) < (kn : Int) := by omega
        have hi2 : ¬ (kn : Int) ≤ (j : Int) := by omega
        have hkq : k + j ≤ zs.length := by omega
        go_wp2_with fail
        refine (pBytes p L k j zs wx HRi.out hkq (by omega)).mono ?_
        rintro r w3 ⟨⟨ao3, c3, rfl, hb3, hn3⟩, hR3, hF3⟩
        have HR3 : Hid (RdP w3 p L (zs.drop (k + j), 0)) := hR3
        have hb3' : Bs w3 ao3 j ((zs.drop k).take j) := hb3
        have hneP : ∀ kk, (Value.slice ao k c).ownBlock = some kk → ¬ One p kk := fun kk hkk hx => by
          obtain ⟨_, _, _, hd, _⟩ := HRi.out
          have := owns_ne_hd HOi.out hd (by decide)
          rw [hkk, show kk = p from hx] at this
          exact this rfl
        have ho3 : w3.ownsRow L 5 1 (.slice ao k c) k (bv (zs.take k)) := owns_fr HOi.out hF3 hneP
        have HB3 : Hid (Below w.heap.size w w3) := HBi.out.trans (hF3.one_below HBi.out.size HP.out)
        have hL3 : L ≤ w3.heap.size := by obtain ⟨_, _, _, _, _, _, _, _, _, hx, _⟩ := hR3; exact hx
        have hbd : k + j ≤ 100000000 := by omega
        have HJ : Hid (m - k = j ∧ j ≤ j) := ⟨hj, hq1⟩
        clear hR3 hF3 c1 hb3 k1 k2 hneP hj hq1
        go_wp2_with (first
          | (at_builtin
             refine wpList_append_bs _ (by rfl) (.tmp 52) (.tmp 53) (by rfl) L ao k c (zs.take k) (by rfl) ho3 ao3 j c3 ((zs.drop k).take j) (by rfl) hb3' hn3 hbd hL3 ?_
             intro ao4 c4 w4 ho4 hg4
             have HO4 : Hid (w4.ownsRow L 5 1 (.slice ao4 (k + j) c4) (k + j) (bv (zs.take (k + j)))) := by rw [List.take_add]; exact ho4
             have HR4 : Hid (RdP w4 p L (zs.drop (k + j), 0)) := HR3.out.above (Fr.of_grown (S := fun kk => (Value.slice ao k c).ownBlock = some kk) hg4 (fun kk h => h)) (fun kk h => (ho3.lt kk h).1) (fun h => by
               obtain ⟨_, _, _, hd, _⟩ := HR3.out
               exact owns_ne_hd ho3 hd (by decide) h)
             have HB4 : Hid (Below w.heap.size w w4) := HB3.out.grown hg4 HB3.out.size (fun kk h => Nat.le_trans HWL.out (ho3.lt kk h).1)
             clear ho4 hg4 ho3 hb3'))
        go_roundw
        case rel => exact ⟨i + 1, k + j, c4, ao4, by go_num, by go_num, by omega, by have := HJ.out; omega, HR4.out, HO4.out, HB4.out⟩
        case measure => simp [intOf]; omega
    · by_cases h1 : i < len1
      · obtain rfl : i = 400 := by omega
        have hlen : (zs.drop k).length = m - k := by simp; omega
        have HL1 : Hid (∀ wz, RdP wz p L (zs.drop k, 0) → Calls Try.prog 18 #[.pointer (some ⟨p, 0, none⟩)] wz fun e w' => e = .returned (.int .i64 ((m - k : Nat) : Int)) ∧ w' = wz) := fun wz h => by
          have := rLeft_any p L (zs.drop k, 0) wz h
          simp only [hlen] at this
          exact this
        have s1 : ∀ nq, (convert 22 9 (.slice ao k c)).run Try.prog (wr.drewN nq) = .ok (.string (strOfNums (zs.take k))) (wr.drewN nq) := fun nq => str_any (w := wr.drewN nq) (bs_of_owns HOi.out (HS0.out.bytes.take k)) c
        have s2 : ∀ nq, (convert 22 9 (.slice a0 k cap0)).run Try.prog (wr.drewN nq) = .ok (.string (strOfNums (zs.take k))) (wr.drewN nq) := fun nq => str_any (w := wr.drewN nq) ((HBS2.out.below HBi.out).take k hk) cap0
        have hjk : ((k : Int) + ((m - k : Nat) : Int)) = (m : Int) := by omega
        have hkc : k ≤ cap0 := by omega
        by_cases hall : k = m
        · have HEnd : Hid (∀ wz, RdP wz p L (zs.drop k, 0) → Calls Try.prog 21 #[.pointer (some ⟨p, 0, none⟩)] wz fun r w' => r = .returned (.int .i64 0) ∧ w' = wz) := fun wz h => by
            rw [List.drop_eq_nil_of_le (by omega)] at h
            exact End_none p L 0 wz h
          subst hall
          rw [Nat.sub_self] at hjk HL1
          go_wp2_with fail
          go_quiet ((first
              | (go_at_call 18; refine Calls.quiet_of_same (HL1.out _ HRi.out))
              | (go_at_call 20; refine Calls.quiet_of_same (rErr_any p L (zs.drop k, 0) _ HRi.out))
              | (go_at_call 21; refine Calls.quiet_of_same (HEnd.out _ HRi.out))))
          go_wp2
          go_ret
          exact ⟨rfl, below_drewN HBi.out _⟩
        · have HEnd : Hid (∀ wz, RdP wz p L (zs.drop k, 0) → Calls Try.prog 21 #[.pointer (some ⟨p, 0, none⟩)] wz fun r w' => r = .returned (.int .i64 2) ∧ RdP w' p L ([], 2) ∧ Fr (One p) wz w') := fun wz h => by
            have := End_any p L (zs.drop k, 0) wz h
            have e5 : endS (zs.drop k, 0) = ([], 2) := by unfold endS; rw [if_pos (by simp only; omega)]; rfl
            rw [e5] at this
            exact this
          have HErr : Hid (∀ wz, RdP wz p L (zs.drop k, 0) → Calls Try.prog 20 #[.pointer (some ⟨p, 0, none⟩)] wz fun e w' => e = .returned (.int .i64 0) ∧ w' = wz) := fun wz h => rErr_any p L (zs.drop k, 0) wz h
          have hne : ¬ ((k : Int) = (m : Int)) := by omega
          have hne2 : decide ((k : Int) = (m : Int)) = false := decide_eq_false hne
          have T1 : Hid (∀ w', Fr (One p) wr.drew w' → (convert 22 9 (.slice ao k c)).run Try.prog w' = .ok (.string (strOfNums (zs.take k))) w') := fun w' hF => by
            obtain ⟨_, _, _, hd, _⟩ := HRi.out
            have hb9 := bs_of_owns HOi.out (HS0.out.bytes.take k)
            exact str_any (hb9.fr hF.undrew (hb9.ne hd (by decide))) c
          have T2 : Hid (∀ w', Fr (One p) wr.drew w' → (convert 22 9 (.slice a0 k cap0)).run Try.prog w' = .ok (.string (strOfNums (zs.take k))) w') := fun w' hF => by
            obtain ⟨_, _, _, hd, _⟩ := HRi.out
            have hb9 := (HBS2.out.below HBi.out).take k hk
            exact str_any (hb9.fr hF.undrew (hb9.ne hd (by decide))) cap0
          have t1 := T1.out wr.drew (Fr.refl _ _)
          have t2 := T2.out wr.drew (Fr.refl _ _)
          clear s1 s2
          generalize m - k = j at *
          have hwr : IntKind.i64.wrap ((k : Int) + (j : Int)) = (m : Int) := by rw [hjk]; exact IntWalk.i64_in _ (by omega)
          have hmm : ((m : Int) == (m : Int)) = true := beq_self_eq_true _
          have hkm : ((k : Int) == (m : Int)) = false := beq_eq_false_iff_ne.2 hne
          clear hjk
          go_wp2_with fail
          go_region_held3 (fun w' => (convert 22 9 (.slice ao k c)).run Try.prog w' = .ok (.string (strOfNums (zs.take k))) w' ∧ (convert 22 9 (.slice a0 k cap0)).run Try.prog w' = .ok (.string (strOfNums (zs.take k))) w') (go_keep)
            ((first
              | (go_at_call 18; refine (HL1.out _ ?_).mono ?_; (exact HRi.out); rintro e w' ⟨rfl, rfl⟩)
              | (go_at_call 20; refine (HErr.out _ ?_).mono ?_; (exact HRi.out); rintro e w' ⟨rfl, rfl⟩)
              | (go_at_call 21; refine (HEnd.out wr.drew ?_).mono ?_; (exact HRi.out); rintro e w' ⟨rfl, hR9, hF9⟩; have t3 := T1.out w' hF9; have t4 := T2.out w' hF9; have HF9 : Hid (Fr (One p) wr.drew w') := hF9; clear hR9 hF9)))
          go_wp2
          go_ret
          exact ⟨rfl, HBi.out.trans (HF9.out.undrew.one_below HBi.out.size HP.out)⟩
      · have hlen : (zs.drop k).length = m - k := by simp; omega
        have HL1 : Hid (∀ wz, RdP wz p L (zs.drop k, 0) → Calls Try.prog 18 #[.pointer (some ⟨p, 0, none⟩)] wz fun e w' => e = .returned (.int .i64 ((m - k : Nat) : Int)) ∧ w' = wz) := fun wz h => by
          have := rLeft_any p L (zs.drop k, 0) wz h
          simp only [hlen] at this
          exact this
        have s1 : ∀ nq, (convert 22 9 (.slice ao k c)).run Try.prog (wr.drewN nq) = .ok (.string (strOfNums (zs.take k))) (wr.drewN nq) := fun nq => str_any (w := wr.drewN nq) (bs_of_owns HOi.out (HS0.out.bytes.take k)) c
        have s2 : ∀ nq, (convert 22 9 (.slice a0 k cap0)).run Try.prog (wr.drewN nq) = .ok (.string (strOfNums (zs.take k))) (wr.drewN nq) := fun nq => str_any (w := wr.drewN nq) ((HBS2.out.below HBi.out).take k hk) cap0
        have hjk : ((k : Int) + ((m - k : Nat) : Int)) = (m : Int) := by omega
        have hkc : k ≤ cap0 := by omega
        by_cases hall : k = m
        · have HEnd : Hid (∀ wz, RdP wz p L (zs.drop k, 0) → Calls Try.prog 21 #[.pointer (some ⟨p, 0, none⟩)] wz fun r w' => r = .returned (.int .i64 0) ∧ w' = wz) := fun wz h => by
            rw [List.drop_eq_nil_of_le (by omega)] at h
            exact End_none p L 0 wz h
          subst hall
          rw [Nat.sub_self] at hjk HL1
          go_wp2_with fail
          go_quiet ((first
              | (go_at_call 18; refine Calls.quiet_of_same (HL1.out _ HRi.out))
              | (go_at_call 20; refine Calls.quiet_of_same (rErr_any p L (zs.drop k, 0) _ HRi.out))
              | (go_at_call 21; refine Calls.quiet_of_same (HEnd.out _ HRi.out))))
          go_wp2
          go_ret
          exact ⟨rfl, below_drewN HBi.out _⟩
        · have HEnd : Hid (∀ wz, RdP wz p L (zs.drop k, 0) → Calls Try.prog 21 #[.pointer (some ⟨p, 0, none⟩)] wz fun r w' => r = .returned (.int .i64 2) ∧ RdP w' p L ([], 2) ∧ Fr (One p) wz w') := fun wz h => by
            have := End_any p L (zs.drop k, 0) wz h
            have e5 : endS (zs.drop k, 0) = ([], 2) := by unfold endS; rw [if_pos (by simp only; omega)]; rfl
            rw [e5] at this
            exact this
          have HErr : Hid (∀ wz, RdP wz p L (zs.drop k, 0) → Calls Try.prog 20 #[.pointer (some ⟨p, 0, none⟩)] wz fun e w' => e = .returned (.int .i64 0) ∧ w' = wz) := fun wz h => rErr_any p L (zs.drop k, 0) wz h
          have hne : ¬ ((k : Int) = (m : Int)) := by omega
          have hne2 : decide ((k : Int) = (m : Int)) = false := decide_eq_false hne
          have T1 : Hid (∀ w', Fr (One p) wr.drew w' → (convert 22 9 (.slice ao k c)).run Try.prog w' = .ok (.string (strOfNums (zs.take k))) w') := fun w' hF => by
            obtain ⟨_, _, _, hd, _⟩ := HRi.out
            have hb9 := bs_of_owns HOi.out (HS0.out.bytes.take k)
            exact str_any (hb9.fr hF.undrew (hb9.ne hd (by decide))) c
          have T2 : Hid (∀ w', Fr (One p) wr.drew w' → (convert 22 9 (.slice a0 k cap0)).run Try.prog w' = .ok (.string (strOfNums (zs.take k))) w') := fun w' hF => by
            obtain ⟨_, _, _, hd, _⟩ := HRi.out
            have hb9 := (HBS2.out.below HBi.out).take k hk
            exact str_any (hb9.fr hF.undrew (hb9.ne hd (by decide))) cap0
          have t1 := T1.out wr.drew (Fr.refl _ _)
          have t2 := T2.out wr.drew (Fr.refl _ _)
          clear s1 s2
          generalize m - k = j at *
          have hwr : IntKind.i64.wrap ((k : Int) + (j : Int)) = (m : Int) := by rw [hjk]; exact IntWalk.i64_in _ (by omega)
          have hmm : ((m : Int) == (m : Int)) = true := beq_self_eq_true _
          have hkm : ((k : Int) == (m : Int)) = false := beq_eq_false_iff_ne.2 hne
          clear hjk
          go_wp2_with fail
          go_region_held3 (fun w' => (convert 22 9 (.slice ao k c)).run Try.prog w' = .ok (.string (strOfNums (zs.take k))) w' ∧ (convert 22 9 (.slice a0 k cap0)).run Try.prog w' = .ok (.string (strOfNums (zs.take k))) w') (go_keep)
            ((first
              | (go_at_call 18; refine (HL1.out _ ?_).mono ?_; (exact HRi.out); rintro e w' ⟨rfl, rfl⟩)
              | (go_at_call 20; refine (HErr.out _ ?_).mono ?_; (exact HRi.out); rintro e w' ⟨rfl, rfl⟩)
              | (go_at_call 21; refine (HEnd.out wr.drew ?_).mono ?_; (exact HRi.out); rintro e w' ⟨rfl, hR9, hF9⟩; have t3 := T1.out w' hF9; have t4 := T2.out w' hF9; have HF9 : Hid (Fr (One p) wr.drew w') := hF9; clear hR9 hF9)))
          go_wp2
          go_ret
          exact ⟨rfl, HBi.out.trans (HF9.out.undrew.one_below HBi.out.size HP.out)⟩
end Go.Proofs.Ytljjffeediopgaa

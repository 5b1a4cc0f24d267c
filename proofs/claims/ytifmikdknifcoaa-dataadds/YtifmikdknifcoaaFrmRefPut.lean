/- The walk of the reference's Put. -/
import Derived.Test.YtifmikdknifcoaaFrmJoin
import Derived.Test.YtifmikdknifcoaaCurRefW
namespace Go.Proofs.Ytifmikdknifcoaa
set_option linter.unusedVariables false
open Go.RowKit Go.Maps
open Lz (g pack unpack)
open Crc (ent more)
open Cur
open Frm

theorem WrR.new (w : World) (B : Nat) : WrR (w.alloc (.cells #[.slice none 0 0, .int .i64 0] 85)) w.heap.size B (.slice none 0 0) ([], 0) :=
  ⟨none, 0, 0, [], rfl, Hd.new _ _ _ _ _ _, World.ownsRow_nil _ _ _ _, Bytes.nil, fun _ => rfl, .inl rfl⟩
theorem WrR.base {w : World} {p B : Nat} {v : Value} {s : St} (h : WrR w p B v s) : ∀ k, v.ownBlock = some k → B ≤ k := by
  obtain ⟨ao, n, c, zs, rfl, _, h3, _⟩ := h
  intro k hk
  exact (h3.lt k hk).1
/-- Bytes below L stay where a writer whose row lies above turns. -/
theorem BsB.two {t : TypeId} {w w' : World} {L p n n' c' : Nat} {ao ao' : Option Addr} {zs : List Int} {v : Value} {e : Int} (h : BsB w L ao n zs) (hL : L ≤ w.heap.size) (hf : Fr (Two p v) w w') (hd : Hd t w p ao' n' c' e) (ht : t ≠ 5) (hv : ∀ k, v.ownBlock = some k → L ≤ k) : BsB w' L ao n zs :=
  h.fr hL hf fun a ha hlt hn hx => by
    rcases hx with hx | hx
    · exact (h.bs hL).ne hd ht a ha hn hx
    · have := hv _ hx; omega
theorem WrR.hd {w : World} {p B : Nat} {v : Value} {s : St} (h : WrR w p B v s) : ∃ ao n c, Hd 85 w p ao n c s.2 := by
  obtain ⟨ao, n, c, zs, rfl, h2, _⟩ := h
  exact ⟨ao, n, c, h2⟩
/-- What the reference's Put answers. -/
def RPuts (w w' : World) (zs : List Int) (r : Ending) : Prop :=
  (128 < zs.length ∧ r = .returned (.tuple #[.slice none 0 0, .int .i64 3]) ∧ w' = w) ∨
  (zs.length ≤ 128 ∧ ∃ ao' c', r = .returned (.tuple #[.slice ao' (put ent zs).length c', .int .i64 0]) ∧ Bs w' ao' (put ent zs).length (put ent zs) ∧ Below w.heap.size w w' ∧ (ao' = none → c' = 0))

set_option maxRecDepth 100000 in
set_option maxHeartbeats 2000000 in
theorem refPut_any (len cap : Nat) (ao : Option Addr) (zs : List Int) (w : World) (hB : Bs w ao len zs) (hc : len ≤ cap) (hnil : ao = none → cap = 0) (hl : len ≤ 1000) :
    Calls Try.prog 25 #[.slice ao len cap] w fun r w' => RPuts w w' zs r := by
  have hz := hB.1
  by_cases h1 : 128 < len
  · have H : Hid (RPuts w w zs (.returned (.tuple #[.slice none 0 0, .int .i64 3]))) := .inl ⟨by omega, rfl, rfl⟩
    clear hB hnil
    go_enter Try.func25, Try.ntmps25
    go_wp2
    go_ret2
    exact H.out
  obtain ⟨o1, ho1⟩ : ∃ o, o = Obj.cells #[.slice none 0 0, .int .i64 0] 85 := ⟨_, rfl⟩
  have hb1 : Below w.heap.size w (w.alloc o1) := (Below.refl _ _).alloc (Nat.le_refl _) _
  have HB1 := hide hb1
  have HO1 := hide ho1
  have HW1 : Hid (WrR (w.alloc o1) w.heap.size w.heap.size (.slice none 0 0) ([], 0)) := by rw [ho1]; exact WrR.new w _
  clear hb1 ho1
  by_cases h2 : len = 0
  · subst h2
    obtain rfl : zs = [] := List.eq_nil_of_length_eq_zero hz
    have HP := hide (put_nil ent)
    have hh : hd 0 = [0, 0, 255] := by decide
    have HH := hide hh
    clear hB hnil hz hh HW1
    go_enter Try.func25, Try.ntmps25
    go_wp2_with fail
    rw [← HO1.out]
    refine (refHead_any 0 _ (by omega)).mono ?_
    rintro r w2 ⟨rfl, hb2, hbel⟩
    rw [HH.out] at hb2
    have HX : Hid (RPuts w w2 [] (.returned (.tuple #[.slice (some ⟨(w.alloc o1).heap.size, 0, none⟩) 3 3, .int .i64 0]))) :=
      .inr ⟨by simp, _, 3, by rw [HP.out]; rfl, by rw [HP.out]; exact hb2, HB1.out.trans (hbel.mono HB1.out.size), fun h => by simp at h⟩
    clear hb2 hbel
    go_wp2
    go_ret2
    simpa using HX.out
  have HB := hide hB
  have HN := hide hnil
  have HZ := hide hz
  clear hB hnil hz
  go_enter Try.func25, Try.ntmps25
  go_wp2_with fail
  rw [← HO1.out]
  refine (refPack_any len cap ao zs _ (HB.out.below HB1.out) hc (by omega)).mono ?_
  rintro r w2 (⟨h4, _⟩ | ⟨_, ao2, n2, c2, rfl, ho2, hb2⟩)
  · omega
  have HB2 : Hid (Below w.heap.size w w2) := HB1.out.trans (hb2.mono HB1.out.size)
  have HW2 := hide (HW1.out.below hb2)
  have hl2 : (pack zs).length = n2 := by have := ho2.1; rw [bv_length] at this; omega
  have HL2 := hide hl2
  have hsh := Lz.pack_short zs
  have hn2 : n2 ≤ 1000 := by rw [HZ.out] at hsh; omega
  have HBP := hide (HB.out.bytes.pack)
  have HX2 : Hid (Bs w2 ao2 n2 (pack zs)) := bs_of_owns ho2 HBP.out
  have HN2 := hide (nil_cap ho2)
  clear ho2 hb2 hsh hl2 HB1
  by_cases h3 : n2 < len
  · have h3' : decide ((n2 : Int) < (len : Int)) = true := by simp; omega
    have HP := hide (put_packed ent HZ.out h2 HL2.out h3)
    go_wp2_with fail
    refine (refHead_any (n2 : Int) w2 (by omega)).mono ?_
    rintro r w3 ⟨rfl, hb3, hbel3⟩
    have HW3 := hide (HW2.out.below hbel3)
    have HB3 : Hid (Below w.heap.size w w3) := HB2.out.trans (hbel3.mono HB2.out.size)
    have HX3 : Hid (BsB w3 w3.heap.size ao2 n2 (pack zs)) := (HX2.out.below hbel3).toB
    have HD3 := hide hb3
    clear hb3 hbel3
    go_wp2_with fail
    refine (refWBytes_any w.heap.size w.heap.size 3 3 _ (.slice none 0 0) (hd (n2 : Int)) ([], 0) w3 HW3.out HB3.out.size HD3.out (fun h => by simp at h) (by simp)).mono ?_
    rintro r w4 ⟨rfl, v4, hW4, hF4, hL4⟩
    have HB4 : Hid (Below w.heap.size w w4) := HB3.out.trans (hF4.two_below HB3.out.size (Nat.le_refl _) (fun k hk => by simp [Value.ownBlock] at hk))
    have HW4 := hide hW4
    have HV4 : Hid (∀ k, v4.ownBlock = some k → w3.heap.size ≤ k) := fun k hk => by
      rcases hL4 k hk with h | h
      · simp [Value.ownBlock] at h
      · exact h
    have HX4 : Hid (BsB w4 w3.heap.size ao2 n2 (pack zs)) := by
      obtain ⟨_, _, _, hd3⟩ := HW3.out.hd
      exact HX3.out.two (Nat.le_refl _) hF4 hd3 (by decide) (fun k hk => by simp [Value.ownBlock] at hk)
    have hs4 : w3.heap.size ≤ w4.heap.size := hF4.size
    have HSS := hide hs4
    clear hW4 hF4 hL4 hs4
    have hl4 : (wByt (hd (n2 : Int)) ([], 0)).1.length = 3 := by unfold wByt; simp [hd_length]
    have HWW := hide (w_whole small_ent (n2 : Int) (pack zs))
    have hmb := more_bd small_ent (pack zs)
    generalize wByt (hd (n2 : Int)) ([], 0) = s4 at *
    go_wp2_with fail
    refine (refSum_any n2 c2 ao2 (pack zs) w4 (HX4.out.bs HSS.out) (by omega)).mono ?_
    rintro r wx ⟨rfl, rfl⟩
    go_wp2_with fail
    refine (refWNum_any w.heap.size w.heap.size v4 (more ent 0 (pack zs)) 4 s4 wx HW4.out HB4.out.size (by omega) (by omega) (by omega)).mono ?_
    rintro r w5 ⟨rfl, v5, hW5, hF5, hL5⟩
    have HB5 : Hid (Below w.heap.size w w5) := HB4.out.trans (hF5.two_below HB4.out.size (Nat.le_refl _) HW4.out.base)
    have HW5 := hide hW5
    have HX5 : Hid (BsB w5 w3.heap.size ao2 n2 (pack zs)) := by
      obtain ⟨_, _, _, hd3⟩ := HW4.out.hd
      exact HX4.out.two HSS.out hF5 hd3 (by decide) HV4.out
    have hs5 : w3.heap.size ≤ w5.heap.size := Nat.le_trans HSS.out hF5.size
    have HSS5 := hide hs5
    clear hW5 hF5 hL5 hs5
    have hl5 : (wNum (more ent 0 (pack zs)) 4 s4).1.length ≤ 7 := by
      unfold wNum; split
      · unfold wByt; split
        · rw [List.length_append, by_length]; simp; omega
        · omega
      · unfold fl; split
        · simp
        · omega
    generalize wNum (more ent 0 (pack zs)) 4 s4 = s5 at *
    go_wp2_with fail
    refine (refWBytes_any w.heap.size w.heap.size n2 c2 ao2 v5 (pack zs) s5 w5 HW5.out HB5.out.size (HX5.out.bs HSS5.out) HN2.out (by omega)).mono ?_
    rintro r w6 ⟨rfl, v6, hW6, hF6, hL6⟩
    have HB6 : Hid (Below w.heap.size w w6) := HB5.out.trans (hF6.two_below HB5.out.size (Nat.le_refl _) HW5.out.base)
    rw [HWW.out, ← HP.out] at hW6
    have HW6 := hide hW6
    have hlw : (put ent zs).length = 7 + n2 := by rw [HP.out, whole_length, HL2.out]
    clear hW6 hF6 hL6
    go_wp2_with fail
    refine (refDone_any w.heap.size w.heap.size v6 (put ent zs, 0) w6 HW6.out (by rw [hlw]; omega)).mono ?_
    rintro r w7 ⟨ao7, c7, rfl, hb7, _, _, hn7, hbel7⟩
    have HX : Hid (RPuts w w7 zs (.returned (.tuple #[.slice ao7 (put ent zs).length c7, .int .i64 0]))) := .inr ⟨by rw [HZ.out]; omega, ao7, c7, rfl, hb7, HB6.out.trans (hbel7.mono HB6.out.size), hn7⟩
    clear hb7 hbel7 hlw hn7
    generalize (put ent zs).length = ln at *
    go_wp2
    go_ret2
    exact HX.out
  · have h3' : decide ((n2 : Int) < (len : Int)) = false := by simp; omega
    have HP := hide (put_stored ent HZ.out h2 HL2.out h3)
    have hcm : (len : Int) + 32768 = 32768 + (len : Int) := by omega
    rw [hcm] at HP
    clear hcm
    go_wp2_with fail
    refine (refHead_any (32768 + (len : Int)) w2 (by omega)).mono ?_
    rintro r w3 ⟨rfl, hb3, hbel3⟩
    have HW3 := hide (HW2.out.below hbel3)
    have HB3 : Hid (Below w.heap.size w w3) := HB2.out.trans (hbel3.mono HB2.out.size)
    have HX3 : Hid (BsB w3 w3.heap.size ao len zs) := ((HB.out.below HB2.out).below hbel3).toB
    have HD3 := hide hb3
    clear hb3 hbel3
    go_wp2_with fail
    refine (refWBytes_any w.heap.size w.heap.size 3 3 _ (.slice none 0 0) (hd (32768 + (len : Int))) ([], 0) w3 HW3.out HB3.out.size HD3.out (fun h => by simp at h) (by simp)).mono ?_
    rintro r w4 ⟨rfl, v4, hW4, hF4, hL4⟩
    have HB4 : Hid (Below w.heap.size w w4) := HB3.out.trans (hF4.two_below HB3.out.size (Nat.le_refl _) (fun k hk => by simp [Value.ownBlock] at hk))
    have HW4 := hide hW4
    have HV4 : Hid (∀ k, v4.ownBlock = some k → w3.heap.size ≤ k) := fun k hk => by
      rcases hL4 k hk with h | h
      · simp [Value.ownBlock] at h
      · exact h
    have HX4 : Hid (BsB w4 w3.heap.size ao len zs) := by
      obtain ⟨_, _, _, hd3⟩ := HW3.out.hd
      exact HX3.out.two (Nat.le_refl _) hF4 hd3 (by decide) (fun k hk => by simp [Value.ownBlock] at hk)
    have hs4 : w3.heap.size ≤ w4.heap.size := hF4.size
    have HSS := hide hs4
    clear hW4 hF4 hL4 hs4
    have hl4 : (wByt (hd (32768 + (len : Int))) ([], 0)).1.length = 3 := by unfold wByt; simp [hd_length]
    have HWW := hide (w_whole small_ent (32768 + (len : Int)) zs)
    have hmb := more_bd small_ent zs
    generalize wByt (hd (32768 + (len : Int))) ([], 0) = s4 at *
    go_wp2_with fail
    refine (refSum_any len cap ao zs w4 (HX4.out.bs HSS.out) (by omega)).mono ?_
    rintro r wx ⟨rfl, rfl⟩
    go_wp2_with fail
    refine (refWNum_any w.heap.size w.heap.size v4 (more ent 0 zs) 4 s4 wx HW4.out HB4.out.size (by omega) (by omega) (by omega)).mono ?_
    rintro r w5 ⟨rfl, v5, hW5, hF5, hL5⟩
    have HB5 : Hid (Below w.heap.size w w5) := HB4.out.trans (hF5.two_below HB4.out.size (Nat.le_refl _) HW4.out.base)
    have HW5 := hide hW5
    have HX5 : Hid (BsB w5 w3.heap.size ao len zs) := by
      obtain ⟨_, _, _, hd3⟩ := HW4.out.hd
      exact HX4.out.two HSS.out hF5 hd3 (by decide) HV4.out
    have hs5 : w3.heap.size ≤ w5.heap.size := Nat.le_trans HSS.out hF5.size
    have HSS5 := hide hs5
    clear hW5 hF5 hL5 hs5
    have hl5 : (wNum (more ent 0 zs) 4 s4).1.length ≤ 7 := by
      unfold wNum; split
      · unfold wByt; split
        · rw [List.length_append, by_length]; simp; omega
        · omega
      · unfold fl; split
        · simp
        · omega
    generalize wNum (more ent 0 zs) 4 s4 = s5 at *
    go_wp2_with fail
    refine (refWBytes_any w.heap.size w.heap.size len cap ao v5 zs s5 w5 HW5.out HB5.out.size (HX5.out.bs HSS5.out) HN.out (by omega)).mono ?_
    rintro r w6 ⟨rfl, v6, hW6, hF6, hL6⟩
    have HB6 : Hid (Below w.heap.size w w6) := HB5.out.trans (hF6.two_below HB5.out.size (Nat.le_refl _) HW5.out.base)
    rw [HWW.out, ← HP.out] at hW6
    have HW6 := hide hW6
    have hlw : (put ent zs).length = 7 + len := by rw [HP.out, whole_length, HZ.out]
    clear hW6 hF6 hL6
    go_wp2_with fail
    refine (refDone_any w.heap.size w.heap.size v6 (put ent zs, 0) w6 HW6.out (by rw [hlw]; omega)).mono ?_
    rintro r w7 ⟨ao7, c7, rfl, hb7, _, _, hn7, hbel7⟩
    have HX : Hid (RPuts w w7 zs (.returned (.tuple #[.slice ao7 (put ent zs).length c7, .int .i64 0]))) := .inr ⟨by rw [HZ.out]; omega, ao7, c7, rfl, hb7, HB6.out.trans (hbel7.mono HB6.out.size), hn7⟩
    clear hb7 hbel7 hlw hn7
    generalize (put ent zs).length = ln at *
    go_wp2
    go_ret2
    exact HX.out
end Go.Proofs.Ytifmikdknifcoaa

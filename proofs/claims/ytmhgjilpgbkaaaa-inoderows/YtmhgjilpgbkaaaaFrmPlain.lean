/- The walks of plain, and of the two functions that are handed to pass. -/
import Derived.Test.YtmhgjilpgbkaaaaFrmPut
namespace Go.Proofs.Ytmhgjilpgbkaaaa
set_option linter.unusedVariables false
open Go.RowKit Go.Maps
open Lz (g pack unpack)
open Crc (ent more)
open Cur
open Frm

/-- Bytes in blocks that are new since w, or none. -/
structure Fresh (w w' : World) (ao : Option Addr) (n c : Nat) (zs : List Int) : Prop where
  bs : Bs w' ao n zs
  cap : n ≤ c
  max : c ≤ 9223372036854775807
  nil : ao = none → c = 0
  bel : Below w.heap.size w w'
  new : ∀ a, ao = some a → w.heap.size ≤ a.block
theorem New.fresh {w w' : World} {ao : Option Addr} {n c : Nat} {zs : List Int} (h : New w w' ao n c zs) : Fresh w w' ao n c zs := ⟨h.bs, h.cap, h.max, h.nil, h.bel, fun a ha => (h.own a ha).1⟩
theorem Fresh.none {w w' : World} (h : Below w.heap.size w w') : Fresh w w' none 0 0 [] := ⟨⟨rfl, fun i => by simp [g], .inl rfl⟩, Nat.le_refl _, by omega, fun _ => rfl, h, fun a h => by simp at h⟩
theorem Fresh.from {w0 w w' : World} {ao : Option Addr} {n c : Nat} {zs : List Int} (h : Fresh w w' ao n c zs) (hb : Below w0.heap.size w0 w) : Fresh w0 w' ao n c zs :=
  ⟨h.bs, h.cap, h.max, h.nil, hb.trans (h.bel.mono hb.size), fun a ha => Nat.le_trans hb.size (h.new a ha)⟩
theorem Fresh.on {w w' w2 : World} {ao : Option Addr} {n c : Nat} {zs : List Int} (h : Fresh w w' ao n c zs) (hb : Below w'.heap.size w' w2) : Fresh w w2 ao n c zs :=
  ⟨h.bs.below hb, h.cap, h.max, h.nil, h.bel.trans (hb.mono h.bel.size), h.new⟩
/-- What a call that tells bytes answers. -/
def Tells (w w' : World) (zs : List Int) (r : Ending) : Prop := ∃ ao c, r = .returned (.slice ao zs.length c) ∧ Fresh w w' ao zs.length c zs
theorem up_err (most : Int) : ∀ (f : Nat) (b out : List Int), (Lz.upF most f b out).2 ≠ 0 → (Lz.upF most f b out).1 = []
  | 0, b, out, h => by simp [Lz.upF] at h
  | f + 1, b, out, h => by
    rw [Lz.upF_succ] at h ⊢
    split at h
    · simp at h
    · rename_i h1; rw [if_neg h1]
      split at h
      · rename_i h2; rw [if_pos h2]
        split at h
        · rename_i h3; rw [if_pos h3]
        · rename_i h3; rw [if_neg h3]
          split at h
          · rename_i h4; rw [if_pos h4]
          · rename_i h4; rw [if_neg h4]; exact up_err most f _ _ h
      · rename_i h2; rw [if_neg h2]
        split at h
        · rename_i h3; rw [if_pos h3]
        · rename_i h3; rw [if_neg h3]
          split at h
          · rename_i h4; rw [if_pos h4]
          · rename_i h4; rw [if_neg h4]; exact up_err most f _ _ h
theorem unpack_err (b : List Int) (most : Int) (h : (unpack b most).2 ≠ 0) : (unpack b most).1 = [] := by
  unfold Lz.unpack at h ⊢
  split
  · rfl
  · rename_i h1; rw [if_neg h1] at h; exact up_err most _ _ _ h
theorem num4 (zs : List Int) (h : 4 ≤ zs.length) : numA 4 (zs, 0) = le (zs.take 4) ∧ numS 4 (zs, 0) = (zs.drop 4, 0) := by
  unfold numA numS
  rw [if_pos (by omega), if_pos (by omega)]
  unfold pa ps
  rw [if_neg (by show ¬ zs.length < 4; omega), if_neg (by show ¬ zs.length < 4; omega)]
  exact ⟨rfl, rfl⟩
theorem byt_all (zs : List Int) : bytA zs.length (zs, 0) = zs ∧ bytS zs.length (zs, 0) = ([], 0) := by
  unfold bytA bytS
  rw [if_neg (by omega), if_neg (by omega)]
  unfold pa ps
  simp

set_option maxRecDepth 100000 in
set_option maxHeartbeats 1000000 in
theorem plain_any (tb len cap : Nat) (n : Int) (T : Nat → Nat) (ao : Option Addr) (zs : List Int) (w : World) (hT : Tb w tb T) (htb : tb < w.heap.size) (hS : Small T) (hn : 0 ≤ n ∧ n ≤ 65535) (hB : Bs w ao len zs) (hc : len ≤ cap) (hnil : ao = none → cap = 0) (h4 : 4 ≤ len) (hl : len ≤ 1000) :
    Calls Try.prog 90 #[.pointer (some ⟨tb, 0, none⟩), .int .i64 n, .slice ao len cap] w fun r w' => Tells w w' (plain T n zs) r := by
  have hz := hB.1
  obtain ⟨a1, a2⟩ := num4 zs (by omega)
  obtain ⟨b1, b2⟩ := byt_all (zs.drop 4)
  have hpl : (zs.drop 4).length = len - 4 := by simp [hz]
  have HA : Hid (numA 4 (zs, 0) = le (zs.take 4) ∧ numS 4 (zs, 0) = (zs.drop 4, 0)) := ⟨a1, a2⟩
  have HP : Hid (plain T n zs = if le (zs.take 4) ≠ (more T 0 (zs.drop 4) : Int) then [] else if 32768 ≤ n then zs.drop 4 else (unpack (zs.drop 4) 128).1) := rfl
  have hble := le_bound (hB.bytes.take 4)
  have hble2 : 0 ≤ le (zs.take 4) ∧ le (zs.take 4) < 4294967296 := by
    have e : (zs.take 4).length = 4 := by simp; omega
    rw [e] at hble; exact hble
  clear hble a1 a2
  generalize zs.drop 4 = py at *
  generalize le (zs.take 4) = sm at *
  obtain ⟨m, hpm⟩ : ∃ m, py.length = m := ⟨_, rfl⟩
  rw [hpm] at b1 b2 hpl
  have HPM : Hid (py.length = m) := hpm
  have HB' : Hid (bytA (m : Int) (py, 0) = py ∧ bytS (m : Int) (py, 0) = ([], 0)) := ⟨b1, b2⟩
  have hm := more_bd hS py
  have HT : Hid (Tb w tb T) := hT
  have HB : Hid (Bs w ao len zs) := hB
  have HN : Hid (ao = none → cap = 0) := hnil
  have HS : Hid (Small T) := hS
  have hm9 : m ≤ 1000 := by omega
  clear hT hB hnil hS b1 b2 hpm hz hpl
  go_enter Try.func90, Try.ntmps90
  go_wp2_with fail
  refine (Read_any len cap ao zs w HB.out hc HN.out (by omega)).mono ?_
  rintro r w1 ⟨p, rfl, hp, hR1, hb1⟩
  have HB1 : Hid (Below w.heap.size w w1) := hb1
  have HP1 : Hid (w.heap.size ≤ p) := hp
  have HR1 : Hid (RdP w1 p w1.heap.size (zs, 0)) := hR1
  clear hb1 hp hR1
  generalize hL : w1.heap.size = L at HR1
  have HL : Hid (w1.heap.size = L) := hL
  clear hL
  go_wp2_with fail
  refine (Num_any p L 4 (zs, 0) w1 HR1.out (by omega)).mono ?_
  rintro r w2 ⟨rfl, hR2, hF2⟩
  rw [HA.out.1]
  rw [HA.out.2] at hR2
  have HB2 : Hid (Below w.heap.size w w2) := HB1.out.trans (hF2.one_below HB1.out.size HP1.out)
  have HR2 : Hid (RdP w2 p L (py, 0)) := hR2
  clear hR2 hF2
  go_wp2_with fail
  refine (rLeft_any p L (py, 0) w2 HR2.out).mono ?_
  rintro r wx ⟨rfl, rfl⟩
  rw [HPM.out]
  go_wp2_with fail
  refine (Bytes_full p L (m : Int) (py, 0) wx HR2.out (by omega)).mono ?_
  rintro r w3 ⟨⟨ao3, c3, rfl, hb3, hn3, hc3, hm3, hnew3⟩, hR3, hF3⟩
  rw [HB'.out.1, HPM.out] at hb3 hc3
  rw [HB'.out.1, HPM.out]
  have HF : Hid (Fresh w w3 ao3 m c3 py) := ⟨hb3, hc3, hm3, hn3, HB2.out.trans (hF3.one_below HB2.out.size HP1.out), fun a ha => Nat.le_trans HB2.out.size (hnew3 a ha)⟩
  clear hb3 hn3 hc3 hm3 hnew3 hR3 hF3
  go_wp2_with fail
  refine (Sum_any tb m c3 T ao3 py w3 (HT.out.below HF.out.bel htb) HS.out HF.out.bs (by omega)).mono ?_
  rintro r wy ⟨rfl, rfl⟩
  obtain ⟨mm, hmm⟩ : ∃ mm, more T 0 py = mm := ⟨_, rfl⟩
  rw [hmm]
  rw [hmm] at hm
  have HMM : Hid (more T 0 py = mm) := hmm
  clear hmm
  by_cases h1 : sm = (mm : Int)
  · subst h1
    have hq : ((mm : Int) == (mm : Int)) = true := by simp
    by_cases h2 : 32768 ≤ n
    · have e : plain T n zs = py := by rw [HP.out, HMM.out, if_neg (by simp), if_pos h2]
      have HX : Hid (Tells w wy (plain T n zs) (.returned (.slice ao3 m c3))) := by
        rw [e]; exact ⟨ao3, c3, by rw [HPM.out], by rw [HPM.out]; exact HF.out⟩
      clear e
      go_wp2_with fail
      go_ret
      exact HX.out
    · have e : plain T n zs = (unpack py 128).1 := by rw [HP.out, HMM.out, if_neg (by simp), if_neg h2]
      have HE : Hid (plain T n zs = (unpack py 128).1) := e
      clear e
      go_wp2_with fail
      refine (Unpack_any m c3 128 ao3 py wy HF.out.bs HF.out.cap (by omega) (by omega)).mono ?_
      rintro r w4 ⟨ao4, n4, c4, rfl, ho4, hb4⟩
      have hn4 : (unpack py 128).1.length = n4 := by have := ho4.1; rw [bv_length] at this; omega
      have HX : Hid (Tells w w4 (plain T n zs) (.returned (.slice ao4 n4 c4))) := by
        rw [HE.out]
        refine ⟨ao4, c4, by rw [hn4], ?_⟩
        rw [hn4]
        exact (New.of_owns ho4 (HF.out.bs.bytes.unpack 128) (Nat.le_refl _) hb4).fresh.from HF.out.bel
      have HB4 : Hid (Below wy.heap.size wy w4) := hb4
      have HU : Hid ((unpack py 128).2 ≠ 0 → plain T n zs = []) := fun h => by rw [HE.out]; exact unpack_err _ _ h
      clear ho4 hb4
      by_cases h5 : (unpack py 128).2 = 0
      · rw [h5]
        go_wp2_with fail
        go_ret
        exact HX.out
      · have HX2 : Hid (Tells w w4 (plain T n zs) (.returned (.slice none 0 0))) := by
          rw [HU.out h5]; exact ⟨none, 0, rfl, Fresh.none (HF.out.bel.trans (HB4.out.mono HF.out.bel.size))⟩
        generalize (unpack py 128).2 = uu at *
        go_wp2_with fail
        go_ret
        exact HX2.out
  · have e : plain T n zs = [] := by rw [HP.out, HMM.out, if_pos h1]
    have HX : Hid (Tells w wy (plain T n zs) (.returned (.slice none 0 0))) := by
      rw [e]; exact ⟨none, 0, rfl, Fresh.none HF.out.bel⟩
    clear e
    have hq : (sm == (mm : Int)) = false := by simp; exact h1
    go_wp2_with fail
    go_ret
    exact HX.out
end Go.Proofs.Ytmhgjilpgbkaaaa

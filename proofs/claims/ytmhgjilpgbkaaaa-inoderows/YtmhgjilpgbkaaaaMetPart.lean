/- The walk of the reader's part: what the frame of a ref has of the bytes from there on. -/
import Derived.Test.YtmhgjilpgbkaaaaMetMiss
namespace Go.Proofs.Ytmhgjilpgbkaaaa
set_option linter.unusedVariables false
open Go.RowKit Go.Maps
open Lz (g)
open Crc (ent)
open Frm Mtr

/-- What part answers. -/
def Parts (w w' : World) (p tb N : Nat) (O : Nat → Prop) (T : Nat → Nat) (X : List Int) (ref : Int) (n : Nat) (r : Ending) : Prop :=
  ∃ O', RdM w' p O' tb T X (N + 1) ∧ Fr O w w' ∧ Gr O O' w ∧
    ((pt T X ref n = none ∧ r = .returned (.tuple #[.slice none 0 0, .int .i64 0, .bool false])) ∨
     ∃ z nx m ao c, pt T X ref n = some (z, nx) ∧ z.length = m ∧ r = .returned (.tuple #[.slice ao m c, .int .i64 nx, .bool true]) ∧ Bs w' ao m z ∧ (ao = none → c = 0) ∧ ∀ a, ao = some a → O' a.block)
theorem Parts.none' {w w' w1 : World} {p tb N : Nat} {O O' : Nat → Prop} {T : Nat → Nat} {X : List Int} {ref : Int} {n : Nat} (h : pt T X ref n = none) (h1 : RdM w1 p O' tb T X (N + 1)) (h2 : Fr O w w1) (h3 : Gr O O' w) (hb : Below w1.heap.size w1 w') :
    Parts w w' p tb N O T X ref n (.returned (.tuple #[.slice none 0 0, .int .i64 0, .bool false])) :=
  ⟨O', h1.below hb, h2.then (Fr.of_below hb), h3, .inl ⟨h, rfl⟩⟩

set_option maxRecDepth 100000 in
set_option maxHeartbeats 1000000 in
theorem part_any (p tb N : Nat) (O : Nat → Prop) (T : Nat → Nat) (X : List Int) (ref : Int) (n : Nat) (w : World) (h : RdM w p O tb T X N) (hT : Tb w tb T) (htb : tb < w.heap.size) (hOt : ¬ O tb) (hS : Small T) (hby : Bytes X)
    (hq : 0 ≤ ref ∧ ref ≤ 9223372036854775807) (hX : X.length ≤ 1000000) (hN : N ≤ 1000000000) (hn : 1 ≤ n ∧ n ≤ 1000000) :
    Calls Try.prog 62 #[.pointer (some ⟨p, 0, none⟩), .int .i64 ref, .int .i64 n] w fun r w' => Parts w w' p tb N O T X ref n r := by
  have HK := hide (rTake_any p tb N O T X (ref / 256) w h hT htb hOt hS (by omega) hX hN)
  have hlen := Mtr.take_len T hby (ref / 256)
  have HNx := hide (fun (h : (take T X (ref / 256)).2.2 = 0) => Mtr.take_next h)
  have HPt : Hid (pt T X ref n = if (take T X (ref / 256)).2.2 ≠ 0 ∨ ((take T X (ref / 256)).1.length : Int) ≤ ref % 256 then none
  else some (((take T X (ref / 256)).1.drop (ref % 256).toNat).take n,
    if ref % 256 + (min n ((take T X (ref / 256)).1.length - (ref % 256).toNat) : Nat) = 128 then 256 * (take T X (ref / 256)).2.1 else 256 * (ref / 256) + (ref % 256 + (min n ((take T X (ref / 256)).1.length - (ref % 256).toNat) : Nat)))) := rfl
  obtain ⟨u, hu⟩ : ∃ u : Nat, ref % 256 = u := ⟨(ref % 256).toNat, by omega⟩
  obtain ⟨pl, hpl⟩ : ∃ pl : Nat, ref / 256 = pl := ⟨(ref / 256).toNat, by omega⟩
  have hu2 : u < 256 := by omega
  have hp2 : (pl : Int) ≤ 9223372036854775807 := by omega
  have HS' := hide (split_any ref w hq)
  rw [hu, hpl, Int.toNat_natCast] at HPt
  rw [hpl] at HK hlen HNx
  rw [hu, hpl] at HS'
  unfold Gets En at HK
  generalize take T X (pl : Int) = t at *
  obtain ⟨bs, nx, er⟩ := t
  simp only at HPt HK hlen HNx
  clear h hT hS hOt hby hu hpl
  go_enter Try.func62, Try.ntmps62
  go_wp2_with fail
  refine HS'.out.mono ?_
  rintro r wx ⟨rfl, hwx⟩
  obtain rfl := hwx.symm
  clear HS'
  go_wp2_with fail
  refine HK.out.mono ?_
  rintro r w1 ⟨O', hR, hF, hG, ⟨he, rfl⟩ | ⟨he, m, ao, k, c, rfl, hE⟩⟩
  · -- no frame
    have HX := hide (fun w' hb => Parts.none' (w' := w') (by rw [HPt.out, if_pos (.inl he)]) hR hF hG hb)
    clear hR hF hG HK
    unfold zb
    go_wp2
    go_ret3
    exact HX.out _ ((Below.refl _ _).alloc (Nat.le_refl _) _)
  · obtain ⟨ao', n', c', hv, _, hB, hcap, hmax, hnil, hown⟩ := hE
    obtain ⟨⟨rfl, rfl, rfl⟩, _⟩ : (ao = ao' ∧ k = n' ∧ c = c') ∧ nx = nx := by simpa using hv
    have hk : bs.length = k := hB.1
    obtain ⟨n1, n2, n3⟩ := HNx.out he
    by_cases hkl : k ≤ u
    · have HX := hide (fun w' hb => Parts.none' (w' := w') (by rw [HPt.out, if_pos (.inr (by omega))]) hR hF hG hb)
      have hi : (k : Int) ≤ (u : Int) := by omega
      clear hR hF hG HK hB hown
      go_wp2
      go_ret3
      exact HX.out _ ((Below.refl _ _).alloc (Nat.le_refl _) _)
    · obtain ⟨b, off, rfl⟩ : ∃ b off, ao = some ⟨b, off, none⟩ := by
        rcases hB.2.2 with h | ⟨b, off, h, _⟩
        · omega
        · exact ⟨b, off, h⟩
      have hi1 : (u : Int) < (k : Int) := by omega
      have hi2 : decide ((k : Int) ≤ (u : Int)) = false := by simp; omega
      have hi3 : (u : Int) ≤ (k : Int) := by omega
      have hi4 : ¬ c = u := by omega
      obtain ⟨mm, hmm⟩ : ∃ mm, min n (k - u) = mm := ⟨_, rfl⟩
      have hm1 : 1 ≤ mm := by omega
      have hm2 : mm ≤ k - u := by omega
      have hm3 : mm ≤ n := by omega
      have hBp : Bs w1 (some ⟨b, off + u, none⟩) mm ((bs.drop u).take n) := by
        rcases hB.2.2 with h | ⟨b', off', h, hlt, hs⟩
        · omega
        · obtain ⟨rfl, rfl⟩ : b = b' ∧ off = off' := by simpa using h
          refine ⟨by simp; omega, bytes_take (bytes_drop hB.2.1 u) n, .inr ⟨b, off + u, rfl, hlt, fun i hi => ?_⟩⟩
          simp at hi
          rw [Lz.g_take _ _ _ (by omega), Lz.g_drop, Nat.add_assoc]
          exact hs (u + i) (by omega)
      have HX := hide (fun (w' : World) (r : Ending) (cc : Nat) (hb : Below w1.heap.size w1 w') (hr : r = .returned (.tuple #[.slice (some ⟨b, off + u, none⟩) mm cc, .int .i64 (if (u : Int) + (mm : Nat) = 128 then 256 * nx else 256 * (pl : Int) + (u + (mm : Nat))), .bool true])) =>
        show Parts w w' p tb N O T X ref n r from ⟨O', hR.below hb, hF.then (Fr.of_below hb), hG, .inr ⟨(bs.drop u).take n, _, mm, _, cc, by rw [HPt.out, if_neg (by simp [he]; omega), hk, hmm], hBp.1, hr, hBp.below hb, fun h => by simp at h, fun a ha => by cases ha; exact (hown _ rfl (by omega)).1⟩⟩)
      clear hR hF hG HK hB hown hBp HPt HNx hnil
      have hw1a : Below w1.heap.size w1 (w1.alloc (.cells #[.slice (some ⟨b, off, none⟩) k c, .int .i64 nx] 104)) := (Below.refl _ _).alloc (Nat.le_refl _) _
      have HB1 := hide hw1a
      clear hw1a
      by_cases hnk : n ≤ k - u
      · obtain rfl : mm = n := by omega
        have hi5 : (mm : Int) ≤ (k : Int) - (u : Int) := by omega
        have hi6 : (mm : Int) ≤ ((k - u : Nat) : Int) := by omega
        by_cases h128 : (u : Int) + (mm : Int) = 128
        · go_wp2_with fail
          refine (refOf_any nx 0 _ (by omega) (by omega)).mono ?_
          rintro r wy ⟨rfl, hwy⟩
          obtain rfl := hwy.symm
          go_wp2
          go_ret3
          refine HX.out _ _ (c - u) HB1.out ?_
          rw [if_pos h128]; rfl
        · go_wp2_with fail
          refine (refOf_any pl _ _ (by omega) (by omega)).mono ?_
          rintro r wy ⟨rfl, hwy⟩
          obtain rfl := hwy.symm
          go_wp2
          go_ret3
          refine HX.out _ _ (c - u) HB1.out ?_
          rw [if_neg h128]; rfl
      · have hmk : mm = k - u := by omega
        have hi5 : (k : Int) - (u : Int) < (n : Int) := by omega
        have hi6 : ((k - u : Nat) : Int) < (n : Int) := by omega
        have hi7 : (mm : Int) < (n : Int) := by omega
        have hi8 : decide ((n : Int) ≤ (mm : Int)) = false := by simp; omega
        by_cases h128 : (u : Int) + (mm : Int) = 128
        · subst hmk
          have h128' : (u : Int) + ((k : Int) - (u : Int)) = 128 := by omega
          go_wp2_with fail
          refine (refOf_any nx 0 _ (by omega) (by omega)).mono ?_
          rintro r wy ⟨rfl, hwy⟩
          obtain rfl := hwy.symm
          go_wp2
          go_ret3
          refine HX.out _ _ (c - u) HB1.out ?_
          rw [if_pos h128]; rfl
        · subst hmk
          have h128' : ¬ (u : Int) + ((k : Int) - (u : Int)) = 128 := by omega
          go_wp2_with fail
          refine (refOf_any pl _ _ (by omega) (by omega)).mono ?_
          rintro r wy ⟨rfl, hwy⟩
          obtain rfl := hwy.symm
          go_wp2
          go_ret3
          refine HX.out _ _ (c - u) HB1.out ?_
          rw [if_neg h128]; rfl
end Go.Proofs.Ytmhgjilpgbkaaaa

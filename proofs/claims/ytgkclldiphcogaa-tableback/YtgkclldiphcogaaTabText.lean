/- Layer 11: the reader of a row as a state; the text at a ref, by the program. -/
import Derived.Test.YtgkclldiphcogaaTabRead
namespace Go.Proofs.Ytgkclldiphcogaa
set_option linter.unusedVariables false
open Go.RowKit Go.Maps
open Lz (g)
open Crc (ent)
open Frm Mtr

namespace Mtr
/-- What a read of a row answers; P: where the bytes lie. -/
def RdO (X : List Int) (ref : Int) (n : Nat) (P : Nat → Prop) (w' : World) (r : Ending) : Prop :=
  (rdO X ref n = none ∧ ∃ e, e ≠ 0 ∧ r = .returned (.tuple #[.slice none 0 0, .int .i64 0, .int .i64 e])) ∨
  ∃ z nx ao c, rdO X ref n = some (z, nx) ∧ r = .returned (.tuple #[.slice ao n c, .int .i64 nx, .int .i64 0]) ∧ Bs w' ao n z ∧ n ≤ c ∧ c ≤ 9223372036854775807 ∧ (ao = none → c = 0) ∧ ∀ a, ao = some a → P a.block
/-- The reader at p, the table at tb, since w. -/
structure RM (w : World) (p tb : Nat) (O0 : Nat → Prop) (X : List Int) (N : Nat) (O : Nat → Prop) (wX : World) : Prop where
  rdm : RdM wX p O tb ent X N
  fr : Fr O0 w wX
  gr : Gr O0 O w
  tbl : Tb wX tb ent
  nt : ¬ O tb
  lt : tb < wX.heap.size
section
variable {w wX wY : World} {p tb N M : Nat} {O0 O O2 S : Nat → Prop} {X : List Int}
theorem RM.start (h : RdM w p O tb ent X N) (hT : Tb w tb ent) (ht : tb < w.heap.size) (hO : ¬ O tb) : RM w p tb O X N O w := ⟨h, Fr.refl _ _, Gr.refl _ _, hT, hO, ht⟩
theorem RM.below (h : RM w p tb O0 X N O wX) (hb : Below wX.heap.size wX wY) : RM w p tb O0 X N O wY :=
  ⟨h.rdm.below hb, h.fr.then (Fr.of_below hb), h.gr, h.tbl.below hb h.lt, h.nt, Nat.lt_of_lt_of_le h.lt hb.size⟩
theorem RM.mono (h : RM w p tb O0 X N O wX) (hn : N ≤ M) : RM w p tb O0 X M O wX := { h with rdm := h.rdm.mono hn }
/-- Blocks have turned that are neither the reader's, nor the table, nor those that lay. -/
theorem RM.turn (h : RM w p tb O0 X N O wX) (hf : Fr S wX wY) (h1 : ∀ k, O k → ¬ S k) (h2 : ¬ S tb) (h3 : ∀ k, S k → w.heap.size ≤ k) : RM w p tb O0 X N O wY :=
  ⟨h.rdm.fr hf h1, h.fr.trans hf (fun i hi hs => by have := h3 i hs; omega), h.gr, h.tbl.fr hf h.lt h2, h.nt, Nat.lt_of_lt_of_le h.lt hf.size⟩
theorem RM.read (h : RM w p tb O0 X N O wX) (h1 : RdM wY p O2 tb ent X M) (h2 : Fr O wX wY) (h3 : Gr O O2 wX) : RM w p tb O0 X M O2 wY := by
  refine ⟨h1, h.fr.gr h.gr h2, h.gr.trans h3 h.fr.size, h.tbl.fr h2 h.lt h.nt, fun hx => ?_, Nat.lt_of_lt_of_le h.lt h2.size⟩
  rcases h3 _ hx with hx | hx
  · exact h.nt hx
  · have := h.lt; omega
end
end Mtr
/-- A read of a few bytes. -/
theorem rm_read {w wX : World} {p tb N : Nat} {O0 O : Nat → Prop} {X : List Int} (h : RM w p tb O0 X N O wX) (ref : Int) (n : Nat) (m : Int) (hm : m = (n : Int)) (hby : Bytes X) (hr : In64 ref) (hX : X.length ≤ 1000000) (hN : N ≤ 900000000) (hn : n ≤ 255) :
    Calls Try.prog 48 #[.pointer (some ⟨p, 0, none⟩), .int .i64 ref, .int .i64 m] wX fun r w' => ∃ O', RM w p tb O0 X (N + 255) O' w' ∧ Fr O wX w' ∧ Gr O O' wX ∧ RdO X ref n (fun k => wX.heap.size ≤ k ∧ ¬ O' k) w' r := by
  subst hm
  by_cases h1 : ref < 0
  · refine (mReadNeg_any p ref n wX hr (by constructor <;> omega) (.inl h1)).mono ?_
    rintro r w' ⟨rfl, rfl⟩
    exact ⟨O, h.mono (by omega), Fr.refl _ _, Gr.refl _ _, .inl ⟨by unfold rdO; rw [if_pos h1], 1, by omega, rfl⟩⟩
  · have hr2 := hr.2
    refine (mRead_any p tb N O ent X ref n wX h.rdm h.tbl h.lt h.nt small_ent hby (by omega) hX (by omega) (by omega)).mono ?_
    rintro r w' ⟨O', k1, k2, k3, ⟨k4, rfl⟩ | ⟨z, nx, ao, c, k4, rfl, k5, k6, k7, k8, k9⟩⟩
    · exact ⟨O', h.read (k1.mono (by omega)) k2 k3, k2, k3, .inl ⟨by unfold rdO; rw [if_neg h1, k4], 2, by omega, rfl⟩⟩
    · exact ⟨O', h.read (k1.mono (by omega)) k2 k3, k2, k3, .inr ⟨z, nx, ao, c, by unfold rdO; rw [if_neg h1, k4], rfl, k5, k6, k7, k8, k9⟩⟩
/-- A read of any number of bytes. -/
theorem rm_readFar {w wX : World} {p tb N : Nat} {O0 O : Nat → Prop} {X : List Int} (h : RM w p tb O0 X N O wX) (ref : Int) (n : Nat) (m : Int) (hm : m = (n : Int)) (hby : Bytes X) (hr : In64 ref) (hX : X.length ≤ 5000) (hN : N ≤ 900000000) (hn : n ≤ 9223372036854775807) :
    Calls Try.prog 48 #[.pointer (some ⟨p, 0, none⟩), .int .i64 ref, .int .i64 m] wX fun r w' => ∃ O', RM w p tb O0 X (N + 1000000) O' w' ∧ Fr O wX w' ∧ Gr O O' wX ∧ RdO X ref n (fun k => wX.heap.size ≤ k ∧ ¬ O' k) w' r := by
  subst hm
  by_cases h1 : ref < 0
  · refine (mReadNeg_any p ref n wX hr (by constructor <;> omega) (.inl h1)).mono ?_
    rintro r w' ⟨rfl, rfl⟩
    exact ⟨O, h.mono (by omega), Fr.refl _ _, Gr.refl _ _, .inl ⟨by unfold rdO; rw [if_pos h1], 1, by omega, rfl⟩⟩
  · have hr2 := hr.2
    refine (mReadFar_any p tb N O ent X ref n wX h.rdm h.tbl h.lt h.nt small_ent hby (by omega) hX (by omega) (by omega)).mono ?_
    rintro r w' ⟨O', k1, k2, k3, ⟨k4, rfl⟩ | ⟨z, nx, ao, c, k4, rfl, k5, k6, k7, k8, k9⟩⟩
    · exact ⟨O', h.read k1 k2 k3, k2, k3, .inl ⟨by unfold rdO; rw [if_neg h1, k4], 2, by omega, rfl⟩⟩
    · exact ⟨O', h.read k1 k2 k3, k2, k3, .inr ⟨z, nx, ao, c, by unfold rdO; rw [if_neg h1, k4], rfl, k5, k6, k7, k8, k9⟩⟩
namespace Mtr
/-- The text at a ref, and the ref behind it. -/
def txO (X : List Int) (ref : Int) : Option (List Int × Int) := (rdO X ref 1).bind fun q => rdO X q.2 (g q.1 0).toNat
theorem txO_some {X z : List Int} (hX : Bytes X) {ref nx : Int} (h : txO X ref = some (z, nx)) : z.length ≤ 255 ∧ 0 ≤ nx ∧ Bytes z ∧ (X.length ≤ 1000000 → nx ≤ 9223372036854775807) := by
  unfold txO at h
  cases h1 : rdO X ref 1 with
  | none => rw [h1] at h; cases h
  | some q =>
    obtain ⟨b, n1⟩ := q
    rw [h1] at h
    simp only [Option.bind_some] at h
    obtain ⟨a1, a2, a3, a4, a5⟩ := rdO_some hX h1
    obtain ⟨b1, b2, b3, b4, b5⟩ := rdO_some hX h
    have hb := (a4.g 0)
    refine ⟨by omega, b3, b4, fun hl => ?_⟩
    rcases b5 with b5 | b5
    · rw [b5, rdO_zero X a3] at h
      simp at h
      omega
    · omega
/-- What a read of a text answers. -/
def TxO (X : List Int) (ref : Int) (P : Nat → Prop) (w' : World) (r : Ending) : Prop :=
  (txO X ref = none ∧ ∃ e, e ≠ 0 ∧ r = .returned (.tuple #[.slice none 0 0, .int .i64 0, .int .i64 e])) ∨
  ∃ z nx ao n c, txO X ref = some (z, nx) ∧ r = .returned (.tuple #[.slice ao n c, .int .i64 nx, .int .i64 0]) ∧ Bs w' ao n z ∧ n ≤ c ∧ c ≤ 9223372036854775807 ∧ (ao = none → c = 0) ∧ ∀ a, ao = some a → P a.block
end Mtr
theorem Bs.first {w : World} {ao : Option Addr} {z : List Int} (h : Bs w ao 1 z) : ∃ b off x, ao = some ⟨b, off, none⟩ ∧ g z 0 = ((x : Nat) : Int) ∧ x ≤ 255 ∧ w.cell? ⟨b, off, none⟩ = some (.int .u8 (x : Int)) := by
  obtain ⟨hz, hb, h0⟩ := h
  rcases h0 with h0 | ⟨b, off, h1, h2, h3⟩
  · omega
  · have := hb 0
    refine ⟨b, off, (g z 0).toNat, h1, by omega, by omega, ?_⟩
    have := h3 0 (by omega)
    rw [Nat.add_zero] at this
    rw [this]
    congr 2
    omega
set_option maxRecDepth 100000 in
theorem text_any {w wX : World} {p tb N : Nat} {O0 O : Nat → Prop} {X : List Int} (h : RM w p tb O0 X N O wX) (ref : Int) (hby : Bytes X) (hr : In64 ref) (hX : X.length ≤ 1000000) (hN : N ≤ 800000000) :
    Calls Try.prog 78 #[.pointer (some ⟨p, 0, none⟩), .int .i64 ref] wX fun r w' => ∃ O', RM w p tb O0 X (N + 510) O' w' ∧ Fr O wX w' ∧ Gr O O' wX ∧ TxO X ref (fun k => wX.heap.size ≤ k ∧ ¬ O' k) w' r := by
  have HR := hide (rm_read h ref 1 1 rfl hby hr hX (by omega) (by omega))
  have HX := hide hX
  clear h
  go_enter Try.func78, Try.ntmps78
  go_wp2_with fail
  refine HR.out.mono ?_
  rintro r w1 ⟨O1, hM1, hF1, hG1, ⟨hn, e, he, rfl⟩ | ⟨z, nx, ao, c, hs, rfl, hB, _⟩⟩
  · have HA : Hid (∃ O', RM w p tb O0 X (N + 510) O' w1 ∧ Fr O wX w1 ∧ Gr O O' wX ∧ TxO X ref (fun k => wX.heap.size ≤ k ∧ ¬ O' k) w1 (.returned (.tuple #[.slice none 0 0, .int .i64 0, .int .i64 e]))) :=
      ⟨O1, hM1.mono (by omega), hF1, hG1, .inl ⟨by unfold txO; rw [hn]; rfl, e, he, rfl⟩⟩
    have he' : (e != 0) = true := by simpa using he
    clear hM1 hF1 hG1 HR
    go_wp2
    go_ret3
    exact HA.out
  · obtain ⟨b, off, x, rfl, hx, hxb, hc⟩ := hB.first
    obtain ⟨a1, a2, a3, a4, a5⟩ := rdO_some hby hs
    have hnx : In64 nx := by
      rcases a5 with a5 | a5
      · omega
      · constructor <;> omega
    have HR2 := hide (rm_read hM1 nx x x rfl hby hnx hX (by omega) (by omega))
    have HE : Hid (txO X ref = rdO X nx x) := by show txO X ref = _; unfold txO; rw [hs]; simp only [Option.bind_some, hx, Int.toNat_natCast]
    have HF := hide hF1
    have HG := hide hG1
    have hxw : (IntKind.i64.wrap (x : Int)) = (x : Int) := by rw [IntWalk.i64_in _ (by omega)]
    clear hM1 hF1 hG1 hB HR hs
    go_wp2_with fail
    refine HR2.out.mono ?_
    rintro r w2 ⟨O2, hM2, hF2, hG2, hA⟩
    have HQ : Hid (∀ r, RdO X nx x (fun k => w1.heap.size ≤ k ∧ ¬ O2 k) w2 r → ∃ O', RM w p tb O0 X (N + 510) O' w2 ∧ Fr O wX w2 ∧ Gr O O' wX ∧ TxO X ref (fun k => wX.heap.size ≤ k ∧ ¬ O' k) w2 r) := fun r hA =>
      ⟨O2, hM2.mono (by omega), HF.out.gr HG.out hF2, HG.out.trans hG2 HF.out.size, by
        rcases hA with ⟨hn, e, he, rfl⟩ | ⟨z2, nx2, ao2, c2, hs2, rfl, hB2, d1, d2, d3, d4⟩
        · exact .inl ⟨by rw [HE.out]; exact hn, e, he, rfl⟩
        · exact .inr ⟨z2, nx2, ao2, x, c2, by rw [HE.out]; exact hs2, rfl, hB2, d1, d2, d3, fun a ha => ⟨Nat.le_trans HF.out.size (d4 a ha).1, (d4 a ha).2⟩⟩⟩
    have HA := hide hA
    clear hM2 hF2 hG2 HR2 hc
    rcases hA with ⟨hn, e, he, rfl⟩ | ⟨z2, nx2, ao2, c2, hs2, rfl, hB2, d1, d2, d3, d4⟩
    · clear hn he
      go_wp2
      go_ret3
      exact HQ.out _ HA.out
    · clear hs2 hB2 d1 d2 d3 d4
      go_wp2
      go_ret3
      exact HQ.out _ HA.out
end Go.Proofs.Ytgkclldiphcogaa

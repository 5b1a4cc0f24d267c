/- What one ask answers, at any places: of the reader and of the reference alike. -/
import Derived.Test.YtahbgebnmgnmoaaMetRefNx
namespace Go.Proofs.Ytahbgebnmgnmoaa
set_option linter.unusedVariables false
set_option maxRecDepth 100000
open Go.RowKit Go.Maps
open Lz (g)
open Crc (ent)
open Frm Mtr

/-- What lies between the two places. -/
def cutX (Im : List Int) (x y : Int) : List Int := (Im.take y.toNat).drop x.toNat
/-- What a Read answers. -/
def ansR (Im : List Int) (x y ref n : Int) : List Int × Int × Int :=
  if ref < 0 ∨ n < 0 then ([], 0, 1) else if 0 ≤ x ∧ x ≤ y ∧ y ≤ (Im.length : Int) then (match rd ent (cutX Im x y) ref n.toNat with | none => ([], 0, 2) | some q => (q.1, q.2, 0)) else ([], 0, 2)
/-- What a Next answers. -/
def ansN (Im : List Int) (x y ref : Int) : Int × Int :=
  if ref < 0 then (0, 1) else if 0 ≤ x ∧ x ≤ y ∧ y ≤ (Im.length : Int) then nxt (cutX Im x y) ref else (0, 2)
/-- The reader between any two places. -/
def RdS (w : World) (p : Nat) (O : Nat → Prop) (tb : Nat) (Im : List Int) (x y : Int) (N : Nat) : Prop :=
  ((0 ≤ x ∧ x ≤ y ∧ y ≤ (Im.length : Int)) ∧ RdM w p O tb ent (cutX Im x y) N) ∨ (¬ (0 ≤ x ∧ x ≤ y ∧ y ≤ (Im.length : Int)) ∧ Rx w p ∧ ∀ k, O k → k < w.heap.size)
theorem RdS.olt {w : World} {p tb N : Nat} {O : Nat → Prop} {Im : List Int} {x y : Int} (h : RdS w p O tb Im x y N) : ∀ k, O k → k < w.heap.size := by
  rcases h with ⟨_, h⟩ | ⟨_, _, h⟩
  · exact h.olt
  · exact h
theorem RdS.below {w w' : World} {p tb N : Nat} {O : Nat → Prop} {Im : List Int} {x y : Int} (h : RdS w p O tb Im x y N) (hb : Below w.heap.size w w') : RdS w' p O tb Im x y N := by
  rcases h with ⟨h1, h2⟩ | ⟨h1, h2, h3⟩
  · exact .inl ⟨h1, h2.fr (Fr.of_below hb) (fun _ _ => id)⟩
  · exact .inr ⟨h1, h2.below hb, fun k hk => Nat.lt_of_lt_of_le (h3 k hk) hb.size⟩
theorem RdS.mono {w : World} {p tb N M : Nat} {O : Nat → Prop} {Im : List Int} {x y : Int} (h : RdS w p O tb Im x y N) (hm : N ≤ M) : RdS w p O tb Im x y M := by
  rcases h with ⟨h1, h2⟩ | ⟨h1, h2⟩
  · exact .inl ⟨h1, h2.mono hm⟩
  · exact .inr ⟨h1, h2⟩
theorem bs_none (w : World) : Bs w none 0 [] := ⟨rfl, fun i => by simp [g], .inl rfl⟩
section
variable {Im : List Int} {x y ref n : Int}
theorem ansR_neg (h : ref < 0 ∨ n < 0) : ansR Im x y ref n = ([], 0, 1) := by unfold ansR; rw [if_pos h]
theorem ansR_not (h : ¬ (ref < 0 ∨ n < 0)) (h2 : ¬ (0 ≤ x ∧ x ≤ y ∧ y ≤ (Im.length : Int))) : ansR Im x y ref n = ([], 0, 2) := by unfold ansR; rw [if_neg h, if_neg h2]
theorem ansR_none (h : ¬ (ref < 0 ∨ n < 0)) (h2 : 0 ≤ x ∧ x ≤ y ∧ y ≤ (Im.length : Int)) (h3 : rd ent (cutX Im x y) ref n.toNat = none) : ansR Im x y ref n = ([], 0, 2) := by unfold ansR; rw [if_neg h, if_pos h2, h3]
theorem ansR_some {z : List Int} {nx : Int} (h : ¬ (ref < 0 ∨ n < 0)) (h2 : 0 ≤ x ∧ x ≤ y ∧ y ≤ (Im.length : Int)) (h3 : rd ent (cutX Im x y) ref n.toNat = some (z, nx)) : ansR Im x y ref n = (z, nx, 0) := by unfold ansR; rw [if_neg h, if_pos h2, h3]
theorem ansN_neg (h : ref < 0) : ansN Im x y ref = (0, 1) := by unfold ansN; rw [if_pos h]
theorem ansN_not (h : ¬ ref < 0) (h2 : ¬ (0 ≤ x ∧ x ≤ y ∧ y ≤ (Im.length : Int))) : ansN Im x y ref = (0, 2) := by unfold ansN; rw [if_neg h, if_neg h2]
theorem ansN_may (h : ¬ ref < 0) (h2 : 0 ≤ x ∧ x ≤ y ∧ y ≤ (Im.length : Int)) : ansN Im x y ref = nxt (cutX Im x y) ref := by unfold ansN; rw [if_neg h, if_pos h2]
theorem cutX_len (h : 0 ≤ x ∧ x ≤ y ∧ y ≤ (Im.length : Int)) : (cutX Im x y).length ≤ Im.length := by unfold cutX; simp; omega
end

theorem mRead_each (p tb N : Nat) (O : Nat → Prop) (Im : List Int) (x y ref n : Int) (w : World) (h : RdS w p O tb Im x y N) (hT : Tb w tb ent) (htb : tb < w.heap.size) (hOt : ¬ O tb) (hby : Bytes Im) (hIm : Im.length ≤ 3000) (hN : N ≤ 100000)
    (hr : -9223372036854775808 ≤ ref ∧ ref ≤ 9223372036854775807) (hn : -999 ≤ n ∧ n ≤ 999) :
    Calls Try.prog 17 #[.pointer (some ⟨p, 0, none⟩), .int .i64 ref, .int .i64 n] w fun r w' => ∃ (O' : Nat → Prop) (ao : Option Addr) (m c : Nat), r = .returned (.tuple #[.slice ao m c, .int .i64 (ansR Im x y ref n).2.1, .int .i64 (ansR Im x y ref n).2.2]) ∧ Bs w' ao m (ansR Im x y ref n).1 ∧
      RdS w' p O' tb Im x y (N + 1000) ∧ Fr O w w' ∧ Gr O O' w ∧ ∀ a, ao = some a → ¬ O' a.block := by
  by_cases h1 : ref < 0 ∨ n < 0
  · rw [ansR_neg h1]
    refine (mReadNeg_any p ref n w hr (by omega) h1).mono ?_
    rintro r w' ⟨rfl, rfl⟩
    exact ⟨O, none, 0, 0, rfl, bs_none _, h.mono (by omega), Fr.refl _ _, Gr.refl _ _, fun a ha => by simp at ha⟩
  · rcases h with ⟨h2, h⟩ | ⟨h2, h⟩
    · obtain ⟨k, rfl⟩ : ∃ k : Nat, n = k := ⟨n.toNat, by omega⟩
      have hl := cutX_len h2
      refine (mRead_any p tb N O ent (cutX Im x y) ref k w h hT htb hOt small_ent ((hby.take _).drop _) (by omega) (by omega) (by omega) (by omega)).mono ?_
      rintro r w' ⟨O', hR, hF, hG, ⟨h3, rfl⟩ | ⟨z, nx, ao, c, h3, rfl, hB, _, _, _, hf⟩⟩
      · rw [ansR_none h1 h2 (by simpa using h3)]
        exact ⟨O', none, 0, 0, rfl, bs_none _, .inl ⟨h2, hR.mono (by omega)⟩, hF, hG, fun a ha => by simp at ha⟩
      · rw [ansR_some h1 h2 (by simpa using h3)]
        exact ⟨O', ao, k, c, rfl, hB, .inl ⟨h2, hR.mono (by omega)⟩, hF, hG, fun a ha => (hf a ha).2⟩
    · rw [ansR_not h1 h2]
      refine (mReadNot_any p ref n w h.1.2 (by omega) (by omega)).mono ?_
      rintro r w' ⟨rfl, rfl⟩
      exact ⟨O, none, 0, 0, rfl, bs_none _, .inr ⟨h2, h⟩, Fr.refl _ _, Gr.refl _ _, fun a ha => by simp at ha⟩

theorem mNext_each (p tb N : Nat) (O : Nat → Prop) (Im : List Int) (x y ref : Int) (w : World) (h : RdS w p O tb Im x y N) (hT : Tb w tb ent) (htb : tb < w.heap.size) (hOt : ¬ O tb) (hby : Bytes Im) (hIm : Im.length ≤ 3000) (hN : N ≤ 100000)
    (hr : -9223372036854775808 ≤ ref ∧ ref ≤ 9223372036854775807) :
    Calls Try.prog 19 #[.pointer (some ⟨p, 0, none⟩), .int .i64 ref] w fun r w' => ∃ (O' : Nat → Prop), r = .returned (.tuple #[.int .i64 (ansN Im x y ref).1, .int .i64 (ansN Im x y ref).2]) ∧
      RdS w' p O' tb Im x y N ∧ Fr O w w' ∧ Gr O O' w := by
  by_cases h1 : ref < 0
  · rw [ansN_neg h1]
    refine (mNextNeg_any p ref w (by omega)).mono ?_
    rintro r w' ⟨rfl, rfl⟩
    exact ⟨O, rfl, h, Fr.refl _ _, Gr.refl _ _⟩
  · rcases h with ⟨h2, h⟩ | ⟨h2, h⟩
    · rw [ansN_may h1 h2]
      have hl := cutX_len h2
      refine (mNext_any p tb N O ent (cutX Im x y) ref w h hT htb hOt small_ent ((hby.take _).drop _) (by omega) (by omega) (by omega)).mono ?_
      rintro r w' ⟨rfl, O', hR, hF, hG⟩
      exact ⟨O', rfl, .inl ⟨h2, hR⟩, hF, hG⟩
    · rw [ansN_not h1 h2]
      refine (mNextNot_any p ref w h.1.2 (by omega)).mono ?_
      rintro r w' ⟨rfl, rfl⟩
      exact ⟨O, rfl, .inr ⟨h2, h⟩, Fr.refl _ _, Gr.refl _ _⟩

theorem yRead_each (q n0 c0 : Nat) (ao0 : Option Addr) (Im : List Int) (x y ref n : Int) (w : World) (h : RdY w q Im x y ao0 n0 c0) (hx : -9223372036854775808 ≤ x ∧ x ≤ 9223372036854775807) (hy : -9223372036854775808 ≤ y ∧ y ≤ 9223372036854775807)
    (hr : -9223372036854775808 ≤ ref ∧ ref ≤ 9223372036854775807) (hn : -999 ≤ n ∧ n ≤ 999) :
    Calls Try.prog 18 #[.pointer (some ⟨q, 0, none⟩), .int .i64 ref, .int .i64 n] w fun r w' => ∃ (ao : Option Addr) (m c : Nat), r = .returned (.tuple #[.slice ao m c, .int .i64 (ansR Im x y ref n).2.1, .int .i64 (ansR Im x y ref n).2.2]) ∧ Bs w' ao m (ansR Im x y ref n).1 ∧
      Below w.heap.size w w' ∧ ∀ a, ao = some a → w.heap.size ≤ a.block := by
  have hnl := h.bs.1
  by_cases h1 : ref < 0 ∨ n < 0
  · rw [ansR_neg h1]
    refine (yReadNeg_any q ref n w hr (by omega) h1).mono ?_
    rintro r w' ⟨rfl, rfl⟩
    exact ⟨none, 0, 0, rfl, bs_none _, Below.refl _ _, fun a ha => by simp at ha⟩
  · by_cases h2 : 0 ≤ x ∧ x ≤ y ∧ y ≤ (Im.length : Int)
    · obtain ⟨k, rfl⟩ : ∃ k : Nat, n = k := ⟨n.toNat, by omega⟩
      obtain ⟨a, rfl⟩ : ∃ k : Nat, x = k := ⟨x.toNat, by omega⟩
      obtain ⟨b, rfl⟩ : ∃ k : Nat, y = k := ⟨y.toNat, by omega⟩
      obtain ⟨ref, rfl⟩ : ∃ k : Nat, ref = k := ⟨ref.toNat, by omega⟩
      refine (yRead_any q n0 c0 a b Im ao0 ref k w h (by omega) (by omega) (by omega) (by omega)).mono ?_
      rintro r w' ⟨hb, ⟨h3, rfl⟩ | ⟨z, nx, ao, c, h3, rfl, hB, hf⟩⟩
      · rw [ansR_none h1 h2 (by simpa [cutX] using h3)]
        exact ⟨none, 0, 0, rfl, bs_none _, hb, fun a ha => by simp at ha⟩
      · rw [ansR_some h1 h2 (by simpa [cutX] using h3)]
        exact ⟨ao, k, c, rfl, hB, hb, hf⟩
    · rw [ansR_not h1 h2]
      refine (yReadNot_any q n0 c0 Im x y ao0 ref n w h hx hy (by omega) (by omega) (by omega)).mono ?_
      rintro r w' ⟨rfl, hb⟩
      exact ⟨none, 0, 0, rfl, bs_none _, hb, fun a ha => by simp at ha⟩

theorem yNext_each (q n0 c0 : Nat) (ao0 : Option Addr) (Im : List Int) (x y ref : Int) (w : World) (h : RdY w q Im x y ao0 n0 c0) (hx : -9223372036854775808 ≤ x ∧ x ≤ 9223372036854775807) (hy : -9223372036854775808 ≤ y ∧ y ≤ 9223372036854775807)
    (hr : -9223372036854775808 ≤ ref ∧ ref ≤ 9223372036854775807) :
    Calls Try.prog 20 #[.pointer (some ⟨q, 0, none⟩), .int .i64 ref] w fun r w' => r = .returned (.tuple #[.int .i64 (ansN Im x y ref).1, .int .i64 (ansN Im x y ref).2]) ∧ Below w.heap.size w w' := by
  have hnl := h.bs.1
  by_cases h1 : ref < 0
  · rw [ansN_neg h1]
    refine (yNextNeg_any q ref w (by omega)).mono ?_
    rintro r w' ⟨rfl, rfl⟩
    exact ⟨rfl, Below.refl _ _⟩
  · by_cases h2 : 0 ≤ x ∧ x ≤ y ∧ y ≤ (Im.length : Int)
    · rw [ansN_may h1 h2]
      obtain ⟨a, rfl⟩ : ∃ k : Nat, x = k := ⟨x.toNat, by omega⟩
      obtain ⟨b, rfl⟩ : ∃ k : Nat, y = k := ⟨y.toNat, by omega⟩
      obtain ⟨ref, rfl⟩ : ∃ k : Nat, ref = k := ⟨ref.toNat, by omega⟩
      refine (yNext_any q n0 c0 a b Im ao0 ref w h (by omega) (by omega) (by omega)).mono ?_
      rintro r w' ⟨hr, hb⟩
      exact ⟨by rw [hr]; simp [cutX], hb⟩
    · rw [ansN_not h1 h2]
      refine (yNextNot_any q n0 c0 Im x y ao0 ref w h hx hy (by omega) (by omega)).mono ?_
      rintro r w' ⟨rfl, hb⟩
      exact ⟨rfl, hb⟩

/-- Opened at any two places. -/
theorem Open_each (tb n c : Nat) (ao : Option Addr) (Im : List Int) (x y : Int) (w : World) (hb : Bs w ao n Im) (hc : n ≤ c) (hcm : c ≤ 9223372036854775807) (hnil : ao = none → c = 0) (hn : n ≤ 3000)
    (hx : -9223372036854775808 ≤ x ∧ x ≤ 9223372036854775807) (hy : -9223372036854775808 ≤ y ∧ y ≤ 9223372036854775807) :
    Calls Try.prog 16 #[.pointer (some ⟨tb, 0, none⟩), .slice ao n c, .int .i64 x, .int .i64 y] w fun r w' => ∃ p, r = .returned (.pointer (some ⟨p, 0, none⟩)) ∧ RdS w' p (fun k => w.heap.size ≤ k ∧ k < w'.heap.size) tb Im x y 0 ∧ Below w.heap.size w w' := by
  have hnl := hb.1
  by_cases h : 0 ≤ x ∧ x ≤ y ∧ y ≤ (Im.length : Int)
  · refine (Open_any tb n c ao Im ent w x y hb hc hcm hnil (by omega) hx hy (by omega)).mono ?_
    rintro r w' ⟨p, rfl, h1, h2⟩
    exact ⟨p, rfl, .inl ⟨h, h1⟩, h2⟩
  · refine (OpenNot_any tb n c ao w x y hc hcm hx hy (by omega)).mono ?_
    rintro r w' ⟨p, rfl, _, h1, h2⟩
    exact ⟨p, rfl, .inr ⟨h, h1, fun k hk => hk.2⟩, h2⟩
end Go.Proofs.Ytahbgebnmgnmoaa

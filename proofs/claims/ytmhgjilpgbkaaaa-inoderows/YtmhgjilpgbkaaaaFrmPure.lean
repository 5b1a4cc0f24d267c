/- Frames, as pure functions over bytes: heads, what stands behind one, what a frame holds, its bytes. -/
import Derived.Test.YtmhgjilpgbkaaaaLzAll
import Derived.Test.YtmhgjilpgbkaaaaCrcAll
import Derived.Test.YtmhgjilpgbkaaaaCurNew
namespace Go.Proofs.Ytmhgjilpgbkaaaa.Frm
set_option linter.unusedVariables false
open Lz (g pack unpack up)
open Crc (ent more)
open Cur (le by')

/-- The XOR of two bytes. -/
def x8 (a b : Int) : Int := ((a.toNat ^^^ b.toNat : Nat) : Int)
theorem x8_bd {a b : Int} (ha : 0 ≤ a ∧ a ≤ 255) (hb : 0 ≤ b ∧ b ≤ 255) : 0 ≤ x8 a b ∧ x8 a b ≤ 255 := by
  have := Nat.xor_lt_two_pow (n := 8) (x := a.toNat) (y := b.toNat) (by omega) (by omega)
  unfold x8; omega
/-- The head of a number. -/
def hd (n : Int) : List Int := [n % 256, n / 256 % 256, 255 - x8 (n % 256) (n / 256 % 256)]
theorem hd_length (n : Int) : (hd n).length = 3 := rfl
theorem hd_bytes (n : Int) : Bytes (hd n) := fun x hx => by
  have := x8_bd (a := n % 256) (b := n / 256 % 256) (by omega) (by omega)
  simp [hd] at hx
  rcases hx with rfl | rfl | rfl <;> omega
theorem hd_of {a b : Int} (ha : 0 ≤ a ∧ a ≤ 255) (hb : 0 ≤ b ∧ b ≤ 255) : hd (a + 256 * b) = [a, b, 255 - x8 a b] := by
  unfold hd
  have h1 : (a + 256 * b) % 256 = a := by omega
  have h2 : (a + 256 * b) / 256 % 256 = b := by omega
  rw [h1, h2]
/-- How many bytes stand behind a head; none, if no frame has it. -/
def bsz (n : Int) : Int × Bool := if n = 0 then (0, true) else if n % 32768 < 1 ∨ 128 < n % 32768 then (0, false) else (4 + n % 32768, true)
theorem bsz_bd (n : Int) : 0 ≤ (bsz n).1 ∧ (bsz n).1 ≤ 132 := by
  unfold bsz; split
  · simp
  · split
    · simp
    · simp only []; omega
theorem bsz_ge (n : Int) (h : (bsz n).1 ≠ 0) : 5 ≤ (bsz n).1 ∧ (bsz n).1 = 4 + n % 32768 ∧ n ≠ 0 := by
  by_cases h0 : n = 0
  · simp [bsz, h0] at h
  · by_cases h1 : n % 32768 < 1 ∨ 128 < n % 32768
    · simp [bsz, h0, h1] at h
    · have e : bsz n = (4 + n % 32768, true) := by unfold bsz; rw [if_neg h0, if_neg h1]
      rw [e]; exact ⟨by show 5 ≤ 4 + n % 32768; omega, rfl, h0⟩
/-- The number at a place. -/
def num (z : List Int) (k : Nat) : Int := g z k + 256 * g z (k + 1)
/-- The frame at a place: its number, and how many bytes stand behind its head. -/
def spot (z : List Int) (at' : Int) : Option (Int × Nat) :=
  if at' < 0 ∨ (z.length : Int) - 3 < at' then none
  else if (bsz (num z at'.toNat)).2 = false ∨ g z (at'.toNat + 2) ≠ 255 - x8 (g z at'.toNat) (g z (at'.toNat + 1)) then none
  else if (z.length : Int) - (at' + 3) < (bsz (num z at'.toNat)).1 then none
  else some (num z at'.toNat, (bsz (num z at'.toNat)).1.toNat)
/-- What stands behind the head at k. -/
def body (z : List Int) (k sz : Nat) : List Int := (z.drop (k + 3)).take sz
/-- What a body holds; nothing, if it is wrong. -/
def plain (T : Nat → Nat) (n : Int) (b : List Int) : List Int :=
  if le (b.take 4) ≠ (more T 0 (b.drop 4) : Int) then [] else if 32768 ≤ n then b.drop 4 else (unpack (b.drop 4) 128).1
/-- Take: the bytes, the place behind, the error. -/
def take (T : Nat → Nat) (z : List Int) (at' : Int) : List Int × Int × Int :=
  match spot z at' with
  | none => ([], 0, 2)
  | some (n, sz) => if sz = 0 then ([], at' + 3, 0) else if plain T n (body z at'.toNat sz) = [] then ([], 0, 2) else (plain T n (body z at'.toNat sz), at' + 3 + sz, 0)
/-- Skip: the place behind, the error. -/
def skip (z : List Int) (at' : Int) : Int × Int :=
  match spot z at' with
  | none => (0, 2)
  | some (_, sz) => (at' + 3 + sz, 0)
/-- The frame of a payload with bytes. -/
def whole (T : Nat → Nat) (n : Int) (p : List Int) : List Int := hd n ++ by' 4 (more T 0 p) ++ p
/-- The frame of bytes, 128 at most. -/
def put (T : Nat → Nat) (b : List Int) : List Int :=
  if b = [] then hd 0 else if (pack b).length < b.length then whole T (pack b).length (pack b) else whole T (b.length + 32768) b
end Go.Proofs.Ytmhgjilpgbkaaaa.Frm

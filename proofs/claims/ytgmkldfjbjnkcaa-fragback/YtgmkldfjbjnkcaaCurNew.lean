/- Writers that are new, frames of theirs; bytes in a row that is new and may be written: Clone and Done, once more. -/
import Derived.Test.YtgmkldfjbjnkcaaCurWrite
import Derived.Test.YtgmkldfjbjnkcaaCurDead
import Derived.Laws.CopyOwn
namespace Go.Proofs.Ytgmkldfjbjnkcaa
set_option linter.unusedVariables false
open Go.RowKit Go.Maps
open Lz (g)
open Cur

namespace Cur
theorem le_by : ∀ (n : Nat) (x : Int), 0 ≤ x → x < 256 ^ n → le (by' n x) = x
  | 0, x, h0, h => by simp at h; simp [by', le]; omega
  | n + 1, x, h0, h => by
    have h2 : x / 256 < 256 ^ n := by
      rw [Int.pow_succ] at h
      exact Int.ediv_lt_of_lt_mul (by omega) h
    simp only [by', le]
    rw [le_by n (x / 256) (by omega) h2]; omega
end Cur
/-- A writer that is new. -/
theorem WrP.new (w : World) (B : Nat) : WrP (w.alloc (.cells #[.slice none 0 0, .int .i64 0] 81)) w.heap.size B (.slice none 0 0) ([], 0) :=
  ⟨none, 0, 0, rfl, Hd.new _ _ _ _ _ _, World.ownsRow_nil _ _ _ _, Bytes.nil, .inl rfl⟩
theorem Fr.two_below {w w' : World} {p B : Nat} {v : Value} (h : Fr (Two p v) w w') (hB : B ≤ w.heap.size) (hp : B ≤ p) (hv : ∀ k, v.ownBlock = some k → B ≤ k) : Below B w w' :=
  h.below B hB (fun k hk => by rcases hk with hk | hk; (have : k = p := hk; omega); exact hv k hk)
theorem Fr.one_below {w w' : World} {p B : Nat} (h : Fr (One p) w w') (hB : B ≤ w.heap.size) (hp : B ≤ p) : Below B w w' :=
  h.below B hB (fun k hk => by have : k = p := hk; omega)
theorem WrP.base {w : World} {p B : Nat} {v : Value} {s : St} (h : WrP w p B v s) : ∀ k, v.ownBlock = some k → B ≤ k := by
  obtain ⟨ao, n, c, rfl, _, h3, _⟩ := h
  intro k hk
  exact (h3.lt k hk).1
theorem WrP.lt {w : World} {p B : Nat} {v : Value} {s : St} (h : WrP w p B v s) : p < w.heap.size := by
  obtain ⟨ao, n, c, rfl, h2, _⟩ := h; exact h2.lt

set_option maxRecDepth 100000 in
theorem DoneNew_any (p B : Nat) (v : Value) (s : St) (w : World) (h : WrP w p B v s) (hbd : s.1.length ≤ 100000000) :
    Calls Try.prog 39 #[.pointer (some ⟨p, 0, none⟩)] w fun r w' => ∃ ao c, r = .returned (.slice ao s.1.length c) ∧ New w w' ao s.1.length c s.1 := by
  obtain ⟨vo, vn, vc, rfl, hd, ho, hby, hcan⟩ := h
  have hlen : s.1.length = vn := by have := ho.1; rw [bv_length] at this; omega
  have h0 := hd.c0
  have HB : Hid (Bs w vo vn s.1) := bs_of_owns ho hby
  have HN : Hid (vo = none → vc = 0) := nil_cap ho
  have hc := cap_of_owns ho
  clear hd ho
  rw [hlen]
  go_enter Try.func39, Try.ntmps39
  go_wp2_with fail
  refine (CloneNew_any vn vc vo s.1 w HB.out hc HN.out (by omega)).mono ?_
  rintro r w2 ⟨ao', c', rfl, hN⟩
  have HX : Hid (New w w2 ao' vn c' s.1) := hN
  clear hN
  go_wp2
  go_ret
  exact ⟨_, _, rfl, HX.out⟩
theorem setRow_fr {S : Nat → Prop} {a b : World} (h : Fr S a b) (q : Nat) (cs : Array Value) (hp : q < a.heap.size → S q) : Fr S a (b.setRow q cs) :=
  ⟨h.os, h.tape, h.output, by simpa [World.setRow] using h.size, fun i hi hn => (setRow_other b q i cs (fun e => by subst e; exact hn (hp hi))).trans (h.block i hi hn)⟩
theorem wNum_ok (zs : List Int) (m : Int) (n : Nat) (x : Int) (hm : m = (n : Int)) (h1 : 1 ≤ n) (h4 : n ≤ 4) (h0 : 0 ≤ x) (h : x < 256 ^ n) : wNum x m (zs, 0) = (zs ++ by' n x, 0) := by
  subst hm
  unfold wNum
  rw [if_pos ⟨by omega, by omega, h0, by rw [Int.toNat_natCast]; exact h⟩, Int.toNat_natCast]
  rfl
theorem wTxt_ok (zs : List Int) (t : ByteArray) (h : t.size ≤ 255) : wTxt (sb t) (zs, 0) = (zs ++ ((t.size : Int) :: sb t), 0) := by
  unfold wTxt
  rw [if_neg (by rw [sb_length]; omega), sb_length, wNum_ok zs 1 1 t.size rfl (by omega) (by omega) (by omega) (by omega)]
  have e : by' 1 (t.size : Int) = [(t.size : Int)] := by simp [by']; omega
  rw [e]
  show (zs ++ [(t.size : Int)] ++ sb t, (0 : Int)) = _
  simp
end Go.Proofs.Ytgmkldfjbjnkcaa

/- The walk of the reference's Of, and what it takes to hold two tables against each other. -/
import Derived.Test.YthdmmachaplmjaaLaws
import Derived.Deep.RegionHeld3
import Derived.Stop.BytesEq
namespace Go.Proofs.Ythdmmachaplmjaa
set_option linter.unusedVariables false
open Go.RowKit Go.Maps
open Lz (g)
open Crc (stp steps ent bt run more)

set_option maxRecDepth 100000 in
set_option maxHeartbeats 400000 in
theorem refOf_any (s len cap : Nat) (T : Nat → Nat) (C : Array Value) (hC : C = tab T) (ao : Option Addr) (zs : List Int) (w : World) (hS : Small T) (hs : s < 4294967296) (hB : Bs w ao len zs) (hl : len ≤ 1000000) :
    Calls Try.prog 16 #[.agg C, .int .u32 s, .slice ao len cap] w fun e w' => e = .returned (.int .u32 (more T s zs)) ∧ w' = w.alloc (.cells C 24) := by
  have HT : Tb (w.alloc (.cells C 24)) w.heap.size T := by rw [hC]; exact tb_row (heap_alloc_new w _)
  have hB2 := hB.alloc (.cells C 24)
  obtain ⟨hz, hby, h0⟩ := hB2
  obtain ⟨R, hR⟩ : ∃ R, R = run T (s ^^^ 4294967295) zs := ⟨_, rfl⟩
  have e0 := xorN hs
  have hR32 : R < 4294967296 := by rw [hR]; exact Crc.run_lt hS _ (Crc.xor_lt hs (by omega))
  have e9 := xorN hR32
  have HF : Hid (more T s zs = R ^^^ 4294967295) := by show run T _ _ ^^^ _ = _; rw [← hR]
  have HR : Hid (R = run T (s ^^^ 4294967295) (zs.drop 0)) := hR
  have hs2 : s ^^^ 4294967295 < 4294967296 := Crc.xor_lt hs (by omega)
  rw [HF.out]
  clear hR hC hB
  generalize s ^^^ 4294967295 = s' at *
  obtain ⟨W, hW⟩ : ∃ W, W = w.alloc (.cells C 24) := ⟨_, rfl⟩
  rw [← hW] at HT h0 ⊢
  have HW : Hid (W = w.alloc (.cells C 24)) := hW
  clear hW
  go_enter Try.func16, Try.ntmps16
  go_wp2
  rw [← HW.out]
  obtain ⟨tb, htb⟩ : ∃ tb, tb = w.heap.size := ⟨_, rfl⟩
  rw [← htb] at HT ⊢
  clear htb HW
  go_loopw [7, 8] (fun s7 s8 wr => ∃ k x : Nat, s7 = .int .u32 x ∧ s8 = .int .i64 k ∧ x < 4294967296 ∧ k ≤ len ∧ Hid (R = run T x (zs.drop k)) ∧ wr = W) (fun _ s8 _ => len - (intOf s8).toNat)
  case atStart => exact ⟨0, s', rfl, rfl, hs2, by omega, HR, rfl⟩
  case round =>
    obtain ⟨k, x, rfl, rfl, hx, hk, H, rfl⟩ := hrel
    by_cases hlt : k < len
    · rcases h0 with h0 | ⟨bb, off, rfl, hbl, hseg⟩
      · omega
      have hc := hseg k (by omega)
      have hcb := hby k
      generalize hq : g zs k = q at hc hcb
      obtain ⟨c, rfl⟩ : ∃ c : Nat, q = (c : Int) := ⟨q.toNat, by omega⟩
      have hst := run_at T x k zs (by omega)
      rw [hq] at hst
      have HS : Hid (R = run T (bt T x c) (zs.drop (k + 1))) := H.out.trans hst
      have hj : (x ^^^ c) % 256 < 256 := Nat.mod_lt _ (by omega)
      have e1 := look32 (x := x) (c := c) hx (by omega)
      have e2 := next32 (T := T) (x := x) (c := c) hS hx
      have ht := HT _ hj
      have hb32 := Crc.bt_lt hS hx c
      have e3 : ((x ^^^ c : Nat) : Int) % 256 = (((x ^^^ c) % 256 : Nat) : Int) := by omega
      clear hst hq
      generalize x ^^^ c = xc at *
      generalize xc % 256 = j at *
      generalize bt T x c = y at *
      go_wp2
      go_roundw
      case rel => exact ⟨k + 1, y, rfl, by go_num, hb32, by omega, HS, trivial⟩
      case measure => simp [intOf]; omega
    · obtain rfl : k = len := by omega
      have hRx : R = x := by
        have := H.out
        rw [List.drop_eq_nil_of_le (by omega)] at this
        exact this
      subst hRx
      go_wp2
      go_ret
      exact ⟨rfl, rfl⟩

/-- A table is as itself. -/
theorem run_equalIn_self (P : Program) (w : World) (d : Nat) (t e : TypeId) (ht : P.underlying t = some (.array 256 e)) (he : P.underlying e = some (.int .u32)) (hsz : ∀ w, (sizeOf e).run P w = .ok 1 w) (T : Nat → Nat) :
    (Op.equalIn (d + 2) t (.agg (tab T)) (.agg (tab T))).run P w = .ok true w := by
  rw [Op.equalIn]
  simp only [Sem.run_bind, run_underlying ht, Result.andThen_ok, hsz, Std.Legacy.Range.forIn_eq_forIn_range', Std.Legacy.Range.size, Nat.sub_zero, Nat.add_sub_cancel, Nat.div_one]
  have hl : ∀ i ∈ List.range' 0 256 1, i < 256 := fun i hi => by simpa using (List.mem_range'_1.1 hi).2
  generalize List.range' 0 256 1 = l at hl ⊢
  induction l with
  | nil => simp
  | cons i l ih =>
    have hi : i < 256 := hl i (by simp)
    have px : (part e (tab T) (i * 1)).run P w = .ok (.int .u32 (T i)) w := by
      simp [part, isAgg, run_underlying he, tab_at T i hi]
    have pe : (Op.equalIn (d + 1) e (.int .u32 (T i)) (.int .u32 (T i))).run P w = .ok true w := by
      rw [run_equalIn_int w d e .u32 .u32 _ _ he]
      simp
    simp only [List.forIn_cons, Sem.run_bind, px, pe, Result.andThen_ok]
    simp only [Bool.not_true, Bool.false_eq_true, if_false, Sem.run_pure, Result.andThen_ok]
    exact ih fun j hj => hl j (by simp [hj])
theorem eql_self (w : World) (C : Array Value) (T : Nat → Nat) (hC : C = tab T) : (binOp .eql 25 (.agg C) (.agg C)).run Try.prog w = .ok (.bool true) w := by
  rw [hC, run_eql_struct, run_equalIn_self Try.prog w 9998 25 23 Try.underlying25 Try.underlying23 Try.sizeOf23 T]
  rfl

/-- Two tables are held against each other: it may be done first. -/
theorem yieldsIf_eql {ops : Array Oper} {S : World → Prop} {op : Oper} {a : Act} (hw : Region.wanted op (yielded ops a.tmps) = true) (x y : Operand) (t : TypeId) (ho : op.op = .binOp .eql 25 x y t)
    (C : Array Value) (hx : a.eval x = .agg C) (hy : a.eval y = .agg C) (heq : ∀ w, (binOp .eql 25 (.agg C) (.agg C)).run Try.prog w = .ok (.bool true) w) : YieldsIf Try.prog ops S op (.bool true) a :=
  .inl ⟨hw, fun w _ => by
    have hg : Try.prog.eqGuardType Try.prog.depth 25 = false := by kernel_rfl
    have hgd : (eqGuard .eql 25 x y (.agg C) (.agg C)).run Try.prog w = .ok () w := by
      simp [eqGuard, hg]
    unfold execOp
    simp only [ho, hx, hy, Sem.run_bind, Sem.run_pure, hgd, Result.andThen_ok, heq]⟩

theorem wf_u32 {n : Int} (h : (Lit.int .u32 n).wf = true) : 0 ≤ n ∧ n < 4294967296 := by
  have := bounds_u32 h
  omega

end Go.Proofs.Ythdmmachaplmjaa

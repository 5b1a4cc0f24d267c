import Derived.Test.YtbmeapehgajbkaaGreatGJBrnPut2
import Derived.Test.YtbmeapehgajbkaaGreatGMats
import Derived.DeepKeys
set_option linter.unusedVariables false
namespace Go.Proofs.YtbmeapehgajbkaaGreat
open Go.RowKit Go.Maps
open Nam Tre Tab
open Lz (g)
namespace Upr
end Upr
end Go.Proofs.YtbmeapehgajbkaaGreat
namespace Go.Proofs.YtbmeapehgajbkaaGreat
open Go.RowKit Go.Maps
open Nam Tre Tab
open Lz (g)
namespace Upr
theorem Up.used {w : World} {p : Nat} {c : Nat → Cl} {q : Int × Int} {u : Us} (h : Up w p c q u) :
  Calls Tryz.prog 7 #[.pointer (some ⟨p, 0, none⟩)] w fun e w' => e = .returned (.agg #[.int .i64 (u.L.length : Nat), .int .i64 (wrap64 (csN u (fun _ => false) u.L : Nat))]) ∧ Below w.heap.size w w' := by
 have hw := h.wf
 obtain ⟨pr, m, nb, eb, h1, _⟩ := h
 exact uUsed_any w h1 (fun n hn hk => hw.kin0 (by rw [knd_some (nd_mem hw.ino hn)]; exact hk))
set_option maxRecDepth 100000 in
theorem same17_any (a b : Option Addr) (n m c d : Nat) (xs : List (ByteArray × List Int)) (w : World) (ha : XsR w a n xs) (hb : XsR w b m xs) (hn : n ≤ 1000000) (hm : m ≤ 1000000) :
  Calls Tryz.prog 12 #[.slice a n c, .slice b m d] w fun e w' => e = .returned (.bool true) ∧ ∃ j, w' = w.drewN j := by
 have HS := hide (xsSame_any a b n m c d xs xs w ha hb hn hm true (by simp))
 clear ha hb
 go_enter Tryz.func12, Tryz.ntmps12
 go_wp2_with (go_at_call 31; refine HS.out.mono ?_; rintro e w' ⟨rfl, j, rfl⟩)
 go_ret
 exact ⟨rfl, j, rfl⟩
end Upr
end Go.Proofs.YtbmeapehgajbkaaGreat
namespace Go.Proofs.YtbmeapehgajbkaaGreat
open Nam Tre Upr
namespace Brn
def fN : Nod := nF [110, 101, 119]
theorem fN_may : mayU fN = true := may_file (by simp)
theorem csN_nx (L0 : List Nod) (E : List En) (x y : Int) : ∀ L, csN ⟨L0, E, x⟩ (fun _ => false) L = csN ⟨L0, E, y⟩ (fun _ => false) L
 | [] => rfl
 | n :: L => by
  unfold csN
  rw [csN_nx L0 E x y L]; rfl
theorem root_dir {u : Us} (h : Wf u) : dirE u 1 = 0 := by
 obtain ⟨r, r1, r2, r3⟩ := h.root
 have : nd u 1 = some r := by have := nd_mem h.ino r1; rw [r2] at this; exact this
 unfold dirE; rw [this]; simp [r3]
theorem look_some {u : Us} (h : Wf u) {s : ByteArray} {e : En} (he : en u 1 s = some e) : (lookV u 1 s).2 = 0 := by
 unfold lookV; rw [if_neg (by rw [root_dir h]; simp), he]
theorem look_none {u : Us} (h : Wf u) {s : ByteArray} (he : en u 1 s = none) : (lookV u 1 s).2 = 20 := by
 unfold lookV; rw [if_neg (by rw [root_dir h]; simp), he]
structure MadeF (u : Us) (s : ByteArray) (u2 : Us) : Prop where
 mk' : mk u 1 s fN = ((u.nx, 0), u2)
 rd : rdB u2 u.nx 0 9 = [110, 101, 119] ∧ rdE u2 u.nx 0 9 = 0
 xa : xaV u2 u.nx = [] ∧ statE u2 u.nx = 0
 rm : rm u2 1 s = (0, ⟨u.L, u.E, u.nx + 1⟩)
 sm : u2.L.length ≤ u.L.length + 1 ∧ u2.E.length ≤ u.E.length + 1 ∧ u2.nx = u.nx + 1
theorem made_ok {u : Us} (h : Wf u) {s : ByteArray} (h1 : frs u 1 s = 0) : ∃ u2, MadeF u s u2 := by
 have hm := mk_ok (n := fN) h1 fN_may
 obtain ⟨N, hN⟩ : ∃ N : Nod, N = { fN with names := [], opq := false, ino := u.nx } := ⟨_, rfl⟩
 have hNi : N.ino = u.nx := by rw [hN]
 have hnd := nd_new h hNi (u.E ++ [⟨1, s, u.nx⟩]) (u.nx + 1)
 have hfil : filE ⟨u.L ++ [N], u.E ++ [⟨1, s, u.nx⟩], u.nx + 1⟩ u.nx = 0 := by
  unfold filE; rw [hnd, hN]; rfl
 have hrE : rdE ⟨u.L ++ [N], u.E ++ [⟨1, s, u.nx⟩], u.nx + 1⟩ u.nx 0 9 = 0 := by
  unfold rdE; rw [if_neg (by rw [hfil]; simp), if_neg (by omega)]
 refine ⟨⟨u.L ++ [N], u.E ++ [⟨1, s, u.nx⟩], u.nx + 1⟩, by rw [hm, hN], ⟨?_, hrE⟩, ⟨?_, ?_⟩, ?_, by simp⟩
 ·unfold rdB; rw [if_neg (by rw [hrE]; simp), hnd, hN]; rfl
 ·unfold xaV; rw [hnd, hN]; rfl
 ·unfold statE; rw [hnd]; rfl
 ·have := mk_rm h (n := fN) h1 fN_may
  rw [hm] at this
  rw [hN]; exact this
end Brn
end Go.Proofs.YtbmeapehgajbkaaGreat
namespace Go.Proofs.YtbmeapehgajbkaaGreat
open Go.RowKit Go.Maps
open Nam Tre Tab
namespace Upr
theorem kl_int (d : Nat) {n : Int} (h : (Lit.int .i64 n).wf = true) : Tryz.prog.keyLits (d + 1) 3 [.int .i64 n] = some [.int .i64 n] := by
 unfold Program.keyLits
 rw [Tryz.underlying3]
 simp [h]
theorem kl_quota (d : Nat) {a b : Int} (h1 : (Lit.int .i64 a).wf = true) (h2 : (Lit.int .i64 b).wf = true) : Tryz.prog.keyLits (d + 2) 30 [.int .i64 a, .int .i64 b] = some [.int .i64 a, .int .i64 b] := by
 have e1 : Tryz.prog.cellsOf 3 = 1 := by kernel_rfl
 have e3 : Tryz.prog.cellsOf 30 = 2 := by kernel_rfl
 unfold Program.keyLits
 rw [Tryz.underlying30]
 simp [e1, e3, kl_int d h1, kl_int d h2]
theorem eq_quota {a b : Int} (W : World) (h1 : (Lit.int .i64 a).wf = true) (h2 : (Lit.int .i64 b).wf = true) :
  (Op.equalIn 10000 30 (.agg #[.int .i64 a, .int .i64 b]) (.agg #[.int .i64 a, .int .i64 b])).run Tryz.prog W = .ok true W := by
 have hL := kl_quota 0 h1 h2
 obtain ⟨r, q1, q2⟩ := run_equalIn_deep (P := Tryz.prog) 9998 2 30 (by kernel_rfl) W _ _ (.agg #[.int .i64 a, .int .i64 b]) (.agg #[.int .i64 a, .int .i64 b]) _ _ (by kernel_rfl) (by kernel_rfl) hL hL
 obtain rfl : r = true := by simpa using q2
 exact q1
theorem quota_eq {a b : Int} (W : World) (h1 : (Lit.int .i64 a).wf = true) (h2 : (Lit.int .i64 b).wf = true) :
  (binOp .eql 30 (.agg #[.int .i64 a, .int .i64 b]) (.agg #[.int .i64 a, .int .i64 b])).run Tryz.prog W = .ok (.bool true) W := by
 rw [run_eql_struct, eq_quota W h1 h2]; rfl
end Upr
end Go.Proofs.YtbmeapehgajbkaaGreat

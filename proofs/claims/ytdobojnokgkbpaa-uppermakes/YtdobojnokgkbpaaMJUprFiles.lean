import Derived.Test.YtdobojnokgkbpaaMUprLinks
import Derived.Test.YtdobojnokgkbpaaMMats
import Derived.DeepKeys
import Derived.Deep.RegionWith
import Derived.Deep.CutBlock
import Derived.Deep.RegionHeld3
set_option linter.unusedVariables false
namespace Go.Proofs.Ytdobojnokgkbpaa
open Go.RowKit Go.Maps
open Nam Tre Tab
open Lz (g)
namespace Upr
def kd17 (c : Int) (m : Int) : Int := (if c < 0 then -(c + 1) else c) % m
set_option maxRecDepth 100000 in
theorem kind17 (c m : Int) (w : World) (hm : 0 < m) (hm2 : m ≤ 100000) (hc : -9223372036854775808 ≤ c ∧ c ≤ 9223372036854775807) :
  Calls Try.prog 14 #[.int .i64 c, .int .i64 m] w fun e w' => e = .returned (.int .i64 (kd17 c m)) ∧ w' = w := by
 unfold kd17
 by_cases h : c < 0
 ·rw [if_pos h]
  have hp : 0 ≤ -(c + 1) := by omega
  have he : (-(c + 1)).tmod m = -(c + 1) % m := Int.tmod_eq_emod_of_nonneg hp
  go_enter Try.func14, Try.ntmps14
  go_wp2
  go_ret
  exact ⟨rfl, rfl⟩
 ·rw [if_neg h]
  have hp : 0 ≤ c := by omega
  have he : c.tmod m = c % m := Int.tmod_eq_emod_of_nonneg hp
  go_enter Try.func14, Try.ntmps14
  go_wp2
  go_ret
  exact ⟨rfl, rfl⟩
end Upr
end Go.Proofs.Ytdobojnokgkbpaa
namespace Go.Proofs.Ytdobojnokgkbpaa
open Go.RowKit Go.Maps
open Nam Tre Tab
open Lz (g)
namespace Upr
def SZ (A : List ByteArray) : Nat := (A.map (fun a => a.size)).sum
theorem csE_one : ∀ A : List ByteArray, csE 1 (fun _ => false) (A.map (fun a => (⟨1, a, 2⟩ : En))) = SZ A
 | [] => rfl
 | a :: A => by
  rw [List.map_cons]
  unfold csE
  rw [csE_one A, if_pos ⟨rfl, rfl⟩]
  simp [SZ]
theorem csN_u0 : csN u0 (fun _ => false) u0.L = 64 := rfl
theorem csN_s0 : csN s0 (fun _ => false) s0.L = 64 := rfl
theorem csN_s1 {N : Nod} (hN : N.ino = 2) (A : List ByteArray) : csN (s1 N A) (fun _ => false) (s1 N A).L = 64 + SZ A + (64 + N.data.length + N.target.size + csX N.xs) := by
 have h1 : cst (s1 N A) r0 = 64 + SZ A := by
  unfold cst
  show 64 + 0 + 0 + 0 + csE 1 (fun _ => false) (A.map (fun a => (⟨1, a, 2⟩ : En))) = _
  rw [csE_one]
 have h2 : cst (s1 N A) N = 64 + N.data.length + N.target.size + csX N.xs := by
  unfold cst
  rw [hN, show (s1 N A).E = A.map (fun a => (⟨1, a, 2⟩ : En)) from rfl, csE_none _ (fun y hy => by
   obtain ⟨a, _, rfl⟩ := List.mem_map.1 hy
   show (1 : Int) ≠ 2
   decide)]
  rfl
 show (if (false = false) then cst (s1 N A) r0 else 0) + ((if (false = false) then cst (s1 N A) N else 0) + 0) = _
 rw [if_pos rfl, if_pos rfl, h1, h2, Nat.add_zero]
theorem Up.used {w : World} {p : Nat} {c : Nat → Cl} {q : Int × Int} {u : Us} (h : Up w p c q u) :
  Calls Try.prog 8 #[.pointer (some ⟨p, 0, none⟩)] w fun e w' => e = .returned (.agg #[.int .i64 (u.L.length : Nat), .int .i64 (wrap64 (csN u (fun _ => false) u.L : Nat))]) ∧ Below w.heap.size w w' := by
 have hw := h.wf
 obtain ⟨pr, m, nb, eb, h1, _⟩ := h
 exact uUsed_any w h1 (fun n hn hk => hw.kin0 (by rw [knd_some (nd_mem hw.ino hn)]; exact hk))
section
variable {W0 w w' : World} {p : Nat} {c : Nat → Cl} {q : Int × Int} {u : Us} {B B' : List (Nat × Array Value × TypeId)}
theorem LS.frB (h : LS W0 w p c q u B) {S : Nat → Prop} (hf : Fr S w w') (hS : ∀ k, S k → c k = .no ∧ W0.heap.size ≤ k) (hB : ∀ x ∈ B', x ∈ B ∧ ¬ S x.1) : LS W0 w' p c q u B' :=
 ⟨h.up.fr hf (fun k hk hx => hk (hS k hx).1), h.bel.trans (hf.below _ h.bel.size (fun k hk => (hS k hk).2)), h.col, fun x hx => by
  obtain ⟨q1, q2⟩ := hB x hx
  obtain ⟨h1, h2, h3⟩ := h.box x q1
  exact ⟨(hf.block _ (heap_lt h1) q2).trans h1, h2, h3⟩⟩
end
def nm (i : Nat) : ByteArray := ⟨#[(49 + i).toUInt8]⟩
theorem nm_inj {i j : Nat} (hi : i < 5) (hj : j < 5) (h : nm i = nm j) : i = j := by
 have e : ∀ i < 5, ∀ j < 5, nm i = nm j → i = j := by decide
 exact e i hi j hj h
theorem nm_val : ∀ i < 5, valid (nm i).toList = 0 := fun i hi => by
 have : i = 0 ∨ i = 1 ∨ i = 2 ∨ i = 3 ∨ i = 4 := by omega
 rcases this with rfl | rfl | rfl | rfl | rfl <;> (unfold nm; rw [toList_mk]; decide)
def rst (s : ByteArray) (i k : Nat) : List ByteArray := ((List.range' i (k - i)).map nm).filter (fun a => !decide (a = s))
theorem rst_nil (s : ByteArray) (k : Nat) : rst s k k = [] := by simp [rst]
theorem rst_snoc (s : ByteArray) (k : Nat) : rst s 0 (k + 1) = if nm k = s then rst s 0 k else rst s 0 k ++ [nm k] := by
 unfold rst
 rw [Nat.sub_zero, Nat.sub_zero, List.range'_concat, List.map_append, List.filter_append]
 by_cases e : nm k = s
 ·rw [if_pos e]; simp [e]
 ·rw [if_neg e]; simp [e]
theorem rst_cons (s : ByteArray) {i k : Nat} (h : i < k) : rst s i k = if nm i = s then rst s (i + 1) k else nm i :: rst s (i + 1) k := by
 unfold rst
 have : k - i = (k - (i + 1)) + 1 := by omega
 rw [this, List.range'_succ, List.map_cons]
 by_cases e : nm i = s
 ·rw [if_pos e, List.filter_cons_of_neg (by simp [e])]
 ·rw [if_neg e, List.filter_cons_of_pos (by simp [e])]
theorem rst_mem {s : ByteArray} {i k : Nat} {a : ByteArray} (h : a ∈ rst s i k) : a ≠ s ∧ ∃ j, i ≤ j ∧ j < k ∧ a = nm j := by
 unfold rst at h
 rw [List.mem_filter] at h
 obtain ⟨h1, h2⟩ := h
 obtain ⟨j, hj, rfl⟩ := List.mem_map.1 h1
 rw [List.mem_range'_1] at hj
 exact ⟨by simpa using h2, j, hj.1, by omega, rfl⟩
theorem rst_not (s : ByteArray) {i j k : Nat} (hj : j < i) (hk : k ≤ 5) (hjk : j < 5) : nm j ∉ rst s i k := fun h => by
 obtain ⟨_, x, h1, h2, h3⟩ := rst_mem h
 have := nm_inj hjk (by omega) h3
 omega
theorem rst_notk (s : ByteArray) {i k : Nat} (hk : k < 5) : nm k ∉ rst s i k := fun h => by
 obtain ⟨_, x, h1, h2, h3⟩ := rst_mem h
 have := nm_inj hk (by omega) h3
 omega
theorem rst_len (s : ByteArray) (i k : Nat) : (rst s i k).length ≤ k - i := by
 unfold rst
 refine Nat.le_trans (List.length_filter_le _ _) ?_
 simp
theorem filter_id {A : List ByteArray} {a : ByteArray} (h : a ∉ A) : A.filter (fun b => !decide (b = a)) = A := by
 rw [List.filter_eq_self]
 intro x hx
 have : x ≠ a := fun e => h (e ▸ hx)
 simp [this]
def st1 (N : Nod) (A : List ByteArray) : Us := if A = [] then s0 else s1 N A
theorem rm_s {N : Nod} (hN : N.ino = 2) {s : ByteArray} {A : List ByteArray} (h : s ∉ A) : rm (s1 N (s :: A)) 1 s = (0, st1 N A) := by
 rw [s1_rm hN (by simp), List.filter_cons_of_neg (by simp), filter_id h]; rfl
theorem sm_st1 (N : Nod) (A : List ByteArray) (h : A.length ≤ 1000) : Sm (st1 N A) := by
 unfold st1
 split
 ·exact ⟨by simp [s0], by simp [s0], by simp [s0]⟩
 ·exact sm_s1 N A h
set_option maxRecDepth 100000 in
theorem same17_any (a b : Option Addr) (n m c d : Nat) (xs : List (ByteArray × List Int)) (w : World) (ha : XsR w a n xs) (hb : XsR w b m xs) (hn : n ≤ 1000000) (hm : m ≤ 1000000) :
  Calls Try.prog 12 #[.slice a n c, .slice b m d] w fun e w' => e = .returned (.bool true) ∧ ∃ j, w' = w.drewN j := by
 have HS := hide (xsSame_any a b n m c d xs xs w ha hb hn hm true (by simp))
 clear ha hb
 go_enter Try.func12, Try.ntmps12
 go_wp2_with (go_at_call 27; refine HS.out.mono ?_; rintro e w' ⟨rfl, j, rfl⟩)
 go_ret
 exact ⟨rfl, j, rfl⟩
end Upr
end Go.Proofs.Ytdobojnokgkbpaa
namespace Go.Proofs.Ytdobojnokgkbpaa
open Go.RowKit Go.Maps
open Nam Tre Tab
namespace Upr
theorem kl_int (d : Nat) {n : Int} (h : (Lit.int .i64 n).wf = true) : Try.prog.keyLits (d + 1) 3 [.int .i64 n] = some [.int .i64 n] := by
 unfold Program.keyLits
 rw [Try.underlying3]
 simp [h]
theorem kl_attr (d : Nat) {a b c : Int} (h1 : (Lit.int .i64 a).wf = true) (h2 : (Lit.int .i64 b).wf = true) (h3 : (Lit.int .i64 c).wf = true) : Try.prog.keyLits (d + 2) 24 [.int .i64 a, .int .i64 b, .int .i64 c] = some [.int .i64 a, .int .i64 b, .int .i64 c] := by
 have e1 : Try.prog.cellsOf 3 = 1 := by kernel_rfl
 have e3 : Try.prog.cellsOf 24 = 3 := by kernel_rfl
 unfold Program.keyLits
 rw [Try.underlying24]
 simp [e1, e3, kl_int d h1, kl_int d h2, kl_int d h3]
theorem kl_stat (d : Nat) {k a b c l z : Int} (h0 : (Lit.int .i64 k).wf = true) (h1 : (Lit.int .i64 a).wf = true) (h2 : (Lit.int .i64 b).wf = true) (h3 : (Lit.int .i64 c).wf = true) (h4 : (Lit.int .i64 l).wf = true) (h5 : (Lit.int .i64 z).wf = true) :
  Try.prog.keyLits (d + 3) 39 [.int .i64 k, .int .i64 a, .int .i64 b, .int .i64 c, .int .i64 l, .int .i64 z] = some [.int .i64 k, .int .i64 a, .int .i64 b, .int .i64 c, .int .i64 l, .int .i64 z] := by
 have e1 : Try.prog.cellsOf 3 = 1 := by kernel_rfl
 have e3 : Try.prog.cellsOf 24 = 3 := by kernel_rfl
 have e6 : Try.prog.cellsOf 39 = 6 := by kernel_rfl
 unfold Program.keyLits
 rw [Try.underlying39]
 simp [e1, e3, e6, kl_int (d + 1) h0, kl_attr d h1 h2 h3, kl_int (d + 1) h4, kl_int (d + 1) h5]
theorem kl_quota (d : Nat) {a b : Int} (h1 : (Lit.int .i64 a).wf = true) (h2 : (Lit.int .i64 b).wf = true) : Try.prog.keyLits (d + 2) 33 [.int .i64 a, .int .i64 b] = some [.int .i64 a, .int .i64 b] := by
 have e1 : Try.prog.cellsOf 3 = 1 := by kernel_rfl
 have e3 : Try.prog.cellsOf 33 = 2 := by kernel_rfl
 unfold Program.keyLits
 rw [Try.underlying33]
 simp [e1, e3, kl_int d h1, kl_int d h2]
theorem eq_stat {k a b c l z : Int} (W : World) (h0 : (Lit.int .i64 k).wf = true) (h1 : (Lit.int .i64 a).wf = true) (h2 : (Lit.int .i64 b).wf = true) (h3 : (Lit.int .i64 c).wf = true) (h4 : (Lit.int .i64 l).wf = true) (h5 : (Lit.int .i64 z).wf = true) :
  (Op.equalIn 10000 39 (.agg #[.int .i64 k, .int .i64 a, .int .i64 b, .int .i64 c, .int .i64 l, .int .i64 z]) (.agg #[.int .i64 k, .int .i64 a, .int .i64 b, .int .i64 c, .int .i64 l, .int .i64 z])).run Try.prog W = .ok true W := by
 have hL := kl_stat 0 h0 h1 h2 h3 h4 h5
 obtain ⟨r, q1, q2⟩ := run_equalIn_deep (P := Try.prog) 9997 3 39 (by kernel_rfl) W _ _ (.agg #[.int .i64 k, .int .i64 a, .int .i64 b, .int .i64 c, .int .i64 l, .int .i64 z]) (.agg #[.int .i64 k, .int .i64 a, .int .i64 b, .int .i64 c, .int .i64 l, .int .i64 z]) _ _ (by kernel_rfl) (by kernel_rfl) hL hL
 obtain rfl : r = true := by simpa using q2
 exact q1
theorem stat_ne {k a b c l z : Int} (W : World) (h0 : (Lit.int .i64 k).wf = true) (h1 : (Lit.int .i64 a).wf = true) (h2 : (Lit.int .i64 b).wf = true) (h3 : (Lit.int .i64 c).wf = true) (h4 : (Lit.int .i64 l).wf = true) (h5 : (Lit.int .i64 z).wf = true) :
  (binOp .neq 39 (.agg #[.int .i64 k, .int .i64 a, .int .i64 b, .int .i64 c, .int .i64 l, .int .i64 z]) (.agg #[.int .i64 k, .int .i64 a, .int .i64 b, .int .i64 c, .int .i64 l, .int .i64 z])).run Try.prog W = .ok (.bool false) W := by
 rw [run_neq_struct, eq_stat W h0 h1 h2 h3 h4 h5]; rfl
theorem eq_quota {a b : Int} (W : World) (h1 : (Lit.int .i64 a).wf = true) (h2 : (Lit.int .i64 b).wf = true) :
  (Op.equalIn 10000 33 (.agg #[.int .i64 a, .int .i64 b]) (.agg #[.int .i64 a, .int .i64 b])).run Try.prog W = .ok true W := by
 have hL := kl_quota 0 h1 h2
 obtain ⟨r, q1, q2⟩ := run_equalIn_deep (P := Try.prog) 9998 2 33 (by kernel_rfl) W _ _ (.agg #[.int .i64 a, .int .i64 b]) (.agg #[.int .i64 a, .int .i64 b]) _ _ (by kernel_rfl) (by kernel_rfl) hL hL
 obtain rfl : r = true := by simpa using q2
 exact q1
theorem quota_eq {a b : Int} (W : World) (h1 : (Lit.int .i64 a).wf = true) (h2 : (Lit.int .i64 b).wf = true) :
  (binOp .eql 33 (.agg #[.int .i64 a, .int .i64 b]) (.agg #[.int .i64 a, .int .i64 b])).run Try.prog W = .ok (.bool true) W := by
 rw [run_eql_struct, eq_quota W h1 h2]; rfl
theorem quota_ne {a b : Int} (W : World) (h1 : (Lit.int .i64 a).wf = true) (h2 : (Lit.int .i64 b).wf = true) :
  (binOp .neq 33 (.agg #[.int .i64 a, .int .i64 b]) (.agg #[.int .i64 a, .int .i64 b])).run Try.prog W = .ok (.bool false) W := by
 rw [run_neq_struct, eq_quota W h1 h2]; rfl
end Upr
end Go.Proofs.Ytdobojnokgkbpaa
namespace Go.Proofs.Ytdobojnokgkbpaa
open Go.RowKit Go.Maps
open Nam Tre Tab
open Lz (g)
namespace Upr
theorem box10 {W : World} {b : Nat} {v : Nv} {t : TypeId} (h : W.heap[b]? = some (.cells v.cells t (0, 0))) : W.cell? ⟨b, 0, none⟩ = some (.slice v.na v.nn v.nc) ∧ W.cell? ⟨b, 1, none⟩ = some (.int .i64 v.ino) ∧ W.cell? ⟨b, 2, none⟩ = some (.int .i64 v.kind) ∧ W.cell? ⟨b, 3, none⟩ = some (.int .i64 v.mode) ∧ W.cell? ⟨b, 4, none⟩ = some (.int .i64 v.uid) ∧ W.cell? ⟨b, 5, none⟩ = some (.int .i64 v.gid) ∧ W.cell? ⟨b, 6, none⟩ = some (.slice v.da v.dn v.dc) ∧ W.cell? ⟨b, 7, none⟩ = some (.string v.tg) ∧ W.cell? ⟨b, 8, none⟩ = some (.slice v.xa v.xn v.xc) ∧ W.cell? ⟨b, 9, none⟩ = some (.bool v.op) := by
 simp [World.cell?, h, Nv.cells]
theorem box6 {W : World} {b : Nat} {x0 x1 x2 x3 x4 x5 : Value} {t : TypeId} (h : W.heap[b]? = some (.cells #[x0, x1, x2, x3, x4, x5] t (0, 0))) : W.cell? ⟨b, 0, none⟩ = some x0 ∧ W.cell? ⟨b, 1, none⟩ = some x1 ∧ W.cell? ⟨b, 2, none⟩ = some x2 ∧ W.cell? ⟨b, 3, none⟩ = some x3 ∧ W.cell? ⟨b, 4, none⟩ = some x4 ∧ W.cell? ⟨b, 5, none⟩ = some x5 := by
 simp [World.cell?, h]
theorem box2 {W : World} {b : Nat} {x0 x1 : Value} {t : TypeId} (h : W.heap[b]? = some (.cells #[x0, x1] t (0, 0))) : W.cell? ⟨b, 0, none⟩ = some x0 ∧ W.cell? ⟨b, 1, none⟩ = some x1 := by
 simp [World.cell?, h]
theorem fz6 {W : World} {b : Nat} {cs : Array Value} {t : TypeId} (h : W.heap[b]? = some (.cells cs t (0, 0))) : ∀ j, W.frozen? ⟨b, j, none⟩ = false := fun j => by simp [World.frozen?, h]
theorem LS.set6 {W0 w : World} {p : Nat} {c : Nat → Cl} {q : Int × Int} {u : Us} {B B' : List (Nat × Array Value × TypeId)} (h : LS W0 w p c q u B) {b : Nat} {x0 x1 x2 x3 x4 x5 : Value} {t : TypeId} (hm : (b, #[x0, x1, x2, x3, x4, x5], t) ∈ B) (hB : ∀ x ∈ B', x ∈ B ∧ ¬ x.1 = b) (y0 y1 y2 y3 y4 y5 : Value) :
  LS W0 ((((((w.setCell ⟨b, 0, none⟩ y0).setCell ⟨b, 1, none⟩ y1).setCell ⟨b, 2, none⟩ y2).setCell ⟨b, 3, none⟩ y3).setCell ⟨b, 4, none⟩ y4).setCell ⟨b, 5, none⟩ y5) p c q u ((b, #[y0, y1, y2, y3, y4, y5], t) :: B') := by
 obtain ⟨h1, h2, h3⟩ := h.box _ hm
 have hf : Fr (fun k => k = b) w ((((((w.setCell ⟨b, 0, none⟩ y0).setCell ⟨b, 1, none⟩ y1).setCell ⟨b, 2, none⟩ y2).setCell ⟨b, 3, none⟩ y3).setCell ⟨b, 4, none⟩ y4).setCell ⟨b, 5, none⟩ y5) :=
  ((((((Fr.refl (fun k => k = b) w).set (p := ⟨b, 0, none⟩) _ (fun _ => rfl)).set (p := ⟨b, 1, none⟩) _ (fun _ => rfl)).set (p := ⟨b, 2, none⟩) _ (fun _ => rfl)).set (p := ⟨b, 3, none⟩) _ (fun _ => rfl)).set (p := ⟨b, 4, none⟩) _ (fun _ => rfl)).set (p := ⟨b, 5, none⟩) _ (fun _ => rfl)
 have hL := h.frB (B' := B') hf (fun k hk => by rw [show k = b from hk]; exact ⟨h2, h3⟩) hB
 refine ⟨hL.up, hL.bel, hL.col, fun x hx => ?_⟩
 rcases List.mem_cons.1 hx with rfl | hx
 ·exact ⟨(heap_setCell_self (heap_setCell_self (heap_setCell_self (heap_setCell_self (heap_setCell_self (heap_setCell_self h1 _) _) _) _) _) _).trans rfl, h2, h3⟩
 ·exact hL.box x hx
set_option maxRecDepth 100000 in
set_option maxHeartbeats 4000000 in
theorem makes_walk (v : Nv) (n : Nod) (s : ByteArray) (more : Int) (w : World) (f0 : Rep w v n) (hsz : s.size ≤ maxLen) (wm : (Lit.int .i64 more).wf = true) :
  Calls Try.prog 3 #[.agg v.cells, .string s, .int .i64 more] w fun e w' => e = .returned (.bool true) ∧ Below w.heap.size w w' := by
 have HRep := hide f0
 clear f0
 obtain ⟨wb, hwb⟩ : ∃ wb, wb = w.alloc (.cells v.cells 28) := ⟨_, rfl⟩
 have HW0 : Hid (Below w.heap.size w wb) := by rw [hwb]; exact below_one _ _
 have HBx : Hid (wb.heap[w.heap.size]? = some (.cells v.cells 28 (0, 0))) := by rw [hwb]; exact heap_new rfl
 have HSh := hide (ushown_any wb)
 rw [hwb] at HSh
 go_enter Try.func3, Try.ntmps3
 go_wp2_with (go_at_call 6; refine HSh.out.mono ?_; rintro e ws ⟨rfl, hb0⟩; rw [← hwb] at hb0; have HB0 := hide hb0; clear hb0)
 refine (uNew_any 100 100000 ws).mono ?_
 rintro e wn ⟨p, c, rfl, hup, hb, hc⟩
 have HL : Hid (LS w wn p c (100, 100000) u0 [(w.heap.size, v.cells, 28)]) := by
  have h1 := LS.new (W0 := w) (w := ws) (HW0.out.trans (HB0.out.mono HW0.out.size)) hup hb hc
  have h2 : w.heap.size < wb.heap.size := heap_lt HBx.out
  have h3 : ws.heap[w.heap.size]? = some (.cells v.cells 28 (0, 0)) := (HB0.out.block _ h2).trans HBx.out
  refine ⟨h1.up, h1.bel, h1.col, fun x hx => ?_⟩
  obtain rfl := List.mem_singleton.1 hx
  exact ⟨(hb.block _ (heap_lt h3)).trans h3, hc _ (heap_lt h3), Nat.le_refl _⟩
 clear hup hb hc HB0 HW0 HBx HSh
 have HUs := hide HL.out.up.used
 rw [csN_u0, show wrap64 ((64 : Nat) : Int) = 64 from by unfold wrap64; omega, show ((u0.L.length : Nat) : Int) = 1 from rfl] at HUs
 go_wp2_with (first
  | (go_at_call 8; refine HUs.out.mono ?_; rintro e w1 ⟨rfl, hb1⟩; have HL1 := hide ((HL.out.below hb1).alloc #[.int .i64 1, .int .i64 64] 33); clear hb1; obtain ⟨c0, c1, c2, c3, c4, c5, c6, c7, c8, c9⟩ := box10 (v := v) (t := 28) (HL1.out.at (b := w.heap.size) (by simp)))
  | (go_at_call 9; fail))
 clear c0 c1 c2 c3 c4 c5 c6 c7 c8 c9 HUs HL
 have hMk := uMake_any 1 s v n _ HL1.out.up sm_u0 Upr.w1 hsz (fun W hW => HRep.out.below (HL1.out.old hW))
 rw [mk_first] at hMk
 by_cases hv : valid s.toList = 0
 ·rw [if_neg (by simp [hv])] at hMk
  by_cases hm : mayU n = true
  ·rw [if_neg (by simp [hm])] at hMk
   have HMk : Hid (Calls Try.prog 9 #[.pointer (some ⟨p, 0, none⟩), .int .i64 1, .string s, .agg v.cells] _ fun e w' => e = .returned (.tuple #[.int .i64 2, .int .i64 0]) ∧ ∃ c', LS w w' p c' (100, 100000) (s1 (as2 n) [s]) [(w1.heap.size, #[.int .i64 1, .int .i64 64], 33), (w.heap.size, v.cells, 28)]) :=
    hMk.mono (by rintro e w2 ⟨h0, c2, h1, h2, h3⟩; exact ⟨h0, c2, HL1.out.step h1 h2 h3⟩)
   clear hMk
   obtain ⟨N, hN⟩ : ∃ N, N = as2 n := ⟨_, rfl⟩
   rw [← hN] at HMk
   have HN := hide (show N.ino = 2 ∧ N.kind = v.kind ∧ N.mode = v.mode ∧ N.uid = v.uid ∧ N.gid = v.gid ∧ N.data.length = v.dn ∧ N.target = v.tg ∧ N.xs = n.xs ∧ N.opq = false by rw [hN]; exact ⟨rfl, HRep.out.kind, HRep.out.mode, HRep.out.uid, HRep.out.gid, HRep.out.data.1, HRep.out.tg, rfl, rfl⟩)
   clear hN
   refine HMk.out.mono ?_
   rintro e w2 ⟨rfl, c2, hL2⟩
   have HL2 := hide hL2
   clear hL2 HMk HL1
   obtain ⟨d0, d1, d2, d3, d4, d5, d6, d7, d8, d9⟩ := box10 (v := v) (t := 28) (HL2.out.at (b := w.heap.size) (by simp))
   have HMs := hide (may_small hm)
   have ms1 := HMs.out.1
   have ms3 := HMs.out.2.2.1
   have hdl := HRep.out.data.1
   have hxl := HRep.out.xs.1
   have hdn : (v.dn : Int) ≤ 4096 := by omega
   have hxn : (v.xn : Int) ≤ 10 := by omega
   have t1 : decide ((10 : Int) < v.xn) = false := by simp; omega
   have t2 : decide ((4096 : Int) < v.dn) = false := by simp; omega
   have HSt : Hid (Calls Try.prog 10 #[.pointer (some ⟨p, 0, none⟩), .int .i64 2] w2 fun e w' => e = .returned (.tuple #[.agg #[.int .i64 v.kind, .int .i64 v.mode, .int .i64 v.uid, .int .i64 v.gid, .int .i64 1, .int .i64 ((v.dn : Int) + v.tg.size)], .int .i64 0]) ∧ Below w2.heap.size w2 w') := by
    have h := HL2.out.up.stat 2 Upr.w2 (sm_s1 _ _ (by simp))
    rw [(stat_s1 HN.out.1 _).1, (stat_s1 HN.out.1 _).2, HN.out.2.1, HN.out.2.2.1, HN.out.2.2.2.1, HN.out.2.2.2.2.1, HN.out.2.2.2.2.2.1, HN.out.2.2.2.2.2.2.1, Int.natCast_add] at h
    exact h
   clear hv hm hdl hxl ms1 ms3 hwb
   go_wp2_with (first
    | (go_at_call 10; refine HSt.out.mono ?_; rintro e w3 ⟨rfl, hb3⟩; have HZ1 := hide (heap_lt ((HL2.out.below hb3).at (b := w1.heap.size) (t := 33) (cs := #[.int .i64 1, .int .i64 64]) (by simp))); have HL3 := hide ((HL2.out.below hb3).alloc #[.int .i64 v.kind, .int .i64 v.mode, .int .i64 v.uid, .int .i64 v.gid, .int .i64 1, .int .i64 ((v.dn : Int) + v.tg.size)] 39); clear hb3))
   have HXa : Hid (∀ W, LS w W p c2 (100, 100000) (s1 N [s]) [(w3.heap.size, #[.int .i64 v.kind, .int .i64 v.mode, .int .i64 v.uid, .int .i64 v.gid, .int .i64 1, .int .i64 ((v.dn : Int) + v.tg.size)], 39), (w1.heap.size, #[.int .i64 1, .int .i64 64], 33), (w.heap.size, v.cells, 28)] →
     Calls Try.prog 11 #[.pointer (some ⟨p, 0, none⟩), .int .i64 2] W fun e w' => ∃ ao' c', e = .returned (.tuple #[.slice ao' n.xs.length c', .int .i64 0]) ∧ NewX W w' ao' n.xs.length c' n.xs) := fun W hW => by
    have h := hW.up.xattrs 2 Upr.w2
    have e1 : xaV (s1 N [s]) 2 = n.xs := by
     unfold xaV
     rw [s1_nd2 HN.out.1]
     exact HN.out.2.2.2.2.2.2.2.1
    have e2 : statE (s1 N [s]) 2 = 0 := by unfold statE; rw [s1_nd2 HN.out.1]; rfl
    rw [e1, e2] at h
    exact h
   clear HSt HL2 d0 d1 d2 d3 d4 d5 d6 d7 d8 d9
   refine (HXa.out _ HL3.out).mono ?_
   rintro e w4 ⟨ao, xc, rfl, hX⟩
   have HL4 := hide (HL3.out.below hX.bel)
   have HSm := hide (same17_any ao v.xa n.xs.length v.xn xc v.xc n.xs w4 hX.xs.xsr (HRep.out.below HL4.out.bel).xs (by have := HMs.out.2.2.1; omega) (by omega))
   obtain ⟨d0, d1, d2, d3, d4, d5, d6, d7, d8, d9⟩ := box10 (v := v) (t := 28) (HL4.out.at (b := w.heap.size) (by simp))
   clear hX HXa HL3
   have HL5 : Hid (∀ j, LS w (w4.drewN j) p c2 (100, 100000) (s1 N [s]) [(w3.heap.size, #[.int .i64 v.kind, .int .i64 v.mode, .int .i64 v.uid, .int .i64 v.gid, .int .i64 1, .int .i64 ((v.dn : Int) + v.tg.size)], 39), (w1.heap.size, #[.int .i64 1, .int .i64 64], 33), (w.heap.size, v.cells, 28)]) := fun j => HL4.out.below (drewN_below _ _)
   have HOp : Hid (∀ j, Calls Try.prog 13 #[.pointer (some ⟨p, 0, none⟩), .int .i64 2] (w4.drewN j) fun e w' => e = .returned (.bool false) ∧ w' = w4.drewN j) := fun j => by
    have h := (HL5.out j).up.opq 2 Upr.w2
    rw [s1_nd2 HN.out.1] at h
    simp only [Option.map_some, Option.getD_some] at h
    rw [HN.out.2.2.2.2.2.2.2.2] at h
    exact h
   have htg : (v.tg.size : Int) ≤ 200 := by have := HMs.out.2.1; rw [HRep.out.tg] at this; omega
   have hsb := HMs.out.2.2.2.2
   rw [HRep.out.mode, HRep.out.uid, HRep.out.gid, HRep.out.kind] at hsb
   have wk := wf_i64 (x := v.kind) (by omega) (by omega)
   have sne := fun W => stat_ne W (k := v.kind) (a := v.mode) (b := v.uid) (c := v.gid) (l := 1) (z := (v.dn : Int) + v.tg.size) wk (wf_i64 (by omega) (by omega)) (wf_i64 (by omega) (by omega)) (wf_i64 (by omega) (by omega)) Upr.w1 (wf_i64 (by omega) (by omega))
   clear hsb wk
   go_wp2_with (first
    | (go_at_call 12; refine HSm.out.mono ?_; rintro e wx ⟨rfl, j, rfl⟩; obtain ⟨f0, f1, f2, f3, f4, f5, f6, f7, f8, f9⟩ := box10 (v := v) (t := 28) ((HL5.out j).at (b := w.heap.size) (by simp)); obtain ⟨g0, g1, g2, g3, g4, g5⟩ := box6 ((HL5.out j).at (b := w3.heap.size) (t := 39) (cs := #[.int .i64 v.kind, .int .i64 v.mode, .int .i64 v.uid, .int .i64 v.gid, .int .i64 1, .int .i64 ((v.dn : Int) + v.tg.size)]) (by simp)))
    | (go_at_call 13; refine (HOp.out _).mono ?_; rintro e wy ⟨rfl, hwy⟩; obtain rfl := hwy.symm; clear hwy))
   clear d0 d1 d2 d3 d4 d5 d6 d7 d8 d9 f0 f1 f2 f3 f4 f5 f6 f7 f8 f9 g0 g1 g2 g3 g4 g5 HSm HOp sne t1 t2
   have HL6 := hide (HL5.out j)
   clear HL5 HL4
   have HXr : Hid (∀ W, Below w.heap.size w W → XsR W v.xa v.xn n.xs) := fun W hW => (HRep.out.below hW).xs
   go_loopw [18, 19] (fun s18 s19 wr => ∃ i : Nat, s18 = .int .i64 (wrap64 ((64 + (v.dn + v.tg.size) + s.size + csX (n.xs.take i) : Nat) : Int)) ∧ s19 = .int .i64 i ∧ i ≤ v.xn ∧ LS w wr p c2 (100, 100000) (s1 N [s]) [(w3.heap.size, #[.int .i64 v.kind, .int .i64 v.mode, .int .i64 v.uid, .int .i64 v.gid, .int .i64 1, .int .i64 ((v.dn : Int) + v.tg.size)], 39), (w1.heap.size, #[.int .i64 1, .int .i64 64], 33), (w.heap.size, v.cells, 28)]) (fun _ s19 _ => v.xn - (intOf s19).toNat)
   case atStart => exact ⟨0, by rw [show csX (n.xs.take 0) = 0 from rfl]; rfl, rfl, by omega, HL6.out⟩
   case round =>
    clear HL6
    obtain ⟨i, rfl, rfl, hi, hl⟩ := hrel
    have HLr := hide hl
    clear hl
    obtain ⟨_, _, _, _, _, _, _, _, d8, _⟩ := box10 (v := v) (t := 28) (HLr.out.at (b := w.heap.size) (by simp))
    by_cases hgo : i < v.xn
    ·have g1 : (i : Int) < v.xn := by omega
     have hx := HXr.out wr HLr.out.bel
     obtain ⟨b, off, hxa, hlt, hx⟩ := hx.2.resolve_left (by omega)
     obtain ⟨e1, va, vn, vc, e2, hbs, _⟩ := hx i hgo
     have hvn := hbs.1
     have HSu := hide (csX_succ n.xs i (by rw [HRep.out.xs.1]; exact hgo))
     rw [hxa] at d8
     have HT : Hid (((64 + (v.dn + v.tg.size) + s.size + csX (n.xs.take (i + 1)) : Nat) : Int) = ((64 + (v.dn + v.tg.size) + s.size + csX (n.xs.take i) : Nat) : Int) + (((gx n.xs i).1.size : Nat) + (vn : Int))) := by
      show _ = _
      have := HSu.out
      omega
     clear hx hbs
     go_wp2
     go_region
     go_wp2
     refine ⟨⟨i + 1, ?_, by go_num, by omega, HLr.out.below (below_drewN (Below.refl _ _) 1)⟩, by simp [intOf]; omega⟩
     rw [wrap_wrap, Int.add_assoc, wrap_wrap, HT.out]
     congr 2
    ·obtain rfl : i = v.xn := by omega
     have hti : n.xs.take v.xn = n.xs := List.take_of_length_le (by rw [HRep.out.xs.1]; omega)
     rw [hti]
     have HUs : Hid (∀ W, LS w W p c2 (100, 100000) (s1 N [s]) [(w3.heap.size, #[.int .i64 v.kind, .int .i64 v.mode, .int .i64 v.uid, .int .i64 v.gid, .int .i64 1, .int .i64 ((v.dn : Int) + v.tg.size)], 39), (w1.heap.size, #[.int .i64 1, .int .i64 64], 33), (w.heap.size, v.cells, 28)] →
       Calls Try.prog 8 #[.pointer (some ⟨p, 0, none⟩)] W fun e w' => e = .returned (.agg #[.int .i64 2, .int .i64 (wrap64 (64 + wrap64 ((64 + (v.dn + v.tg.size) + s.size + csX n.xs : Nat) : Int)))]) ∧ Below W.heap.size W w') := fun W hW => by
      have h := hW.up.used
      rw [csN_s1 HN.out.1, HN.out.2.2.2.2.2.1, HN.out.2.2.2.2.2.2.1, HN.out.2.2.2.2.2.2.2.1] at h
      rw [wrap_wrap2]
      have e : ((64 + SZ [s] + (64 + v.dn + v.tg.size + csX n.xs) : Nat) : Int) = 64 + ((64 + (v.dn + v.tg.size) + s.size + csX n.xs : Nat) : Int) := by
       simp [SZ]; omega
      rw [e] at h
      exact h
     have qeq := fun W => eq_quota (a := 2) (b := wrap64 (64 + wrap64 ((64 + (v.dn + v.tg.size) + s.size + csX n.xs : Nat) : Int))) W Upr.w2 (wrap64_wf _)
     have qne := fun W => quota_ne (a := 2) (b := wrap64 (64 + wrap64 ((64 + (v.dn + v.tg.size) + s.size + csX n.xs : Nat) : Int))) W Upr.w2 (wrap64_wf _)
     generalize ((64 + (v.dn + v.tg.size) + s.size + csX n.xs : Nat) : Int) = Ttt at *
     obtain ⟨Qb, hQb⟩ : ∃ Qb, wrap64 (64 + wrap64 Ttt) = Qb := ⟨_, rfl⟩
     rw [hQb] at HUs qne qeq
     have hQb2 : IntKind.i64.wrap (64 + wrap64 Ttt) = Qb := by rw [← hQb, IntKind.wrap_i64]; unfold wrap64; rfl
     generalize wrap64 Ttt = Ttw at *
     obtain ⟨k0, k1⟩ := box2 (HLr.out.at (b := w1.heap.size) (t := 33) (cs := #[.int .i64 1, .int .i64 64]) (by simp))
     have HLd := hide (HLr.out.below (below_drewN (Below.refl _ _) 1))
     clear hti hi hgo hdn hxn htg hQb
     have w11 : IntKind.i64.wrap ((1 : Int) + 1) = 2 := by rw [IntKind.wrap_i64]; omega
     have w12 : IntKind.i64.wrap (2 : Int) = 2 := by rw [IntKind.wrap_i64]; omega
     go_wp2
     go_cut [149] from 139 to 148 (fun s149 wx => s149 = .bool false ∧ LS w wx p c2 (100, 100000) (s1 N [s]) [(w3.heap.size, #[.int .i64 v.kind, .int .i64 v.mode, .int .i64 v.uid, .int .i64 v.gid, .int .i64 1, .int .i64 ((v.dn : Int) + v.tg.size)], 39), (w1.heap.size, #[.int .i64 1, .int .i64 64], 33), (w.heap.size, v.cells, 28)])
     case first =>
      go_region_held3 (fun wX => wX.cell? ⟨w1.heap.size, 0, none⟩ = some (.int .i64 1) ∧ wX.cell? ⟨w1.heap.size, 1, none⟩ = some (.int .i64 64)) (go_keep)
       ((go_at_call 8; refine (HUs.out _ HLd.out).mono ?_; rintro e w9 ⟨rfl, hb9⟩; have HL9 := hide (HLd.out.below hb9); obtain ⟨k2, k3⟩ := box2 (HL9.out.at (b := w1.heap.size) (t := 33) (cs := #[.int .i64 1, .int .i64 64]) (by simp)); clear hb9))
      all_goals
       go_wp2
       go_meet
       case rel => exact ⟨rfl, HL9.out⟩
     case rest =>
      obtain ⟨rfl, hlx⟩ := hcut
      have HZ2 := hide (heap_lt (hlx.at (b := w3.heap.size) (t := 39) (cs := #[.int .i64 v.kind, .int .i64 v.mode, .int .i64 v.uid, .int .i64 v.gid, .int .i64 1, .int .i64 ((v.dn : Int) + v.tg.size)]) (by simp)))
      have HL7 := hide (hlx.alloc #[.string (nm 0), .string (nm 1), .string (nm 2), .string (nm 3), .string (nm 4)] 9)
      have hkd0 : 0 ≤ kd17 more 6 := Int.emod_nonneg _ (by omega)
      have hkd1 : kd17 more 6 < 6 := Int.emod_lt_of_pos _ (by omega)
      have HKd : Hid (∀ W, Calls Try.prog 14 #[.int .i64 more, .int .i64 6] W fun e w' => e = .returned (.int .i64 (kd17 more 6)) ∧ w' = W) := fun W => kind17 more 6 W (by omega) (by omega) (wf_i64_bd wm)
      generalize kd17 more 6 = kk at *
      clear hlx HLd HLr HUs qne qeq k0 k1 hQb2 w11 w12 wm d8
      go_wp2
      go_loopw [21, 22] (fun s21 s22 wr => ∃ i : Nat, s21 = .int .i64 ((rst s 0 i).length : Nat) ∧ s22 = .int .i64 i ∧ i ≤ 5 ∧ LS w wr p c2 (100, 100000) (s1 N (s :: rst s 0 i)) ((wc.heap.size, #[.string (nm 0), .string (nm 1), .string (nm 2), .string (nm 3), .string (nm 4)], 9) :: [(w3.heap.size, #[.int .i64 v.kind, .int .i64 v.mode, .int .i64 v.uid, .int .i64 v.gid, .int .i64 1, .int .i64 ((v.dn : Int) + v.tg.size)], 39), (w1.heap.size, #[.int .i64 1, .int .i64 64], 33), (w.heap.size, v.cells, 28)])) (fun _ s22 _ => 5 - (intOf s22).toNat)
      case atStart => exact ⟨0, rfl, rfl, by omega, HL7.out⟩
      case round =>
       clear HL7
       obtain ⟨i, rfl, rfl, hi5, hl⟩ := hrel
       have HL := hide hl
       clear hl
       obtain ⟨_, _, f2, _⟩ := box10 (v := v) (t := 28) (HL.out.at (b := w.heap.size) (by simp))
       by_cases hgo : (i : Int) < kk ∧ i < 5 ∧ v.kind ≠ 1
       ·obtain ⟨g0, g1, g2⟩ := hgo
        have g1' : (i : Int) < 5 := by omega
        have g2' : (v.kind == 1) = false := by simpa using g2
        have hni : wr.cell? ⟨wc.heap.size, i, none⟩ = some (.string (nm i)) := by
         rw [HL.out.cell (b := wc.heap.size) (cs := #[.string (nm 0), .string (nm 1), .string (nm 2), .string (nm 3), .string (nm 4)]) (t := 9) (by simp) i]
         have : i = 0 ∨ i = 1 ∨ i = 2 ∨ i = 3 ∨ i = 4 := by omega
         rcases this with rfl | rfl | rfl | rfl | rfl <;> rfl
        have hlen := rst_len s 0 i
        by_cases e : nm i = s
        ·have HEq : Hid (rst s 0 (i + 1) = rst s 0 i) := by show _ = _; rw [rst_snoc, if_pos e]
         have he : (nm i).toList = s.toList := by rw [e]
         have he2 : ((nm i).toList == s.toList) = true := by simpa using he
         clear e
         go_wp2_with (go_at_call 14; refine (HKd.out _).mono ?_; rintro e wy ⟨rfl, hwy⟩; obtain rfl := hwy.symm; clear hwy)
         refine ⟨⟨i + 1, by rw [HEq.out], by go_num, by omega, by rw [HEq.out]; exact HL.out⟩, by simp [intOf]; omega⟩
        ·have HEq : Hid (rst s 0 (i + 1) = rst s 0 i ++ [nm i]) := by show _ = _; rw [rst_snoc, if_neg e]
         have he : ¬ (nm i).toList = s.toList := fun q => e (toList_inj q)
         have he2 : ((nm i).toList == s.toList) = false := by simpa using he
         have HLk := hide (uLink_any 1 (nm i) 2 wr HL.out.up (sm_s1 _ _ (by simp; omega)) Upr.w1 Upr.w2 (sz_ab _))
         rw [s1_ln HN.out.1 (by rw [HN.out.2.1]; exact g2) (nm_val i g1) (by
          intro h
          rcases List.mem_cons.1 h with h | h
          ·exact e h
          ·exact rst_notk s g1 h), List.cons_append, ← HEq.out] at HLk
         clear e
         go_wp2_with (first
          | (go_at_call 14; refine (HKd.out _).mono ?_; rintro e wy ⟨rfl, hwy⟩; obtain rfl := hwy.symm; clear hwy)
          | (go_at_call 15; refine HLk.out.mono ?_; rintro e w8 ⟨rfl, h1, h2⟩; have HL8 := hide (HL.out.step h1 h2 (Ext.refl _ _)); clear h1 h2))
         refine ⟨⟨i + 1, by rw [HEq.out]; simp, by go_num, by omega, HL8.out⟩, by simp [intOf]; omega⟩
       ·have hlen := rst_len s 0 i
        have hcases : (¬ (i : Int) < kk) ∨ ((i : Int) < kk ∧ ¬ i < 5 ∧ ¬ (i : Int) < 5) ∨ ((i : Int) < kk ∧ (i < 5 ∧ (i : Int) < 5) ∧ v.kind = 1) := by
         by_cases q1 : (i : Int) < kk
         ·by_cases q2 : i < 5
          ·exact .inr (.inr ⟨q1, ⟨q2, by omega⟩, Classical.byContradiction fun q => hgo ⟨q1, q2, q⟩⟩)
          ·exact .inr (.inl ⟨q1, q2, by omega⟩)
         ·exact .inl q1
        clear hgo
        go_upto_region 27 with fail
        go_cut [163] from 151 to 162 (fun s163 wx => s163 = .bool false ∧ wx = wr)
        case first =>
         rcases hcases with c1 | ⟨c1, c2, c3⟩ | ⟨c1, ⟨c2, c3⟩, c4⟩
         ·go_wp2_with (go_at_call 14; refine (HKd.out _).mono ?_; rintro e wy ⟨rfl, hwy⟩; obtain rfl := hwy.symm; clear hwy)
          go_meet
          all_goals exact ⟨rfl, rfl⟩
         ·exfalso; omega
         ·have c5 : (v.kind != 1) = false := by simpa using c4
          clear c4
          go_wp2_with (go_at_call 14; refine (HKd.out _).mono ?_; rintro e wy ⟨rfl, hwy⟩; obtain rfl := hwy.symm; clear hwy)
          go_meet
          all_goals exact ⟨rfl, rfl⟩
        case rest =>
         obtain ⟨rfl, hwx⟩ := hcut
         obtain rfl := hwx.symm
         clear hwx hcases f2 HKd hkd0 hkd1
         have hk1 : IntKind.i64.wrap (1 + ((rst s 0 i).length : Int)) = ((rst s 0 i).length : Int) + 1 := by rw [IntKind.wrap_i64]; omega
         have HSt : Hid (Calls Try.prog 10 #[.pointer (some ⟨p, 0, none⟩), .int .i64 2] wr fun e w' => e = .returned (.tuple #[.agg #[.int .i64 v.kind, .int .i64 v.mode, .int .i64 v.uid, .int .i64 v.gid, .int .i64 (((rst s 0 i).length : Int) + 1), .int .i64 ((v.dn : Int) + v.tg.size)], .int .i64 0]) ∧ Below wr.heap.size wr w') := by
          have h := HL.out.up.stat 2 Upr.w2 (sm_s1 _ _ (by simp; omega))
          rw [(stat_s1 HN.out.1 _).1, (stat_s1 HN.out.1 _).2, HN.out.2.1, HN.out.2.2.1, HN.out.2.2.2.1, HN.out.2.2.2.2.1, HN.out.2.2.2.2.2.1, HN.out.2.2.2.2.2.2.1, Int.natCast_add, List.length_cons, Int.natCast_add] at h
          exact h
         go_wp2_with (first
          | (go_at_call 10; refine HSt.out.mono ?_; rintro e w8 ⟨rfl, hb8⟩; have HL8 := hide (HL.out.below hb8); obtain ⟨g0, g1, g2, g3, g4, g5⟩ := box6 (HL8.out.at (b := w3.heap.size) (t := 39) (cs := #[.int .i64 v.kind, .int .i64 v.mode, .int .i64 v.uid, .int .i64 v.gid, .int .i64 1, .int .i64 ((v.dn : Int) + v.tg.size)]) (by simp)); have hfz := fz6 (HL8.out.at (b := w3.heap.size) (t := 39) (cs := #[.int .i64 v.kind, .int .i64 v.mode, .int .i64 v.uid, .int .i64 v.gid, .int .i64 1, .int .i64 ((v.dn : Int) + v.tg.size)]) (by simp)); clear hb8))
         have HLs : Hid (∀ W, W = ((((((w8.setCell ⟨w3.heap.size, 0, none⟩ (.int .i64 v.kind)).setCell ⟨w3.heap.size, 1, none⟩ (.int .i64 v.mode)).setCell ⟨w3.heap.size, 2, none⟩ (.int .i64 v.uid)).setCell ⟨w3.heap.size, 3, none⟩ (.int .i64 v.gid)).setCell ⟨w3.heap.size, 4, none⟩ (.int .i64 (((rst s 0 i).length : Int) + 1))).setCell ⟨w3.heap.size, 5, none⟩ (.int .i64 ((v.dn : Int) + v.tg.size))) →
           Calls Try.prog 16 #[.pointer (some ⟨p, 0, none⟩), .int .i64 1, .string s] W fun e w' => e = .returned (.int .i64 0) ∧ ∃ c', LS w w' p c' (100, 100000) (st1 N (rst s 0 i)) [(wc.heap.size, #[.string (nm 0), .string (nm 1), .string (nm 2), .string (nm 3), .string (nm 4)], 9), (w1.heap.size, #[.int .i64 1, .int .i64 64], 33)]) := fun W hW => by
          have hl := HL8.out.set6 (b := w3.heap.size) (t := 39) (x0 := .int .i64 v.kind) (x1 := .int .i64 v.mode) (x2 := .int .i64 v.uid) (x3 := .int .i64 v.gid) (x4 := .int .i64 1) (x5 := .int .i64 ((v.dn : Int) + v.tg.size)) (B' := [(wc.heap.size, #[.string (nm 0), .string (nm 1), .string (nm 2), .string (nm 3), .string (nm 4)], 9), (w1.heap.size, #[.int .i64 1, .int .i64 64], 33)]) (by simp) (fun x hx => by
           have z1 := HZ1.out
           have z2 := HZ2.out
           simp only [List.mem_cons, List.not_mem_nil, or_false] at hx
           rcases hx with rfl | rfl
           ·exact ⟨by simp, by show ¬ wc.heap.size = w3.heap.size; omega⟩
           ·exact ⟨by simp, by show ¬ w1.heap.size = w3.heap.size; omega⟩) (.int .i64 v.kind) (.int .i64 v.mode) (.int .i64 v.uid) (.int .i64 v.gid) (.int .i64 (((rst s 0 i).length : Int) + 1)) (.int .i64 ((v.dn : Int) + v.tg.size))
          rw [← hW] at hl
          have h := uRemove_any 1 s W hl.up (sm_s1 _ _ (by simp; omega)) Upr.w1 hsz
          rw [rm_s HN.out.1 (fun hm => (rst_mem hm).1 rfl)] at h
          refine h.mono ?_
          rintro e w' ⟨h0, h1, h2⟩
          exact ⟨h0, c2, (hl.step h1 h2 (Ext.refl _ _)).drop (fun x hx => List.mem_cons_of_mem _ hx)⟩
         clear HSt
         go_wp2_with (first
          | (go_at_call 16; refine (HLs.out _ rfl).mono ?_; rintro e w9 ⟨rfl, c9, hl9⟩; have HL9 := hide hl9; clear hl9))
         clear g0 g1 g2 g3 g4 g5 hfz HLs HL8 hk1 HL HRep HXr HMs
         go_loopw [21, 23] (fun s21 s23 wr => ∃ (j : Nat) (c' : Nat → Cl), s21 = .int .i64 ((rst s j i).length : Nat) ∧ s23 = .int .i64 j ∧ j ≤ i ∧ LS w wr p c' (100, 100000) (st1 N (rst s j i)) [(wc.heap.size, #[.string (nm 0), .string (nm 1), .string (nm 2), .string (nm 3), .string (nm 4)], 9), (w1.heap.size, #[.int .i64 1, .int .i64 64], 33)]) (fun _ s23 _ => 5 - (intOf s23).toNat)
         case atStart => exact ⟨0, c9, rfl, rfl, by omega, HL9.out⟩
         case round =>
          clear HL9
          obtain ⟨j, c', rfl, rfl, hji, hl⟩ := hrel
          have HLj := hide hl
          clear hl
          have hw11 : IntKind.i64.wrap ((1 : Int) + 1) = 2 := by rw [IntKind.wrap_i64]; omega
          by_cases hgo : rst s j i = []
          ·have hg0 : (rst s j i).length = 0 := by rw [hgo]; rfl
           rw [hgo, show st1 N [] = s0 from rfl] at HLj
           generalize (rst s j i).length = kl at *
           subst hg0
           go_upto_region 37 with fail
           go_cut [204] from 199 to 203 (fun s204 wx => s204 = .bool false ∧ wx = wr)
           case first =>
            by_cases hj5 : j < 5
            ·have hj5' : (j : Int) < 5 := by omega
             go_wp2_with fail
             go_meet
             all_goals exact ⟨rfl, rfl⟩
            ·have hj5' : ¬ (j : Int) < 5 := by omega
             go_wp2_with fail
             go_meet
             all_goals exact ⟨rfl, rfl⟩
           case rest =>
            obtain ⟨rfl, hwx⟩ := hcut
            obtain rfl := hwx.symm
            clear hwx
            have hst := HLj.out.up.stat 2 Upr.w2 ⟨by simp [s0], by simp [s0], by simp [s0]⟩
            rw [show statE s0 2 = 1 from rfl, show statV s0 (fun r => (lks s0 r : Int)) 2 = #[.int .i64 0, .int .i64 0, .int .i64 0, .int .i64 0, .int .i64 0, .int .i64 0] from rfl] at hst
            have HSt := hide hst
            have HUs : Hid (∀ W, LS w W p c' (100, 100000) s0 [(wc.heap.size, #[.string (nm 0), .string (nm 1), .string (nm 2), .string (nm 3), .string (nm 4)], 9), (w1.heap.size, #[.int .i64 1, .int .i64 64], 33)] →
              Calls Try.prog 8 #[.pointer (some ⟨p, 0, none⟩)] W fun e w' => e = .returned (.agg #[.int .i64 1, .int .i64 64]) ∧ Below W.heap.size W w') := fun W hW => by
             have h := hW.up.used
             rw [csN_s0, show wrap64 ((64 : Nat) : Int) = 64 from by unfold wrap64; omega, show ((s0.L.length : Nat) : Int) = 1 from rfl] at h
             exact h
            have qeq := fun W => quota_eq (a := 1) (b := 64) W Upr.w1 (wf_i64 (by decide) (by decide))
            clear hst
            go_wp2_with (first
             | (go_at_call 10; refine HSt.out.mono ?_; rintro e w10 ⟨rfl, hb10⟩; have HL10 := hide (HLj.out.below hb10); obtain ⟨k0, k1⟩ := box2 (HL10.out.at (b := w1.heap.size) (t := 33) (cs := #[.int .i64 1, .int .i64 64]) (by simp)); clear hb10))
            have qe2 := fun W => eq_quota (a := 1) (b := 64) W Upr.w1 (wf_i64 (by decide) (by decide))
            go_region_held3 (fun wX => wX.cell? ⟨w1.heap.size, 0, none⟩ = some (.int .i64 1) ∧ wX.cell? ⟨w1.heap.size, 1, none⟩ = some (.int .i64 64)) (go_keep)
             ((go_at_call 8; have HLd := hide (HL10.out.below (below_drewN (Below.refl _ _) 1)); refine (HUs.out _ HLd.out).mono ?_; rintro e w11 ⟨rfl, hb11⟩; have HL11 := hide (HLd.out.below hb11); obtain ⟨k2, k3⟩ := box2 (HL11.out.at (b := w1.heap.size) (t := 33) (cs := #[.int .i64 1, .int .i64 64]) (by simp)); clear hb11))
            all_goals
             go_wp2
             go_ret
             exact ⟨rfl, HL11.out.bel⟩
          ·have hj5 : j < i := by
            rcases Nat.lt_or_ge j i with h | h
            ·exact h
            ·obtain rfl : j = i := by omega
             exact absurd (rst_nil s j) hgo
           have g1 : j < 5 := by omega
           have g1' : (j : Int) < 5 := by omega
           have hpos : 0 < (rst s j i).length := List.length_pos_iff.2 hgo
           have hlen := rst_len s j i
           have hni : wr.cell? ⟨wc.heap.size, j, none⟩ = some (.string (nm j)) := by
            rw [HLj.out.cell (b := wc.heap.size) (cs := #[.string (nm 0), .string (nm 1), .string (nm 2), .string (nm 3), .string (nm 4)]) (t := 9) (by simp) j]
            have : j = 0 ∨ j = 1 ∨ j = 2 ∨ j = 3 ∨ j = 4 := by omega
            rcases this with rfl | rfl | rfl | rfl | rfl <;> rfl
           by_cases e : nm j = s
           ·have HEq : Hid (rst s j i = rst s (j + 1) i) := by show _ = _; rw [rst_cons s hj5, if_pos e]
            have he : (nm j).toList = s.toList := by rw [e]
            have he2 : ((nm j).toList == s.toList) = true := by simpa using he
            have hposi : (0 : Int) < (rst s j i).length := by omega
            clear e hgo
            go_wp2_with fail
            refine ⟨⟨j + 1, c', by rw [HEq.out], by go_num, by omega, by rw [← HEq.out]; exact HLj.out⟩, by simp [intOf]; omega⟩
           ·have HEq : Hid (rst s j i = nm j :: rst s (j + 1) i) := by show _ = _; rw [rst_cons s hj5, if_neg e]
            have he : ¬ (nm j).toList = s.toList := fun q => e (toList_inj q)
            have he2 : ((nm j).toList == s.toList) = false := by simpa using he
            have hsm : Sm (st1 N (nm j :: rst s (j + 1) i)) := sm_st1 _ _ (by have := rst_len s (j + 1) i; simp; omega)
            rw [HEq.out] at HLj
            have hr := uRemove_any 1 (nm j) wr HLj.out.up hsm Upr.w1 (sz_ab _)
            rw [show st1 N (nm j :: rst s (j + 1) i) = s1 N (nm j :: rst s (j + 1) i) from if_neg (by simp), rm_s HN.out.1 (rst_not s (by omega) hi5 g1)] at hr
            have HRm := hide hr
            have hkl : (rst s j i).length = (rst s (j + 1) i).length + 1 := by rw [HEq.out]; rfl
            generalize hk1 : (rst s j i).length = kj at *
            subst hkl
            have hposi : (0 : Int) < ((rst s (j + 1) i).length : Int) + 1 := by omega
            have hw1 : IntKind.i64.wrap (((rst s (j + 1) i).length : Int) + 1 - 1) = (rst s (j + 1) i).length := by rw [IntKind.wrap_i64]; omega
            have hw2 : IntKind.i64.wrap ((rst s (j + 1) i).length : Int) = (rst s (j + 1) i).length := by rw [IntKind.wrap_i64]; omega
            clear e hgo hr hsm hk1
            go_wp2_with (go_at_call 16; refine HRm.out.mono ?_; rintro e w8 ⟨rfl, h1, h2⟩; have HL8 := hide (HLj.out.step h1 h2 (Ext.refl _ _)); clear h1 h2)
            refine ⟨⟨j + 1, c', rfl, by go_num, by omega, HL8.out⟩, by simp [intOf]; omega⟩
  ·rw [if_pos (by simpa using hm)] at hMk
   have HMk : Hid (Calls Try.prog 9 #[.pointer (some ⟨p, 0, none⟩), .int .i64 1, .string s, .agg v.cells] _ fun e w' => e = .returned (.tuple #[.int .i64 0, .int .i64 (1)]) ∧ ∃ c', LS w w' p c' (100, 100000) u0 [(w1.heap.size, #[.int .i64 1, .int .i64 64], 33), (w.heap.size, v.cells, 28)]) :=
    hMk.mono (by rintro e w2 ⟨h0, c2, h1, h2, h3⟩; exact ⟨h0, c2, HL1.out.step h1 h2 h3⟩)
   clear hMk
   have zne : ((1 : Int) != 0) = true := rfl
   refine HMk.out.mono ?_
   rintro e w2 ⟨rfl, c2, hL2⟩
   have HL2 := hide hL2
   clear hL2 HMk HL1 hwb
   have HUs : Hid (∀ W, LS w W p c2 (100, 100000) u0 [(w1.heap.size, #[.int .i64 1, .int .i64 64], 33), (w.heap.size, v.cells, 28)] →
     Calls Try.prog 8 #[.pointer (some ⟨p, 0, none⟩)] W fun e w' => e = .returned (.agg #[.int .i64 1, .int .i64 64]) ∧ Below W.heap.size W w') := fun W hW => by
    have h := hW.up.used
    rw [csN_u0, show wrap64 ((64 : Nat) : Int) = 64 from by unfold wrap64; omega, show ((u0.L.length : Nat) : Int) = 1 from rfl] at h
    exact h
   have qeq := fun W => quota_eq (a := 1) (b := 64) W Upr.w1 (wf_i64 (by decide) (by decide))
   have qe2 := fun W => eq_quota (a := 1) (b := 64) W Upr.w1 (wf_i64 (by decide) (by decide))
   obtain ⟨k0, k1⟩ := box2 (HL2.out.at (b := w1.heap.size) (t := 33) (cs := #[.int .i64 1, .int .i64 64]) (by simp))
   go_wp2
   go_region_held3 (fun wX => wX.cell? ⟨w1.heap.size, 0, none⟩ = some (.int .i64 1) ∧ wX.cell? ⟨w1.heap.size, 1, none⟩ = some (.int .i64 64)) (go_keep)
    ((go_at_call 8; have HLd := hide (HL2.out.below (below_drewN (Below.refl _ _) 1)); refine (HUs.out _ HLd.out).mono ?_; rintro e w11 ⟨rfl, hb11⟩; have HL11 := hide (HLd.out.below hb11); obtain ⟨k2, k3⟩ := box2 (HL11.out.at (b := w1.heap.size) (t := 33) (cs := #[.int .i64 1, .int .i64 64]) (by simp)); clear hb11))
   all_goals
    go_wp2
    go_ret
    exact ⟨rfl, HL11.out.bel⟩
 ·rw [if_pos (hv)] at hMk
  have HMk : Hid (Calls Try.prog 9 #[.pointer (some ⟨p, 0, none⟩), .int .i64 1, .string s, .agg v.cells] _ fun e w' => e = .returned (.tuple #[.int .i64 0, .int .i64 (valid s.toList)]) ∧ ∃ c', LS w w' p c' (100, 100000) u0 [(w1.heap.size, #[.int .i64 1, .int .i64 64], 33), (w.heap.size, v.cells, 28)]) :=
   hMk.mono (by rintro e w2 ⟨h0, c2, h1, h2, h3⟩; exact ⟨h0, c2, HL1.out.step h1 h2 h3⟩)
  clear hMk
  have zne : (valid s.toList != 0) = true := by simpa using hv
  refine HMk.out.mono ?_
  rintro e w2 ⟨rfl, c2, hL2⟩
  have HL2 := hide hL2
  clear hL2 HMk HL1 hwb
  have HUs : Hid (∀ W, LS w W p c2 (100, 100000) u0 [(w1.heap.size, #[.int .i64 1, .int .i64 64], 33), (w.heap.size, v.cells, 28)] →
    Calls Try.prog 8 #[.pointer (some ⟨p, 0, none⟩)] W fun e w' => e = .returned (.agg #[.int .i64 1, .int .i64 64]) ∧ Below W.heap.size W w') := fun W hW => by
   have h := hW.up.used
   rw [csN_u0, show wrap64 ((64 : Nat) : Int) = 64 from by unfold wrap64; omega, show ((u0.L.length : Nat) : Int) = 1 from rfl] at h
   exact h
  have qeq := fun W => quota_eq (a := 1) (b := 64) W Upr.w1 (wf_i64 (by decide) (by decide))
  have qe2 := fun W => eq_quota (a := 1) (b := 64) W Upr.w1 (wf_i64 (by decide) (by decide))
  obtain ⟨k0, k1⟩ := box2 (HL2.out.at (b := w1.heap.size) (t := 33) (cs := #[.int .i64 1, .int .i64 64]) (by simp))
  go_wp2
  go_region_held3 (fun wX => wX.cell? ⟨w1.heap.size, 0, none⟩ = some (.int .i64 1) ∧ wX.cell? ⟨w1.heap.size, 1, none⟩ = some (.int .i64 64)) (go_keep)
   ((go_at_call 8; have HLd := hide (HL2.out.below (below_drewN (Below.refl _ _) 1)); refine (HUs.out _ HLd.out).mono ?_; rintro e w11 ⟨rfl, hb11⟩; have HL11 := hide (HLd.out.below hb11); obtain ⟨k2, k3⟩ := box2 (HL11.out.at (b := w1.heap.size) (t := 33) (cs := #[.int .i64 1, .int .i64 64]) (by simp)); clear hb11))
  all_goals
   go_wp2
   go_ret
   exact ⟨rfl, HL11.out.bel⟩
end Upr
end Go.Proofs.Ytdobojnokgkbpaa

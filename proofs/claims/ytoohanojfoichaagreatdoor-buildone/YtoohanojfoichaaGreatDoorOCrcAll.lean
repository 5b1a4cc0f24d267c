import Derived.Test.YtoohanojfoichaaGreatDoorOJBase
import Derived.Laws.BitsAllLaws
import Derived.Deep.WholeRow
import Derived.Deep.LoopGhost
import Derived.Laws.ResultCell
set_option linter.unusedVariables false
namespace Go.Proofs.YtoohanojfoichaaGreatDoor.Crc
def stp (r : Nat) : Nat := if r % 2 = 1 then (r / 2) ^^^ 3988292384 else r / 2
def steps : Nat → Nat → Nat
 | 0, r => r
 | n + 1, r => steps n (stp r)
def ent (r : Nat) : Nat := steps 8 r
def bt (T : Nat → Nat) (r c : Nat) : Nat := (r / 256) ^^^ T ((r ^^^ c) % 256)
def run (T : Nat → Nat) : Nat → List Int → Nat
 | r, [] => r
 | r, c :: l => run T (bt T r c.toNat) l
def more (T : Nat → Nat) (s : Nat) (l : List Int) : Nat := run T (s ^^^ 4294967295) l ^^^ 4294967295
theorem xor_lt {a b : Nat} (ha : a < 4294967296) (hb : b < 4294967296) : a ^^^ b < 4294967296 := Nat.xor_lt_two_pow (n := 32) ha hb
theorem stp_lt {r : Nat} (h : r < 4294967296) : stp r < 4294967296 := by
 unfold stp
 split
 ·exact xor_lt (by omega) (by omega)
 ·omega
theorem steps_lt : ∀ (n : Nat) {r : Nat}, r < 4294967296 → steps n r < 4294967296
 | 0, _, h => h
 | n + 1, _, h => steps_lt n (stp_lt h)
theorem ent_lt {r : Nat} (h : r < 4294967296) : ent r < 4294967296 := steps_lt 8 h
theorem bt_lt {T : Nat → Nat} (hT : ∀ i, i < 256 → T i < 4294967296) {r : Nat} (h : r < 4294967296) (c : Nat) : bt T r c < 4294967296 :=
 xor_lt (by omega) (hT _ (Nat.mod_lt _ (by omega)))
theorem run_lt {T : Nat → Nat} (hT : ∀ i, i < 256 → T i < 4294967296) : ∀ (l : List Int) {r : Nat}, r < 4294967296 → run T r l < 4294967296
 | [], _, h => h
 | _ :: l, _, h => run_lt hT l (bt_lt hT h _)
theorem more_lt {T : Nat → Nat} (hT : ∀ i, i < 256 → T i < 4294967296) (l : List Int) {s : Nat} (h : s < 4294967296) : more T s l < 4294967296 :=
 xor_lt (run_lt hT l (xor_lt h (by omega))) (by omega)
theorem xor_mod (a b : Nat) : (a ^^^ b) % 256 = a % 256 ^^^ b % 256 := Nat.xor_mod_two_pow (n := 8)
theorem ent_row : ∀ i, i < 256 → ent i < 4294967296 := fun i h => ent_lt (by omega)
end Go.Proofs.YtoohanojfoichaaGreatDoor.Crc
namespace Go.Proofs.YtoohanojfoichaaGreatDoor
open Go.RowKit Go.Maps
open Lz (g)
open Crc (stp steps ent bt run more)
theorem and1 {r : Nat} (hr : r < 4294967296) : bits .and .u32 (r : Int) 1 = ((r % 2 : Nat) : Int) := by
 rw [show (1 : Int) = ((1 : Nat) : Int) from rfl, u32_and_nat r 1 hr (by omega), nat_mask1]
theorem xorP {r : Nat} (hr : r < 4294967296) : bits .xor .u32 (r : Int) 3988292384 = ((r ^^^ 3988292384 : Nat) : Int) := u32_xor_nat r 3988292384 hr (by omega)
theorem steps_one (n r : Nat) : steps (n + 1) r = steps n (stp r) := rfl
set_option maxHeartbeats 400000 in
theorem entry_any (r : Nat) (w : World) (hr : r < 4294967296) :
  Calls Tryz.prog 21 #[.int .u32 r] w fun e w' => e = .returned (.int .u32 (ent r)) ∧ w' = w := by
 obtain ⟨E, hE⟩ : ∃ E, E = ent r := ⟨_, rfl⟩
 rw [← hE]
 have HE : Hid (E = steps 8 r) := hE
 clear hE
 go_enter Tryz.func21, Tryz.ntmps21
 go_wp2
 go_loopw [0, 4] (fun s0 s4 wr => ∃ k x : Nat, s0 = .int .u32 x ∧ s4 = .int .i64 k ∧ x < 4294967296 ∧ k ≤ 8 ∧ Hid (E = steps (8 - k) x) ∧ wr = w) (fun _ s4 _ => 8 - (intOf s4).toNat)
 case atStart => exact ⟨0, r, rfl, rfl, hr, by omega, HE, rfl⟩
 case round =>
  obtain ⟨k, x, rfl, rfl, hx, hk, H, rfl⟩ := hrel
  by_cases hlt : k < 8
  ·have e1 := and1 hx
   have e2 := xorP (r := x / 2) (by omega)
   have e3 : ((x / 2 : Nat) : Int) = (x : Int) / 2 := by omega
   rw [e3] at e2
   have hs : E = steps (8 - (k + 1)) (stp x) := by
    rw [H.out, ← steps_one]
    congr 1
    omega
   rcases Nat.mod_two_eq_zero_or_one x with h0 | h1
   ·rw [h0] at e1
    have hs' : E = steps (8 - (k + 1)) (x / 2) := by
     rw [show (x / 2) = stp x by unfold stp; simp [h0]]; exact hs
    have HS : Hid (E = steps (8 - (k + 1)) (x / 2)) := hs'
    clear hs'
    clear hs
    go_wp2
    go_roundw
    case rel => exact ⟨k + 1, x / 2, by go_num, by go_num, by omega, by omega, HS, trivial⟩
    case measure => simp [intOf]; omega
   ·rw [h1] at e1
    have hs' : E = steps (8 - (k + 1)) (x / 2 ^^^ 3988292384) := by
     rw [show (x / 2 ^^^ 3988292384) = stp x by unfold stp; simp [h1]]; exact hs
    have HS : Hid (E = steps (8 - (k + 1)) (x / 2 ^^^ 3988292384)) := hs'
    clear hs'
    have hlt2 : x / 2 ^^^ 3988292384 < 4294967296 := Crc.xor_lt (by omega) (by omega)
    clear hs
    go_wp2
    go_roundw
    case rel => exact ⟨k + 1, x / 2 ^^^ 3988292384, rfl, by go_num, hlt2, by omega, HS, trivial⟩
    case measure => simp [intOf]; omega
  ·obtain rfl : k = 8 := by omega
   go_wp2
   go_ret
   exact ⟨congrArg (fun q : Nat => Ending.returned (.int .u32 (q : Int))) (show x = E from H.out.symm), rfl⟩
end Go.Proofs.YtoohanojfoichaaGreatDoor
namespace Go.Proofs.YtoohanojfoichaaGreatDoor
open Go.RowKit Go.Maps
open Lz (g)
open Crc (stp steps ent bt run more)
def tab (T : Nat → Nat) : Array Value := ((List.range 256).map fun j => Value.int .u32 (T j)).toArray
theorem tab_size (T : Nat → Nat) : (tab T).size = 256 := by simp [tab]
theorem tab_at (T : Nat → Nat) (i : Nat) (h : i < 256) : (tab T)[i]? = some (.int .u32 (T i)) := by simp [tab, h]
theorem tab_one (T : Nat → Nat) : (tab T).all (·.oneCell') = true := by
 simp [tab, Value.oneCell']
def upTo (i : Nat) : Nat → Nat := fun j => if j < i then ent j else 0
theorem tab_zero : tab (upTo 0) = Array.replicate 256 (.int .u32 0) := by
 apply Array.ext_getElem?
 intro i
 by_cases h : i < 256
 ·rw [tab_at _ _ h]
  simp [upTo, h]
 ·simp [tab, h]
theorem tab_set (i : Nat) (h : i < 256) : (tab (upTo i)).setIfInBounds i (.int .u32 (ent i)) = tab (upTo (i + 1)) := by
 apply Array.ext_getElem?
 intro j
 by_cases hj : j < 256
 ·rw [tab_at _ _ hj]
  by_cases e : i = j
  ·subst e
   rw [Array.getElem?_setIfInBounds_self_of_lt (by rw [tab_size]; exact hj)]
   simp [upTo]
  ·rw [Array.getElem?_setIfInBounds_ne e, tab_at _ _ hj]
   have : (j < i + 1) = (j < i) := by simp; omega
   simp [upTo, this]
 ·rw [Array.getElem?_eq_none (by rw [Array.size_setIfInBounds, tab_size]; omega), Array.getElem?_eq_none (by rw [tab_size]; omega)]
theorem tab_congr {T U : Nat → Nat} (h : ∀ i, i < 256 → T i = U i) : tab T = tab U := by
 apply Array.ext_getElem?
 intro j
 by_cases hj : j < 256
 ·rw [tab_at _ _ hj, tab_at _ _ hj, h j hj]
 ·rw [Array.getElem?_eq_none (by rw [tab_size]; omega), Array.getElem?_eq_none (by rw [tab_size]; omega)]
theorem tab_full : tab (upTo 256) = tab ent := tab_congr fun i h => by simp [upTo, h]
theorem infoTable : (Tryz.prog.info? 32).map (fun i => (i.zero, i.size)) = some (some (.agg (Array.replicate 256 (.int .u32 0))), 256) := by kernel_rfl
set_option maxRecDepth 100000 in
set_option maxHeartbeats 400000 in
theorem New_any (w : World) : Calls Tryz.prog 10 #[] w fun e w' => e = .returned (.agg (tab ent)) ∧ Below w.heap.size w w' := by
 obtain ⟨hz, hi'⟩ := zero_of_info infoTable
 go_enter Tryz.func10, Tryz.ntmps10
 go_wp2
 rw [← tab_zero]
 obtain ⟨w1, hw1⟩ : ∃ w1, w1 = w.alloc (Obj.cells (tab (upTo 0)) 32) := ⟨_, rfl⟩
 have hs1 : w1.heap.size = w.heap.size + 1 := by rw [hw1]; simp
 rw [← hw1, ← hs1]
 have HW : Hid (w1 = w.alloc (Obj.cells (tab (upTo 0)) 32)) := hw1
 clear hw1 hs1
 go_loopw [3] (fun s3 wr => ∃ i : Nat, i ≤ 256 ∧ s3 = .int .i64 i ∧ wr = w1.alloc (.cells (tab (upTo i)) 32)) (fun s3 _ => 256 - (intOf s3).toNat)
 case atStart => exact ⟨0, by omega, rfl, rfl⟩
 case round =>
  obtain ⟨i, hi, rfl, rfl⟩ := hrel
  by_cases hlt : i < 256
  ·have hcell := tab_at (upTo i) i hlt
   have hset := tab_set i hlt
   go_wp2_with fail
   refine (entry_any i _ (by omega)).mono ?_
   rintro r wx ⟨rfl, rfl⟩
   go_wp2
   go_roundw
   case rel => exact ⟨i + 1, by omega, by go_num, rfl⟩
   case measure => simp [intOf]; omega
  ·obtain rfl : i = 256 := by omega
   rw [tab_full]
   obtain ⟨C, hC⟩ : ∃ C, C = tab ent := ⟨_, rfl⟩
   have hCs : C.size = 256 := by rw [hC]; exact tab_size _
   have hC1 : C.all (·.oneCell') = true := by rw [hC]; exact tab_one _
   rw [← hC]
   have HC : Hid (C = tab ent) := hC
   clear hC
   have hh : (w1.alloc (Obj.cells C 32)).heap[w.heap.size]? = some (Obj.cells (tab (upTo 0)) 32 (0, 0)) := by
    rw [HW.out]; exact heap_alloc2_old w _ _
   have HB : Hid (Below w.heap.size w ((w1.alloc (Obj.cells C 32)).setRow w.heap.size C)) := by
    have h1 : Below w.heap.size w (w1.alloc (Obj.cells C 32)) := by
     rw [HW.out]; exact ((Below.refl _ _).alloc (Nat.le_refl _) _).alloc (by simp) _
    exact ⟨h1.os, h1.tape, h1.output, by rw [setRow_size]; exact h1.size, fun k hk => by rw [setRow_other _ _ _ _ (by omega)]; exact h1.block k hk⟩
   go_wp2_with (first
    | refine wpList_load_row rfl _ _ rfl w1.heap.size rfl 32 C (0, 0) _ (heap_alloc_new w1 _) Tryz.underlying32 rfl (by rw [hCs]; exact hi') ?_
    | refine wpList_store_row rfl _ _ _ rfl w.heap.size C rfl rfl 32 (tab (upTo 0)) hh (by rw [hCs]; exact hi') (by rw [hCs]; exact tab_size _) hC1 ?_)
   refine bodyPost_ret (v := .agg C) ?_ rfl ⟨by rw [HC.out], HB.out⟩
   exact results_cell_row rfl _ _ w.heap.size 32 C (0, 0) _ rfl (setRow_heap _ _ _ _ _ _ hh) Tryz.underlying32 rfl (by rw [hCs]; exact hi')
end Go.Proofs.YtoohanojfoichaaGreatDoor
namespace Go.Proofs.YtoohanojfoichaaGreatDoor
open Go.RowKit Go.Maps
open Lz (g)
open Crc (stp steps ent bt run more)
def Tb (w : World) (b : Nat) (T : Nat → Nat) : Prop := ∀ i, i < 256 → w.cell? ⟨b, i, none⟩ = some (.int .u32 (T i))
def Small (T : Nat → Nat) : Prop := ∀ i, i < 256 → T i < 4294967296
theorem small_ent : Small ent := Crc.ent_row
theorem not32 {r : Nat} (hr : r < 4294967296) : bits .xor .u32 IntKind.u32.max (r : Int) = ((r ^^^ 4294967295 : Nat) : Int) := by
 have := u32_xor_nat 4294967295 r (by omega) hr
 rw [Nat.xor_comm] at this
 exact this
theorem run_at (T : Nat → Nat) (x k : Nat) (zs : List Int) (h : k < zs.length) : run T x (zs.drop k) = run T (bt T x (g zs k).toNat) (zs.drop (k + 1)) := by
 rw [List.drop_eq_getElem_cons h, Lz.g_lt _ _ h]
 rfl
theorem look8 {x c : Nat} (hc : c ≤ 255) : bits .xor .u8 ((x : Int) % 256) (c : Int) = (((x ^^^ c) % 256 : Nat) : Int) := by
 have h := u8_xor_nat (x % 256) c (by omega) (by omega)
 rw [Crc.xor_mod, Nat.mod_eq_of_lt (show c < 256 by omega), ← h]
 congr 1
theorem next32 {T : Nat → Nat} {x c : Nat} (hS : Small T) (hx : x < 4294967296) : bits .xor .u32 ((x : Int) / 256) (T ((x ^^^ c) % 256) : Int) = ((bt T x c : Nat) : Int) := by
 have h := u32_xor_nat (x / 256) (T ((x ^^^ c) % 256)) (by omega) (hS _ (Nat.mod_lt _ (by omega)))
 exact h
set_option maxRecDepth 100000 in
set_option maxHeartbeats 400000 in
theorem More_any (b s len cap : Nat) (T : Nat → Nat) (ao : Option Addr) (zs : List Int) (w : World) (hT : Tb w b T) (hS : Small T) (hs : s < 4294967296) (hB : Bs w ao len zs) (hl : len ≤ 1000000) :
  Calls Tryz.prog 103 #[.pointer (some ⟨b, 0, none⟩), .int .u32 s, .slice ao len cap] w fun e w' => e = .returned (.int .u32 (more T s zs)) ∧ w' = w := by
 obtain ⟨hz, hby, h0⟩ := hB
 obtain ⟨R, hR⟩ : ∃ R, R = run T (s ^^^ 4294967295) zs := ⟨_, rfl⟩
 have e0 := not32 hs
 have hR32 : R < 4294967296 := by rw [hR]; exact Crc.run_lt hS _ (Crc.xor_lt hs (by omega))
 have e9 := not32 hR32
 have HF : Hid (more T s zs = R ^^^ 4294967295) := by show run T _ _ ^^^ _ = _; rw [← hR]
 have HR : Hid (R = run T (s ^^^ 4294967295) (zs.drop 0)) := hR
 have hs2 : s ^^^ 4294967295 < 4294967296 := Crc.xor_lt hs (by omega)
 rw [HF.out]
 clear hR
 generalize s ^^^ 4294967295 = s' at *
 go_enter Tryz.func103, Tryz.ntmps103
 go_wp2
 go_loopw [7, 14] (fun s7 s14 wr => ∃ k x : Nat, s7 = .int .u32 x ∧ s14 = .int .i64 k ∧ x < 4294967296 ∧ k ≤ len ∧ Hid (R = run T x (zs.drop k)) ∧ wr = w) (fun _ s14 _ => len - (intOf s14).toNat)
 case atStart => exact ⟨0, s', rfl, rfl, hs2, by omega, HR, rfl⟩
 case round =>
  obtain ⟨k, x, rfl, rfl, hx, hk, H, rfl⟩ := hrel
  by_cases hlt : k < len
  ·rcases h0 with h0 | ⟨bb, off, rfl, hbl, hseg⟩
   ·omega
   have hc := hseg k (by omega)
   have hcb := hby k
   generalize hq : g zs k = q at hc hcb
   obtain ⟨c, rfl⟩ : ∃ c : Nat, q = (c : Int) := ⟨q.toNat, by omega⟩
   have hst := run_at T x k zs (by omega)
   rw [hq] at hst
   have HS : Hid (R = run T (bt T x c) (zs.drop (k + 1))) := H.out.trans hst
   have hj : (x ^^^ c) % 256 < 256 := Nat.mod_lt _ (by omega)
   have e1 := look8 (x := x) (c := c) (by omega)
   have e2 := next32 (T := T) (x := x) (c := c) hS hx
   have ht := hT _ hj
   have hb32 := Crc.bt_lt hS hx c
   generalize (x ^^^ c) % 256 = j at *
   clear hst hq
   generalize bt T x c = y at *
   go_wp2
   go_roundw
   case rel => exact ⟨k + 1, y, rfl, by go_num, hb32, by omega, HS, trivial⟩
   case measure => simp [intOf]; omega
  ·obtain rfl : k = len := by omega
   have hRx : R = x := by
    have := H.out
    rw [List.drop_eq_nil_of_le (by omega)] at this
    exact this
   subst hRx
   go_wp2
   go_ret
   exact ⟨rfl, rfl⟩
set_option maxHeartbeats 400000 in
theorem Sum_any (b len cap : Nat) (T : Nat → Nat) (ao : Option Addr) (zs : List Int) (w : World) (hT : Tb w b T) (hS : Small T) (hB : Bs w ao len zs) (hl : len ≤ 1000000) :
  Calls Tryz.prog 65 #[.pointer (some ⟨b, 0, none⟩), .slice ao len cap] w fun e w' => e = .returned (.int .u32 (more T 0 zs)) ∧ w' = w := by
 go_enter Tryz.func65, Tryz.ntmps65
 go_wp2_with fail
 refine (More_any b 0 len cap T ao zs w hT hS (by omega) hB hl).mono ?_
 rintro r wx ⟨rfl, rfl⟩
 clear hT hB
 go_wp2
 go_ret
 exact ⟨rfl, rfl⟩
theorem tb_row {w : World} {b t : Nat} {T : Nat → Nat} (h : w.heap[b]? = some (.cells (tab T) t (0, 0))) : Tb w b T := fun i hi => by
 rw [cell_of_row w b i (tab T) t (0, 0) h]
 exact tab_at T i hi
theorem Tb.below {w w' : World} {B b : Nat} {T : Nat → Nat} (h : Tb w b T) (hb : Below B w w') (hlt : b < B) : Tb w' b T := fun i hi => (hb.cell (by exact hlt)).trans (h i hi)
theorem wpList_store_table {ops : Array Oper} {rest : List Oper} {o : Oper} {a : Act} {w : World} {Q : Exit → Act → World → Prop} (hgd : o.guard = none) (x y : Operand) (ho : o.op = .store 32 x y)
  (T : Nat → Nat) (C : Array Value) (hC : C = tab T) (hx : a.eval x = .pointer (some ⟨w.heap.size, 0, none⟩)) (hy : a.eval y = .agg C) (old : Array Value) (hold : old.size = 256)
  (h : ∀ w', Hid (w'.heap[w.heap.size]? = some (.cells C 32 (0, 0))) → Tb w' w.heap.size T → w.heap.size < w'.heap.size → Below w.heap.size w w' → wpList Tryz.prog ops Q rest (a.put o.dst undef) w') : wpList Tryz.prog ops Q (o :: rest) a (w.alloc (.cells old 32)) := by
 subst hC
 refine wpList_store_row hgd 32 x y ho w.heap.size (tab T) hx hy 32 old (heap_alloc_new w _) (by rw [tab_size]; exact (zero_of_info infoTable).2) (by rw [hold, tab_size]) (tab_one T) ?_
 rw [World.setRow_alloc_new]
 exact h _ (heap_alloc_new w _) (tb_row (heap_alloc_new w _)) (by simp) ((Below.refl _ _).alloc (Nat.le_refl _) _)
end Go.Proofs.YtoohanojfoichaaGreatDoor

import Derived.Test.YtgnjifdaccphhaaBJTreCheck
import Derived.Test.YtgnjifdaccphhaaBTabNums
import Derived.Laws.CopyOwn
set_option linter.unusedVariables false
namespace Go.Proofs.Ytgnjifdaccphhaa
open Go.RowKit Go.Maps
open Nam Tre Tab
open Lz (g)
open Cur
namespace Tab
end Tab
end Go.Proofs.Ytgnjifdaccphhaa
namespace Go.Proofs.Ytgnjifdaccphhaa
open Go.RowKit Go.Maps
open Nam Tre Tab
open Lz (g)
namespace Upr
theorem results_cr1 {fn : Func} {p : Tmp} {ty : TypeId} (h : fn.results = #[.cell p ty]) (tmps : Array Value) (w : World) (g : Nat) (cs : Array Value)
  (hp : tmps.getD p undef = .pointer (some ⟨g, 0, none⟩)) (hr : (loadVar ty ⟨g, 0, none⟩).run Try.prog w = .ok (.agg cs) w) :
  (results fn tmps).run Try.prog w = .ok (.agg cs) w := by
 have hp' : tmps[p]?.getD undef = .pointer (some ⟨g, 0, none⟩) := by simpa using hp
 simp [results, h, hp', asAddr, hr]
section
variable {p : Nat} {c : Nat → Cl} {q : Int × Int × Int} {u : Us} {lk pr : Int → Int} {m : Nat} {nb eb : Int → Nat}
theorem wpAnyH_switch {P : Program} {md : Region.Mode} {ops : Array Oper} {Q : Exit → Act → World → Prop} {S S' : World → Prop} (hS : ∀ w, S' w → S w) : ∀ (fuel : Nat) (listed : Array Bool) (a : Act) (w : World), wpAnyH P md ops Q S' fuel listed a w → wpAnyH P md ops Q S fuel listed a w
 | 0, _, _, _, h => h
 | fuel + 1, _, _, _, h => ⟨h.1, fun i hi => wpOp_mono (fun a' w' h' => ⟨hS w' h'.1, wpAnyH_switch hS fuel _ a' w' h'.2⟩) (h.2 i hi)⟩
theorem step_store_row {w : World} {ops : Array Oper} {o : Oper} {a : Act} {K : Act → World → Prop} {Q : Exit → Act → World → Prop} {E : Prop} (hgd : o.guard = none) (ty : TypeId) (x y : Operand) (ho : o.op = .store ty x y)
  (k : Nat) (cells : Array Value) (hx : a.eval x = .pointer (some ⟨k, 0, none⟩)) (hy : a.eval y = .agg cells) (t : TypeId) (old : Array Value) (hg : w.heap[k]? = some (.cells old t (0, 0))) (hi : (Try.prog.info? ty).map (·.size) = some cells.size)
  (hold : old.size = cells.size) (h1 : cells.all (·.oneCell') = true) (h : K (a.put o.dst undef) (w.setRow k cells)) : if Region.wanted o (yielded ops a.tmps) = true then Oper.wp Try.prog o a w K Q else E := by
 have hw : Region.wanted o (yielded ops a.tmps) = true := by simp [Region.wanted, hgd]
 rw [if_pos hw]
 exact wp_store_row ty x y ho k cells hx hy t old hg hi hold h1 h
theorem usetRow_heap {w : World} {k : Nat} {old : Array Value} {t : TypeId} (h : w.heap[k]? = some (.cells old t (0, 0))) (cs : Array Value) : (w.setRow k cs).heap[k]? = some (.cells cs t (0, 0)) := by
 simp [World.setRow, Array.getElem?_modify, h]
end
end Upr
end Go.Proofs.Ytgnjifdaccphhaa
namespace Go.Proofs.Ytgnjifdaccphhaa
open Go.RowKit Go.Maps
open Nam Tre Tab
open Lz (g)
namespace Upr
def Up (w : World) (p : Nat) (c : Nat → Cl) (q : Int × Int) (u : Us) : Prop :=
 ∃ pr m nb eb, UB w p c (q.1, q.2, u.nx - 1) u (fun r => (lks u r : Int)) pr m nb eb ∧ Wf u ∧ (∀ e ∈ u.E, knd u e.ref = 1 → pr e.ref = e.dir)
theorem wf_i64 {x : Int} (h1 : -9223372036854775808 ≤ x) (h2 : x ≤ 9223372036854775807) : (Lit.int .i64 x).wf = true := by
 simp [Lit.wf, IntKind.min, IntKind.max, IntKind.signed, IntKind.bits]
 omega
end Upr
end Go.Proofs.Ytgnjifdaccphhaa
namespace Go.Proofs.Ytgnjifdaccphhaa
open Go.RowKit Go.Maps
open Nam Tre Tab
open Lz (g)
namespace Upr
def newc (lo hi : Nat) (b : Nat) : Cl := if lo ≤ b ∧ b < hi then .dat else .no
theorem newc_dat {lo hi b : Nat} : newc lo hi b = .dat ↔ lo ≤ b ∧ b < hi := by
 unfold newc
 by_cases h : lo ≤ b ∧ b < hi
 ·rw [if_pos h]; exact ⟨fun _ => h, fun _ => rfl⟩
 ·rw [if_neg h]; exact ⟨fun e => by (cases e), fun e => absurd e h⟩
structure NewX (w w' : World) (ao : Option Addr) (n cc : Nat) (xs : List (ByteArray × List Int)) : Prop where
 xs : XsC (newc w.heap.size w'.heap.size) w' ao n xs
 cap : n ≤ cc
 max : cc ≤ 9223372036854775807
 nil : ao = none → cc = 0
 bel : Below w.heap.size w w'
theorem ueql_nil (w : World) (a : Option Addr) (n c : Nat) : (binOp .eql 36 (.slice a n c) (.slice none 0 0)).run Try.prog w = .ok (.bool a.isNone) w := by
 simp only [binOp]
 simp [run_equal_slice_nil w 36 58 a n c Try.underlying36]
set_option maxRecDepth 100000 in
theorem uclonex_any (w : World) (ao : Option Addr) (n cc : Nat) (X : List Xv) (hX : X.length = n) (h : n = 0 ∨ ∃ b off, ao = some ⟨b, off, none⟩ ∧ b < w.heap.size ∧ ∀ j u, (xvs X)[j]? = some u → w.cell? ⟨b, off + j, none⟩ = some u) (hnil : ao = none → cc = 0) (hc : n ≤ cc) (hn : n ≤ 1000000) :
  Calls Try.prog 54 #[.slice ao n cc] w fun e w' => ∃ ao' c', e = .returned (.slice ao' n c') ∧ w'.ownsRow w.heap.size 58 2 (.slice ao' n c') n (xvs X) ∧ Below w.heap.size w w' := by
 cases ao with
 | none =>
  obtain rfl : cc = 0 := hnil rfl
  obtain rfl : n = 0 := by omega
  obtain rfl : X = [] := List.eq_nil_of_length_eq_zero hX
  have H : Hid (w.ownsRow w.heap.size 58 2 (.slice none 0 0) 0 (xvs []) ∧ Below w.heap.size w w) := ⟨World.ownsRow_nil _ _ _ _, Below.refl _ _⟩
  clear h hnil
  have hq : ∀ w : World, (binOp .eql 36 (.slice none 0 0) (.slice none 0 0)).run Try.prog w = .ok (.bool true) w := fun w => ueql_nil w none 0 0
  go_enter Try.func54, Try.ntmps54
  go_wp2
  go_ret
  exact ⟨_, _, rfl, H.out⟩
 | some ad =>
  clear hnil
  have hq : ∀ w : World, (binOp .eql 36 (.slice (some ad) n cc) (.slice none 0 0)).run Try.prog w = .ok (.bool false) w := fun w => ueql_nil w (some ad) n cc
  obtain ⟨i0, hi, hz0, hz1, hz2⟩ := info_parts infoXat
  have ho := emptyR (w := w) (t := 58) (size := 2) (Nat.le_refl w.heap.size)
  obtain ⟨v', w', hr, ho', hg, _⟩ := run_append_own (P := Try.prog) (w.alloc (.cells #[] 58)) w.heap.size 36 36 58 i0 (.agg #[.string ⟨#[]⟩, .slice none 0 0]) 2 40 Try.underlying36 hi hz0 hz1 hz2 rfl (by decide) _ 0 [] ho ad n cc (xvs X) (by rw [xvs_length, hX]) (by
   rcases h with h0 | ⟨b, off, h1, hb, hseg⟩
   ·have : X = [] := List.eq_nil_of_length_eq_zero (by omega)
    subst this
    intro j u hu; simp [xvs] at hu
   ·obtain rfl := Option.some.inj h1
    intro j u hu
    rw [Addr.add_lit]
    exact ((below_one w _).cell (p := ⟨b, off + j, none⟩) hb).trans (hseg j u hu)) (xvs_one _) (by unfold maxLen; omega) (by omega) (by simp)
  rw [Nat.zero_add, List.nil_append] at ho'
  obtain ⟨ao', c', rfl⟩ := owns_shape ho'
  have H : Hid (w'.ownsRow w.heap.size 58 2 (.slice ao' n c') n (xvs X) ∧ Below w.heap.size w w') := ⟨ho', (below_one w _).grown hg (by simp) (fun k e => (ho.lt k e).1)⟩
  clear h ho ho' hg hi hz0 hz1 hz2
  go_enter Try.func54, Try.ntmps54
  go_wp2_with (at_builtin; refine wpList_append_run rfl _ _ _ rfl _ _ _ rfl rfl hr ?_)
  go_ret
  exact ⟨_, _, rfl, H.out⟩
structure Cpd (w wr : World) (xa : Option Addr) (xc n : Nat) (X X' : List Xv) (xs : List (ByteArray × List Int)) (i : Nat) : Prop where
 bel : Below w.heap.size w wr
 row : wr.ownsRow w.heap.size 58 2 (.slice xa n xc) n (xvs X')
 len : X'.length = n
 old : ∀ j, i ≤ j → gX X' j = gX X j
 new : ∀ j, j < i → (gX X' j).s = (gX X j).s ∧ Bs wr (gX X' j).va (gX X' j).vn (gx xs j).2 ∧ (gX X' j).vn ≤ (gX X' j).vc ∧ (gX X' j).vc ≤ 9223372036854775807 ∧ ((gX X' j).va = none → (gX X' j).vc = 0) ∧ ∀ a, (gX X' j).va = some a → w.heap.size ≤ a.block ∧ xa ≠ some ⟨a.block, 0, none⟩
theorem Cpd.step {w wr w5 : World} {n xc gb i : Nat} {X X' : List Xv} {xs : List (ByteArray × List Int)} (h : Cpd w wr (some ⟨gb, 0, none⟩) xc n X X' xs i) (hi : i < n) {ao : Option Addr} {vn vc : Nat} (hN : New wr w5 ao vn vc (gx xs i).2) :
  Cpd w (w5.setCell ⟨gb, i * 2 + 1, none⟩ (.slice ao vn vc)) (some ⟨gb, 0, none⟩) xc n X (X'.set i ⟨(gX X' i).s, ao, vn, vc⟩) xs (i + 1) := by
 have row5 := owns_below h.row hN.bel
 have hgl : gb < wr.heap.size := by
  obtain ⟨cur, hc⟩ := owns_obj h.row rfl
  exact heap_lt hc
 have hgw := (h.row.lt gb rfl).1
 have fr : Fr (fun k => k = gb) wr (w5.setCell ⟨gb, i * 2 + 1, none⟩ (.slice ao vn vc)) := (Fr.of_below hN.bel).set (p := ⟨gb, i * 2 + 1, none⟩) _ (fun _ => rfl)
 refine ⟨(h.bel.trans (hN.bel.mono h.bel.size)).setCell (by exact hgw) _, own_set row5 h.len hi ao vn vc, by rw [List.length_set]; exact h.len, fun j hj => ?_, fun j hj => ?_⟩
 ·rw [gX_set _ _ _ _ (by rw [h.len]; exact hi), if_neg (by omega)]
  exact h.old j (by omega)
 ·rw [gX_set _ _ _ _ (by rw [h.len]; exact hi)]
  by_cases e : j = i
  ·subst e
   rw [if_pos rfl]
   refine ⟨by rw [h.old j (Nat.le_refl _)], ?_, hN.cap, hN.max, hN.nil, fun a ha => ?_⟩
   ·have fr5 : Fr (fun k => k = gb) w5 (w5.setCell ⟨gb, j * 2 + 1, none⟩ (.slice ao vn vc)) := (Fr.refl _ _).set (p := ⟨gb, j * 2 + 1, none⟩) _ (fun _ => rfl)
    exact hN.bs.fr fr5 (fun a ha _ hx => by have := (hN.own a ha).1; have hx' : a.block = gb := hx; omega)
   ·have := (hN.own a ha).1
    exact ⟨Nat.le_trans h.bel.size this, fun e => by injection e with e; injection e with e; omega⟩
  ·rw [if_neg e]
   obtain ⟨q1, q2, q3, q4, q5, q6⟩ := h.new j (by omega)
   exact ⟨q1, q2.fr fr (fun a ha _ hx => (q6 a ha).2 (by have hx' : a.block = gb := hx; rw [hx'])), q3, q4, q5, q6⟩
theorem Cpd.fin {w wr : World} {xa : Option Addr} {xc n : Nat} {X X' : List Xv} {xs : List (ByteArray × List Int)} (h : Cpd w wr xa xc n X X' xs n) (hx : xs.length = n) (hs : ∀ i, i < n → (gx xs i).1 = (gX X i).s ∧ (gx xs i).1.size ≤ 9223372036854775807) : NewX w wr xa n xc xs := by
 have hc := cap_owns h.row
 refine ⟨⟨hx, ?_⟩, hc.1, hc.2.1, hc.2.2, h.bel⟩
 by_cases e : n = 0
 ·exact .inl e
 ·obtain ⟨gb, c', hv, hlo, hlt⟩ := h.row.form (by omega)
  obtain ⟨rfl, _, rfl⟩ : xa = some ⟨gb, 0, none⟩ ∧ n = n ∧ xc = c' := by simpa using hv
  have lo := (h.row.lt gb rfl).1
  refine .inr ⟨gb, 0, rfl, hlt, newc_dat.2 ⟨lo, hlt⟩, fun i hi => ?_⟩
  obtain ⟨q1, q2, q3, q4, q5, q6⟩ := h.new i hi
  obtain ⟨s1, s2⟩ := hs i hi
  have hg := xvs_get X' i (by rw [h.len]; exact hi)
  refine ⟨?_, (gX X' i).va, (gX X' i).vn, (gX X' i).vc, ?_, q2, fun a ha h0 => ?_, q3, q4, q5, s2⟩
  ·rw [Nat.zero_add, h.row.cellAt _ (by omega), hg.1, ← gX_lt X' i (by rw [h.len]; exact hi), q1, s1]
  ·rw [Nat.zero_add, h.row.cellAt _ (by omega), hg.2, ← gX_lt X' i (by rw [h.len]; exact hi)]
  ·refine newc_dat.2 ⟨(q6 a ha).1, ?_⟩
   rcases q2.2.2 with h1 | ⟨b, off, h1, h2, _⟩
   ·omega
   ·rw [ha] at h1; injection h1 with h1; rw [h1]; exact h2
set_option maxRecDepth 100000 in
set_option maxHeartbeats 1000000 in
theorem ucopied_any (ao : Option Addr) (n cc : Nat) (xs : List (ByteArray × List Int)) (w : World) (h : XsR w ao n xs) (hc : n ≤ cc) (hcm : cc ≤ 9223372036854775807) (hnil : ao = none → cc = 0) (hn : n ≤ 1000000) (hv : ∀ x ∈ xs, x.2.length ≤ 1000000) :
  Calls Try.prog 47 #[.slice ao n cc] w fun e w' => ∃ ao' c', e = .returned (.slice ao' n c') ∧ NewX w w' ao' n c' xs := by
 obtain ⟨X, hX1, hX2, hX3⟩ := h.xv
 have hX3' : n = 0 ∨ ∃ b off, ao = some ⟨b, off, none⟩ ∧ b < w.heap.size ∧ ∀ j u, (xvs X)[j]? = some u → w.cell? ⟨b, off + j, none⟩ = some u := by
  by_cases e : n = 0
  ·exact .inl e
  ·obtain ⟨b, off, h1, h2, _⟩ := h.at (by omega)
   rcases hX3 with h0 | ⟨b', off', h1', h3⟩
   ·exact absurd h0 e
   ·rw [h1] at h1'
    injection h1' with h1'
    injection h1' with e1 e2
    subst e1; subst e2
    exact .inr ⟨b, off, h1, h2, h3⟩
 have HCl := hide (uclonex_any w ao n cc X hX1 hX3' hnil hc hn)
 have HX2 : Hid (∀ i, i < n → ∀ W, Below w.heap.size w W → Bs W (gX X i).va (gX X i).vn (gx xs i).2 ∧ (gX X i).vn ≤ (gX X i).vc ∧ ((gX X i).va = none → (gX X i).vc = 0) ∧ (gX X i).vn ≤ 1000000) := fun i hi W hW => by
  obtain ⟨q1, q2, q3, q4, q5, q6⟩ := hX2 i hi
  refine ⟨q2.below hW, q3, q5, ?_⟩
  rw [← q2.1]
  exact hv _ (by rw [gx_lt _ _ (by rw [h.1]; exact hi)]; exact List.getElem_mem _)
 have HS : Hid (∀ i, i < n → (gx xs i).1 = (gX X i).s ∧ (gx xs i).1.size ≤ 9223372036854775807) := fun i hi => ⟨(hX2 i hi).1, (hX2 i hi).2.2.2.2.2⟩
 have HL := hide h.1
 clear h hX2 hX3 hX3' hnil hv
 go_enter Try.func47, Try.ntmps47
 go_wp2_with (go_at_call 54; refine HCl.out.mono ?_; rintro e w1 ⟨xa, xc, rfl, hO, hB⟩; have HO := hide hO; have HB := hide hB; clear hO hB)
 go_loopw [3, 8] (fun _ r wr => ∃ (i : Nat) (X' : List Xv), r = .int .i64 i ∧ i ≤ n ∧ Cpd w wr xa xc n X X' xs i) (fun _ r _ => n - (intOf r).toNat)
 case atStart => exact ⟨0, X, rfl, Nat.zero_le _, HB.out, HO.out, hX1, fun _ _ => rfl, fun j hj => by omega⟩
 case round =>
  obtain ⟨i, X', rfl, hi0, hm⟩ := hrel
  have HM := hide hm
  by_cases hi : i < n
  ·have hd : decide ((i : Int) < n) = true := by simpa using hi
   have hi1 : (i : Int) < n := by omega
   obtain ⟨gb, xc', hv, hlo, hgl⟩ := hm.row.form (by omega)
   obtain ⟨rfl, _, rfl⟩ : xa = some ⟨gb, 0, none⟩ ∧ n = n ∧ xc = xc' := by simpa using hv
   have hcv : wr.cell? ⟨gb, i * 2 + 1, none⟩ = some (.slice (gX X i).va (gX X i).vn (gX X i).vc) := by
    rw [hm.row.cellAt _ (by omega), (xvs_get X' i (by rw [hm.len]; exact hi)).2, ← gX_lt X' i (by rw [hm.len]; exact hi), hm.old i (Nat.le_refl _)]
   obtain ⟨q1, q2, q3, q4⟩ := HX2.out i hi wr hm.bel
   have HCv := hide (CloneNew_any _ _ _ _ wr q1 q2 q3 (by omega))
   have HMf : Hid (∀ w5, Below wr.heap.size wr w5 → w5.frozen? ⟨gb, i * 2 + 1, none⟩ = false ∧ w5.cell? ⟨gb, i * 2 + 1, none⟩ = some (.slice (gX X i).va (gX X i).vn (gX X i).vc)) := fun w5 h5 => ⟨(owns_below HM.out.row h5).frozenAt _, (h5.cell (p := ⟨gb, i * 2 + 1, none⟩) hgl).trans hcv⟩
   have hcl := hm.row
   clear hm hv hcl q1 q2 q3 q4 HCl HO HB
   go_wp2_with fail
   refine HCv.out.mono ?_
   rintro e w5 ⟨av, cv, rfl, hN⟩
   have mfz := (HMf.out w5 hN.bel).1
   have mcv := (HMf.out w5 hN.bel).2
   have HST := hide (HM.out.step hi hN)
   clear hN HMf HCv
   go_wp2
   exact ⟨⟨i + 1, _, by go_num, by omega, HST.out⟩, by simp [intOf]; omega⟩
  ·have hd : decide ((i : Int) < n) = false := by simpa using hi
   obtain rfl : i = n := by omega
   have HF := hide (hm.fin HL.out HS.out)
   clear hm
   go_wp2
   go_ret
   exact ⟨_, _, rfl, HF.out⟩
end Upr
end Go.Proofs.Ytgnjifdaccphhaa
namespace Go.Proofs.Ytgnjifdaccphhaa
open Go.RowKit Go.Maps
open Nam Tre Tab
open Lz (g)
namespace Upr
end Upr
end Go.Proofs.Ytgnjifdaccphhaa
namespace Go.Proofs.Ytgnjifdaccphhaa
open Go.RowKit Go.Maps
open Nam Tre Tab
open Lz (g)
namespace Upr
theorem uinfoNode : (Try.prog.info? 38).map (·.size) = some 10 := by kernel_rfl
theorem uload_nod {w : World} {b : Nat} {t : TypeId} {cs : Array Value} {fr : Nat × Nat} (h : w.heap[b]? = some (.cells cs t fr)) (hs : cs.size = 10) : (loadVar 38 ⟨b, 0, none⟩).run Try.prog w = .ok (.agg cs) w :=
 run_loadVar_row w b t 38 cs fr _ h Try.underlying38 rfl (by rw [hs]; exact uinfoNode)
def kcs (n : Nod) (v : Pv) : Array Value :=
 #[.slice none 0 0, .int .i64 0, .int .i64 n.kind, .int .i64 n.mode, .int .i64 n.uid, .int .i64 n.gid, .slice v.da v.dn v.dc, .string n.target, .slice v.xa v.xn v.xc, .bool false]
structure KP (w w' : World) (n : Nod) (v : Pv) : Prop where
 bel : Below w.heap.size w w'
 data : Bs w' v.da v.dn n.data
 dcol : ∀ a, v.da = some a → 0 < v.dn → newc w.heap.size w'.heap.size a.block = .dat
 dc : v.dn ≤ v.dc
 dcm : v.dc ≤ 9223372036854775807
 dnil : v.da = none → v.dc = 0
 xs : XsC (newc w.heap.size w'.heap.size) w' v.xa v.xn n.xs
 xc : v.xn ≤ v.xc
 xcm : v.xc ≤ 9223372036854775807
 xnil : v.xa = none → v.xc = 0
theorem newc_up {lo lo' hi hi' k : Nat} (h : newc lo hi k = .dat) (h1 : lo' ≤ lo) (h2 : hi ≤ hi') : newc lo' hi' k = .dat := by
 obtain ⟨a, b⟩ := newc_dat.1 h
 exact newc_dat.2 ⟨by omega, by omega⟩
theorem KP.of {w w1 w2 w3 W : World} {n : Nod} {ao xo : Option Addr} {dn dc xn xc : Nat} (b1 : Below w.heap.size w w1) (hd : New w1 w2 ao dn dc n.data) (b2 : Below w2.heap.size w2 w3) (hx : NewX w3 W xo xn xc n.xs) : KP w W n ⟨ao, dn, dc, xo, xn, xc⟩ := by
 have hd' := hd.on (b2.trans (hx.bel.mono b2.size))
 have s12 := hd.bel.size
 have s23 := b2.size
 have s3 := hx.bel.size
 have s01 := b1.size
 refine ⟨b1.trans (hd'.bel.mono s01), hd'.bs, fun a ha h0 => ?_, hd.cap, hd.max, hd.nil, hx.xs.col (fun k hk => newc_up hk (by omega) (Nat.le_refl _)), hx.cap, hx.max, hx.nil⟩
 refine newc_dat.2 ⟨Nat.le_trans s01 (hd.own a ha).1, ?_⟩
 obtain ⟨_, _, cur, t, hc⟩ := hd'.own a ha
 exact heap_lt hc
theorem setRow_other {w : World} {k i : Nat} (h : i ≠ k) (cs : Array Value) : (w.setRow k cs).heap[i]? = w.heap[i]? := by
 simp [World.setRow, Array.getElem?_modify, Ne.symm h]
theorem KP.row {w w1 w3 : World} {n : Nod} {v : Pv} (h : KP w1 w3 n v) (hb : Below w.heap.size w w1) {k : Nat} (hk : k < w1.heap.size) (hk' : w.heap.size ≤ k) (cs : Array Value) : KP w (w3.setRow k cs) n v := by
 have f : Fr (fun i => i = k) w3 (w3.setRow k cs) := ⟨rfl, rfl, rfl, by simp [World.setRow], fun i hi hn => setRow_other hn cs⟩
 have no : ∀ i, newc w1.heap.size w3.heap.size i = .dat → ¬ i = k := fun i hi e => by have := (newc_dat.1 hi).1; omega
 have up : ∀ i, newc w1.heap.size w3.heap.size i = .dat → newc w.heap.size (w3.setRow k cs).heap.size i = .dat := fun i hi => newc_up hi hb.size f.size
 exact ⟨below_setRow (hb.trans (h.bel.mono hb.size)) hk' cs, h.data.fr f (fun a ha h0 => no _ (h.dcol a ha h0)), fun a ha h0 => up _ (h.dcol a ha h0), h.dc, h.dcm, h.dnil, (h.xs.fr f no).col up, h.xc, h.xcm, h.xnil⟩
set_option maxRecDepth 100000 in
set_option maxHeartbeats 1000000 in
theorem ukept_any (v : Nv) (n : Nod) (w : World) (h : Rep w v n) (hs : n.data.length ≤ 1000000 ∧ n.xs.length ≤ 1000000 ∧ ∀ x ∈ n.xs, x.2.length ≤ 1000000) :
  Calls Try.prog 31 #[.agg v.cells] w fun e w' => ∃ pv, e = .returned (.agg (kcs n pv)) ∧ KP w w' n pv := by
 obtain ⟨hs1, hs2, hs3⟩ := hs
 rw [h.data.1] at hs1
 rw [h.xs.1] at hs2
 obtain ⟨Vc, hVc⟩ : ∃ Vc, Vc = v.cells := ⟨_, rfl⟩
 rw [← hVc]
 obtain ⟨w1, hw1⟩ : ∃ w1, w1 = (w.alloc (.cells Vc 38)).alloc (.cells #[.slice none 0 0, .int .i64 0, .int .i64 0, .int .i64 0, .int .i64 0, .int .i64 0, .slice none 0 0, .string ⟨#[]⟩, .slice none 0 0, .bool false] 38) := ⟨_, rfl⟩
 have b1 : Below w.heap.size w w1 := by rw [hw1]; exact ((Below.refl _ _).alloc (Nat.le_refl _) _).alloc (by simp) _
 have hs1 : w1.heap.size = w.heap.size + 2 := by rw [hw1]; simp
 have hbx : w1.heap[w.heap.size]? = some (.cells Vc 38 (0, 0)) := by rw [hw1, Below.heap_alloc _ _ _ (by simp)]; exact heap_new rfl
 have hrx : w1.heap[w.heap.size + 1]? = some (.cells #[.slice none 0 0, .int .i64 0, .int .i64 0, .int .i64 0, .int .i64 0, .int .i64 0, .slice none 0 0, .string ⟨#[]⟩, .slice none 0 0, .bool false] 38 (0, 0)) := by rw [hw1]; exact heap_new (by simp)
 have HBx : Hid (∀ wX : World, wX.heap[w.heap.size]? = some (.cells Vc 38 (0, 0)) → wX.cell? ⟨w.heap.size, 2, none⟩ = some (.int .i64 v.kind) ∧ wX.cell? ⟨w.heap.size, 3, none⟩ = some (.int .i64 v.mode) ∧ wX.cell? ⟨w.heap.size, 4, none⟩ = some (.int .i64 v.uid) ∧ wX.cell? ⟨w.heap.size, 5, none⟩ = some (.int .i64 v.gid) ∧ wX.cell? ⟨w.heap.size, 6, none⟩ = some (.slice v.da v.dn v.dc) ∧ wX.cell? ⟨w.heap.size, 7, none⟩ = some (.string v.tg) ∧ wX.cell? ⟨w.heap.size, 8, none⟩ = some (.slice v.xa v.xn v.xc)) := fun wX hX => by
  rw [hVc] at hX
  simp [World.cell?, hX, Nv.cells]
 have HRx : Hid (∀ wX, Below w1.heap.size w1 wX → wX.heap[w.heap.size + 1]? = some (.cells #[.slice none 0 0, .int .i64 0, .int .i64 0, .int .i64 0, .int .i64 0, .int .i64 0, .slice none 0 0, .string ⟨#[]⟩, .slice none 0 0, .bool false] 38 (0, 0))) := fun wX hX => (hX.block _ (heap_lt hrx)).trans hrx
 have HR := hide (h.below b1)
 have HB1 := hide b1
 have HK := hide (And.intro h.kind (And.intro h.mode (And.intro h.uid (And.intro h.gid h.tg))))
 have HCd : Hid (∀ W, Below w1.heap.size w1 W → Calls Try.prog 46 #[.slice v.da v.dn v.dc] W fun r w' => ∃ ao' c', r = .returned (.slice ao' v.dn c') ∧ New W w' ao' v.dn c' n.data) := fun W hW => CloneNew_any _ _ _ _ W (HR.out.below hW).data h.dc h.dnil (by omega)
 have HCx : Hid (∀ W, Below w1.heap.size w1 W → Calls Try.prog 47 #[.slice v.xa v.xn v.xc] W fun e w' => ∃ ao' c', e = .returned (.slice ao' v.xn c') ∧ NewX W w' ao' v.xn c' n.xs) := fun W hW => ucopied_any _ _ _ _ W (HR.out.below hW).xs h.xc h.xcm h.xnil hs2 hs3
 have HB0 : Hid (∀ wX, Below w1.heap.size w1 wX → Below w.heap.size w wX ∧ wX.heap[w.heap.size]? = some (.cells Vc 38 (0, 0))) := fun wX hX => ⟨b1.trans (hX.mono b1.size), (hX.block _ (heap_lt hbx)).trans hbx⟩
 have HS1 := hide hs1
 clear h hbx hrx b1 hs1 hVc
 go_enter Try.func31, Try.ntmps31
 go_wp2_with fail
 rw [← hw1]
 clear hw1
 refine wp_region_held_drew (S := fun wX => Below w.heap.size w wX ∧ wX.heap[w.heap.size]? = some (.cells Vc 38 (0, 0))) (by kernel_rfl) (HB0.out _ (below_drewN (Below.refl _ _) 1)) (fun hHeld => ?_)
 refine wpAnyH_take (i := 0) (oi := ⟨some 3, _, _, _, _, _⟩) (v := ?_) rfl (by kernel_rfl) (by kernel_rfl) (by kernel_rfl) (fun _ _ _ h => h) (Or.inl ⟨by rfl, ?_⟩) (by assumption) ?_
 rotate_left
 ·(intro wS hSw; go_simp; try with_reducible rfl)
 try simp only [Act.put, List.setIfInBounds_toArray, List.set_cons_zero, List.set_cons_succ]
 refine wpAnyH_take (i := 1) (oi := ⟨some 4, _, _, _, _, _⟩) (v := ?_) rfl (by kernel_rfl) (by kernel_rfl) (by kernel_rfl) (fun _ _ _ h => h) (Or.inl ⟨by rfl, ?_⟩) (by assumption) ?_
 rotate_left
 ·(intro wS hSw; obtain ⟨q2, q3, q4, q5, q6, q7, q8⟩ := HBx.out wS hSw.2; go_simp; try with_reducible rfl)
 try simp only [Act.put, List.setIfInBounds_toArray, List.set_cons_zero, List.set_cons_succ]
 refine wpAnyH_take (i := 2) (oi := ⟨some 5, _, _, _, _, _⟩) (v := ?_) rfl (by kernel_rfl) (by kernel_rfl) (by kernel_rfl) (fun _ _ _ h => h) (Or.inl ⟨by rfl, ?_⟩) (by assumption) ?_
 rotate_left
 ·(intro wS hSw; go_simp; try with_reducible rfl)
 try simp only [Act.put, List.setIfInBounds_toArray, List.set_cons_zero, List.set_cons_succ]
 refine wpAnyH_take (i := 3) (oi := ⟨some 6, _, _, _, _, _⟩) (v := ?_) rfl (by kernel_rfl) (by kernel_rfl) (by kernel_rfl) (fun _ _ _ h => h) (Or.inl ⟨by rfl, ?_⟩) (by assumption) ?_
 rotate_left
 ·(intro wS hSw; obtain ⟨q2, q3, q4, q5, q6, q7, q8⟩ := HBx.out wS hSw.2; go_simp; try with_reducible rfl)
 try simp only [Act.put, List.setIfInBounds_toArray, List.set_cons_zero, List.set_cons_succ]
 refine wpAnyH_take (i := 4) (oi := ⟨some 7, _, _, _, _, _⟩) (v := ?_) rfl (by kernel_rfl) (by kernel_rfl) (by kernel_rfl) (fun _ _ _ h => h) (Or.inl ⟨by rfl, ?_⟩) (by assumption) ?_
 rotate_left
 ·(intro wS hSw; go_simp; try with_reducible rfl)
 try simp only [Act.put, List.setIfInBounds_toArray, List.set_cons_zero, List.set_cons_succ]
 refine wpAnyH_take (i := 5) (oi := ⟨some 8, _, _, _, _, _⟩) (v := ?_) rfl (by kernel_rfl) (by kernel_rfl) (by kernel_rfl) (fun _ _ _ h => h) (Or.inl ⟨by rfl, ?_⟩) (by assumption) ?_
 rotate_left
 ·(intro wS hSw; obtain ⟨q2, q3, q4, q5, q6, q7, q8⟩ := HBx.out wS hSw.2; go_simp; try with_reducible rfl)
 try simp only [Act.put, List.setIfInBounds_toArray, List.set_cons_zero, List.set_cons_succ]
 refine wpAnyH_take (i := 7) (oi := ⟨some 10, _, _, _, _, _⟩) (v := ?_) rfl (by kernel_rfl) (by kernel_rfl) (by kernel_rfl) (fun _ _ _ h => h) (Or.inl ⟨by rfl, ?_⟩) (by assumption) ?_
 rotate_left
 ·(intro wS hSw; go_simp; try with_reducible rfl)
 try simp only [Act.put, List.setIfInBounds_toArray, List.set_cons_zero, List.set_cons_succ]
 refine wpAnyH_take (i := 8) (oi := ⟨some 11, _, _, _, _, _⟩) (v := ?_) rfl (by kernel_rfl) (by kernel_rfl) (by kernel_rfl) (fun _ _ _ h => h) (Or.inl ⟨by rfl, ?_⟩) (by assumption) ?_
 rotate_left
 ·(intro wS hSw; obtain ⟨q2, q3, q4, q5, q6, q7, q8⟩ := HBx.out wS hSw.2; go_simp; try with_reducible rfl)
 try simp only [Act.put, List.setIfInBounds_toArray, List.set_cons_zero, List.set_cons_succ]
 refine wpAnyH_take (i := 9) (oi := ⟨some 12, _, _, _, _, _⟩) (v := ?_) rfl (by kernel_rfl) (by kernel_rfl) (by kernel_rfl) (fun _ _ _ h => h) (Or.inl ⟨by rfl, ?_⟩) (by assumption) ?_
 rotate_left
 ·(intro wS hSw; go_simp; try with_reducible rfl)
 try simp only [Act.put, List.setIfInBounds_toArray, List.set_cons_zero, List.set_cons_succ]
 refine wpAnyH_take (i := 10) (oi := ⟨some 13, _, _, _, _, _⟩) (v := ?_) rfl (by kernel_rfl) (by kernel_rfl) (by kernel_rfl) (fun _ _ _ h => h) (Or.inl ⟨by rfl, ?_⟩) (by assumption) ?_
 rotate_left
 ·(intro wS hSw; obtain ⟨q2, q3, q4, q5, q6, q7, q8⟩ := HBx.out wS hSw.2; go_simp; try with_reducible rfl)
 try simp only [Act.put, List.setIfInBounds_toArray, List.set_cons_zero, List.set_cons_succ]
 refine wpAnyH_ready (rs := [6]) (by kernel_rfl) (by simp) ?_
 refine AllReadyH.cons (o := ⟨some 9, _, _, _, _, _⟩) rfl (fun K hK => ?_) AllReadyH.nil
 go_simp
 refine (HCd.out _ (below_drewN (Below.refl _ _) 1)).mono ?_
 rintro r w2 ⟨ao, c2, rfl, hN⟩
 have HB2 : Hid (Below w1.heap.size w1 w2) := ⟨hN.bel.os, hN.bel.tape, hN.bel.output, hN.bel.size, hN.bel.block⟩
 have HN := hide (hN.from (w0 := w1) (below_drewN (Below.refl _ _) 1))
 refine hK.out _ _ (HB0.out _ HB2.out) (fun hHeld => ?_)
 clear hN
 clear hK K
 try simp only [Act.put, List.setIfInBounds_toArray, List.set_cons_zero, List.set_cons_succ]
 refine wpAnyH_ready (rs := [11]) (by kernel_rfl) (by simp) ?_
 refine AllReadyH.cons (o := ⟨some 14, _, _, _, _, _⟩) rfl (fun K hK => ?_) AllReadyH.nil
 go_simp
 refine (HCx.out _ HB2.out).mono ?_
 rintro r w3 ⟨xo, c3, rfl, hX⟩
 have HX := hide hX
 have HB3 := hide (HB2.out.trans (hX.bel.mono HB2.out.size))
 refine hK.out _ _ (HB0.out _ HB3.out) (fun hHeld => ?_)
 clear hX
 clear hK K
 try simp only [Act.put, List.setIfInBounds_toArray, List.set_cons_zero, List.set_cons_succ]
 refine wpAnyH_take (i := 12) (oi := ⟨some 15, _, _, _, _, _⟩) (v := ?_) rfl (by kernel_rfl) (by kernel_rfl) (by kernel_rfl) (fun _ _ _ h => h) (Or.inl ⟨by rfl, ?_⟩) (by assumption) ?_
 rotate_left
 ·(intro wS hSw; go_simp; try with_reducible rfl)
 try simp only [Act.put, List.setIfInBounds_toArray, List.set_cons_zero, List.set_cons_succ]
 refine wpAnyH_switch (S' := fun wX => wX = w3.setRow (w.heap.size + 1) #[.slice none 0 0, .int .i64 0, .int .i64 v.kind, .int .i64 v.mode, .int .i64 v.uid, .int .i64 v.gid, .slice ao v.dn c2, .string v.tg, .slice xo v.xn c3, .bool false]) (fun wX h => by rw [h]; exact ⟨below_setRow (HB0.out _ HB3.out).1 (by omega) _, (setRow_other (by omega) _).trans (HB0.out _ HB3.out).2⟩) _ _ _ _ ?_
 refine wpAnyH_ready (rs := [13]) (by kernel_rfl) (by simp) ?_
 refine AllReadyH.cons (o := ⟨none, _, _, _, _, _⟩) rfl (fun K hK => ?_) AllReadyH.nil
 refine step_store_row (by rfl) 38 (.tmp 2) (.tmp 15) (by rfl) (w.heap.size + 1) #[.slice none 0 0, .int .i64 0, .int .i64 v.kind, .int .i64 v.mode, .int .i64 v.uid, .int .i64 v.gid, .slice ao v.dn c2, .string v.tg, .slice xo v.xn c3, .bool false] (by rfl) (by rfl) 38 _ (HRx.out _ HB3.out) uinfoNode rfl (by simp [Value.oneCell']) ?_
 refine hK.out _ _ rfl (fun hHeld => ?_)
 clear hK K
 simp only [Act.put]
 refine wpAnyH_done (by kernel_rfl) ?_ _
 have HF := hide ((KP.of (Below.refl _ _) HN.out (Below.refl _ _) HX.out).row HB1.out (show w.heap.size + 1 < w1.heap.size by have := HS1.out; omega) (by omega) #[.slice none 0 0, .int .i64 0, .int .i64 v.kind, .int .i64 v.mode, .int .i64 v.uid, .int .i64 v.gid, .slice ao v.dn c2, .string v.tg, .slice xo v.xn c3, .bool false])
 have HL := hide (uload_nod (usetRow_heap (HRx.out _ HB3.out) #[.slice none 0 0, .int .i64 0, .int .i64 v.kind, .int .i64 v.mode, .int .i64 v.uid, .int .i64 v.gid, .slice ao v.dn c2, .string v.tg, .slice xo v.xn c3, .bool false]) rfl)
 clear hHeld
 go_wp2
 refine bodyPost_ret (v := .agg #[.slice none 0 0, .int .i64 0, .int .i64 v.kind, .int .i64 v.mode, .int .i64 v.uid, .int .i64 v.gid, .slice ao v.dn c2, .string v.tg, .slice xo v.xn c3, .bool false]) ?_ rfl ⟨⟨ao, v.dn, c2, xo, v.xn, c3⟩, ?_, HF.out⟩
 ·exact results_cr1 (p := 2) rfl _ _ (w.heap.size + 1) _ rfl HL.out
 ·unfold kcs
  rw [HK.out.1, HK.out.2.1, HK.out.2.2.1, HK.out.2.2.2.1, HK.out.2.2.2.2]
end Upr
end Go.Proofs.Ytgnjifdaccphhaa
namespace Go.Proofs.Ytgnjifdaccphhaa
open Go.RowKit Go.Maps
open Nam Tre Tab
open Lz (g)
namespace Upr
def asOf (n : Nod) : Nod := { n with opq := false }
structure Made (w w' : World) (b : Nat) (n : Nod) (par : Int) (pv : Pv) : Prop where
 lo : w.heap.size ≤ b
 hi : b < w'.heap.size
 bel : Below w.heap.size w w'
 nb : NB (newc w.heap.size b) w' b (asOf n) pv 1 (.map (if n.kind = 1 then some (b + 1) else none)) (if n.kind = 1 then par else 0)
 mp : n.kind = 1 → MpS w' (b + 1) 0 (fun _ => none)
theorem KP.nb {w w2 W : World} {n : Nod} {pv : Pv} {l pr : Int} {em : Value} (h : KP w w2 n pv) (hb : Below w2.heap.size w2 W) (hbox : W.heap[w2.heap.size]? = some (.cells (ncs (asOf n) pv l em pr) 60 (0, 0))) : NB (newc w.heap.size w2.heap.size) W w2.heap.size (asOf n) pv l em pr := by
 have f : Fr (fun k => False) w2 W := Fr.of_below hb
 exact ⟨hbox, h.data.below hb, h.dcol, h.dc, h.dcm, h.dnil, h.xs.fr f (fun _ _ h => h), h.xc, h.xcm, h.xnil⟩
theorem NB.newc {lo lo' hi hi' : Nat} {w : World} {b : Nat} {n : Nod} {v : Pv} {lk : Int} {em : Value} {pr : Int} (h : NB (newc lo hi) w b n v lk em pr) (h1 : lo' ≤ lo) (h2 : hi ≤ hi') : NB (Upr.newc lo' hi') w b n v lk em pr := h.col (fun k hk => newc_up hk h1 h2)
set_option maxRecDepth 100000 in
set_option maxHeartbeats 1000000 in
theorem umade_any (v : Nv) (n : Nod) (par : Int) (w : World) (h : Rep w v n) (hs : n.data.length ≤ 1000000 ∧ n.xs.length ≤ 1000000 ∧ ∀ x ∈ n.xs, x.2.length ≤ 1000000) :
  Calls Try.prog 16 #[.agg v.cells, .int .i64 par] w fun e w' => ∃ b pv, e = .returned (.pointer (some ⟨b, 0, none⟩)) ∧ Made w w' b n par pv := by
 have HK1 : Hid (∀ W, Below w.heap.size w W → Calls Try.prog 31 #[.agg v.cells] W fun e w' => ∃ pv, e = .returned (.agg (kcs n pv)) ∧ KP W w' n pv) := fun W hW => ukept_any v n W (h.below hW) hs
 have bel : Hid (∀ o, Below w.heap.size w (w.alloc o)) := fun o => (Below.refl _ _).alloc (Nat.le_refl _) _
 have hk := h.kind
 have HBX := hide (boxed w v)
 clear h hs
 unfold Nv.cells at HBX ⊢
 go_enter Try.func16, Try.ntmps16
 go_wp2_with fail
 refine (HK1.out _ (bel.out _)).mono ?_
 rintro e w2 ⟨pv, rfl, hP⟩
 have HB2 := hide ((bel.out (.cells v.cells 38)).trans (hP.bel.mono (by simp)))
 have k2 : ∀ o, (w2.alloc o).cell? ⟨w.heap.size, 2, none⟩ = some (.int .i64 v.kind) := fun o => ((HBX.out.below hP.bel).below (below_one w2 o)).c2
 have HP := hide hP
 have HLo : Hid (w.heap.size ≤ w2.heap.size) := HB2.out.size
 clear hP HK1 HBX
 unfold kcs
 by_cases h1 : n.kind = 1
 ·have k1 : (v.kind == 1) = true := by rw [← hk]; simpa using h1
  have k3 : ∀ o, (w2.alloc o).cell? ⟨w.heap.size, 2, none⟩ = some (.int .i64 1) := fun o => by rw [k2 o, ← hk, h1]
  clear k2
  have HH := hide h1
  have mkm : ∀ w' : World, (Instr.makeMap 51 none).run Try.prog w' = .ok (.map (some w'.heap.size)) (w'.alloc (.map #[] 0)) := fun w' => by simp [Instr.makeMap, Result.andThen]
  have HFin : Hid (∀ W, W = (w2.alloc (.cells (ncs (asOf n) pv 1 (.map (some (w2.heap.size + 1))) par) 60)).alloc (.map #[] 0) → Made w W w2.heap.size n par pv) := fun W hW => by
   have hb2 : Below w2.heap.size w2 W := by
    rw [hW]
    exact ((Below.refl _ w2).alloc (Nat.le_refl _) _).alloc (by simp) _
   have hsz : W.heap.size = w2.heap.size + 2 := by rw [hW]; simp
   have hbx : W.heap[w2.heap.size]? = some (.cells (ncs (asOf n) pv 1 (.map (some (w2.heap.size + 1))) par) 60 (0, 0)) := by
    rw [hW, Below.heap_alloc _ _ _ (by simp)]; exact heap_new rfl
   have hmp : W.heap[w2.heap.size + 1]? = some (.map #[] 0) := by
    rw [hW]
    exact heap_new (by simp)
   refine ⟨HLo.out, by omega, HB2.out.trans (hb2.mono HLo.out), ?_, fun _ => ?_⟩
   ·have := (HP.out.nb hb2 hbx).newc (lo' := w.heap.size) (hi' := w2.heap.size) (by simp) (Nat.le_refl _)
    rw [if_pos HH.out, if_pos HH.out]
    exact this
   ·have e := MpS.new (w2.alloc (.cells (ncs (asOf n) pv 1 (.map none) 0) 60))
    rw [World.size_alloc] at e
    exact e.same (hmp.trans (heap_new (by simp)).symm)
  unfold ncs asOf at HFin
  rw [HH.out] at HFin ⊢
  clear hk h1 k1
  go_wp2
  go_ret
  exact ⟨_, pv, rfl, HFin.out _ rfl⟩
 ·have k1 : (v.kind == 1) = false := by rw [← hk]; simpa using h1
  have HH := hide h1
  have HFin : Hid (∀ W, W = w2.alloc (.cells (ncs (asOf n) pv 1 (.map none) 0) 60) → Made w W w2.heap.size n par pv) := fun W hW => by
   have hb2 : Below w2.heap.size w2 W := by rw [hW]; exact below_one _ _
   have hbx : W.heap[w2.heap.size]? = some (.cells (ncs (asOf n) pv 1 (.map none) 0) 60 (0, 0)) := by rw [hW]; exact heap_new rfl
   refine ⟨HLo.out, heap_lt hbx, HB2.out.trans (hb2.mono HLo.out), ?_, fun e => absurd e HH.out⟩
   have := (HP.out.nb hb2 hbx).newc (lo' := w.heap.size) (hi' := w2.heap.size) (by simp) (Nat.le_refl _)
   rw [if_neg HH.out, if_neg HH.out]
   exact this
  unfold ncs asOf at HFin
  clear hk h1
  go_wp2
  go_ret
  exact ⟨_, pv, rfl, HFin.out _ rfl⟩
end Upr
end Go.Proofs.Ytgnjifdaccphhaa
namespace Go.Proofs.Ytgnjifdaccphhaa
open Go.RowKit Go.Maps
open Nam Tre Tab
open Lz (g)
namespace Upr
end Upr
end Go.Proofs.Ytgnjifdaccphhaa
namespace Go.Proofs.Ytgnjifdaccphhaa
open Go.RowKit Go.Maps
open Nam Tre Tab
open Lz (g)
namespace Upr
def colN (c : Nat → Cl) (lo b : Nat) (r : Int) (dir : Bool) (k : Nat) : Cl := if k = b then .nod r else if k = b + 1 ∧ dir = true then .ent r else if lo ≤ k ∧ k < b then .dat else c k
theorem colN_old {c : Nat → Cl} {lo b : Nat} {r : Int} {dir : Bool} {k : Nat} (h : k < lo) (hb : lo ≤ b) : colN c lo b r dir k = c k := by
 unfold colN
 rw [if_neg (by omega), if_neg (by omega), if_neg (by omega)]
theorem colN_dat {c : Nat → Cl} {lo b : Nat} {r : Int} {dir : Bool} {k : Nat} (h : newc lo b k = .dat) : colN c lo b r dir k = .dat := by
 obtain ⟨h1, h2⟩ := newc_dat.1 h
 unfold colN
 rw [if_neg (by omega), if_neg (by omega), if_pos ⟨h1, h2⟩]
end Upr
end Go.Proofs.Ytgnjifdaccphhaa
namespace Go.Proofs.Ytgnjifdaccphhaa
open Go.RowKit Go.Maps
open Nam Tre Tab
open Lz (g)
namespace Upr
def v0 : Nv := { nv0 with kind := 1, mode := 493 }
def n0 : Nod := ⟨[], 0, 1, 493, 0, 0, [], ⟨#[]⟩, [], false⟩
theorem rep0 (w : World) : Rep w v0 n0 :=
 ⟨Rs.nil _ _, Nat.le_refl _, by simp [v0, nv0], fun _ => rfl, rfl, by simp [v0, nv0]; decide, rfl, rfl, rfl, rfl, (New.none _).bs, Nat.le_refl _, by simp [v0, nv0], fun _ => rfl, rfl, by show (0 : Nat) ≤ _; omega, XsR.nil _ _, Nat.le_refl _, by simp [v0, nv0], fun _ => rfl, rfl⟩
theorem new_fin {w1 w2 : World} {b : Nat} {pv : Pv} (hM : Made w1 w2 b n0 1 pv) (a1 a2 : Int) :
  ∃ w4, (Instr.mapUpdate 45 (.map (some w2.heap.size)) (.int .i64 1) (.pointer (some ⟨b, 0, none⟩))).run Try.prog (w2.alloc (.map #[] 0)) = .ok () w4 ∧ Below w2.heap.size w2 w4 ∧ w2.heap.size < w4.heap.size ∧
   ∃ c, Up (w4.alloc (.cells #[.int .i64 a1, .int .i64 a2, .map (some w2.heap.size), .int .i64 1] 47)) w4.heap.size c (a1, a2) u0 ∧ ∀ k, k < w1.heap.size → c k = .no := by
 obtain ⟨w4, r4, m4, g4⟩ := (MpI.new w2).store Try.underlying45 (x := 1) (wf_i64 (by decide) (by decide)) (by decide) (.pointer (some ⟨b, 0, none⟩))
 have b4 : Below w2.heap.size w2 w4 := (below_one w2 _).grown g4 (by simp) (fun k e => by cases e; exact Nat.le_refl _)
 have s4 : w2.heap.size < w4.heap.size := by have := g4.size; simp at this; omega
 obtain ⟨W, hW⟩ : ∃ W, W = w4.alloc (.cells #[.int .i64 a1, .int .i64 a2, .map (some w2.heap.size), .int .i64 1] 47) := ⟨_, rfl⟩
 have bW : Below w4.heap.size w4 W := by rw [hW]; exact below_one _ _
 have b2W : Below w2.heap.size w2 W := b4.trans (bW.mono b4.size)
 have hmp := hM.mp rfl
 have hb1 := hmp.lt
 have hlo := hM.lo
 have hhi := hM.hi
 have sW : W.heap.size = w4.heap.size + 1 := by rw [hW]; simp
 obtain ⟨c, hc⟩ : ∃ c : Nat → Cl, c = fun k => if k = w4.heap.size then .up else if k = w2.heap.size then .nds else colN (fun _ => .no) w1.heap.size b 1 true k := ⟨_, rfl⟩
 have cN : ∀ k, k < w2.heap.size → c k = colN (fun _ => .no) w1.heap.size b 1 true k := fun k hk => by rw [hc]; show (if _ then _ else _) = _; rw [if_neg (by omega), if_neg (by omega)]
 have hb : c b = .nod 1 := by rw [cN b hhi]; unfold colN; rw [if_pos rfl]
 have he : c (b + 1) = .ent 1 := by rw [cN _ hb1]; unfold colN; rw [if_neg (by omega), if_pos ⟨rfl, rfl⟩]
 refine ⟨w4, r4, b4, s4, c, ?_⟩
 rw [← hW]
 refine ⟨⟨fun _ => 1, w2.heap.size, fun _ => b, fun _ => b + 1, ?_, u0_wf, fun e he => by simp [u0] at he⟩, fun k hk => ?_⟩
 ·refine ⟨by rw [hW]; exact heap_new rfl, by rw [hc]; show (if _ then _ else _) = _; rw [if_pos rfl], by rw [hc]; show (if _ then _ else _) = _; rw [if_neg (by omega), if_pos rfl], ?_, ?_, ?_, ?_, ?_, ?_, u0_wf.ino, u0_wf.rng, u0_wf.key, u0_wf.may⟩
  ·refine (show MpI w4 _ 1 _ from m4).same (bW.block _ (by omega)) |>.of (fun x => ?_)
   unfold ndF nd u0
   by_cases e : x = 1
   ·subst e; rfl
   ·rw [if_neg e, List.find?_cons_of_neg (by simpa using Ne.symm e)]; rfl
  ·intro n hn
   obtain rfl := List.mem_singleton.1 hn
   refine ⟨pv, ?_⟩
   have h1 := hM.nb.fr (S := fun _ => False) (Fr.of_below b2W) (fun h => h) (fun _ _ h => h)
   have h2 := h1.col (c' := c) (fun k hk => by
    have := (newc_dat.1 hk)
    rw [cN k (by omega)]
    exact colN_dat hk)
   exact ⟨h2.box, h2.data, h2.dcol, h2.dc, h2.dcm, h2.dnil, h2.xs, h2.xc, h2.xcm, h2.xnil⟩
  ·intro n hn
   obtain rfl := List.mem_singleton.1 hn
   exact hb
  ·intro n hn _
   obtain rfl := List.mem_singleton.1 hn
   exact (hmp.same (b2W.block _ hb1)).of (fun x => by unfold enF en u0; rfl)
  ·intro n hn _
   obtain rfl := List.mem_singleton.1 hn
   exact he
  ·intro k hk
   rw [hc] at hk
   simp only at hk
   split at hk
   ·omega
   ·split at hk
    ·omega
    ·unfold colN at hk
     split at hk
     ·omega
     ·split at hk
      ·omega
      ·split at hk
       ·omega
       ·exact absurd rfl hk
 ·have := hM.bel.size
  rw [cN k (by omega)]
  exact colN_old hk hlo
set_option maxRecDepth 100000 in
set_option maxHeartbeats 1000000 in
theorem uNew_any (a1 a2 : Int) (w : World) :
  Calls Try.prog 8 #[.agg #[.int .i64 a1, .int .i64 a2]] w fun e w' => ∃ p c, e = .returned (.pointer (some ⟨p, 0, none⟩)) ∧ Up w' p c (a1, a2) u0 ∧ Below w.heap.size w w' ∧ ∀ k, k < w.heap.size → c k = .no := by
 obtain ⟨w1, hw1⟩ : ∃ w1, w1 = w.alloc (.cells #[.int .i64 a1, .int .i64 a2] 31) := ⟨_, rfl⟩
 have b1 : Below w.heap.size w w1 := by rw [hw1]; exact below_one _ _
 have hbx : w1.heap[w.heap.size]? = some (.cells #[.int .i64 a1, .int .i64 a2] 31 (0, 0)) := by rw [hw1]; exact heap_new rfl
 have HM := hide (umade_any v0 n0 1 w1 (rep0 _) ⟨by decide, by decide, fun x hx => by simp [n0] at hx⟩)
 have HBx : Hid (∀ wX, Below w1.heap.size w1 wX → wX.cell? ⟨w.heap.size, 0, none⟩ = some (.int .i64 a1) ∧ wX.cell? ⟨w.heap.size, 1, none⟩ = some (.int .i64 a2)) := fun wX hX => by
  have := (hX.block _ (heap_lt hbx)).trans hbx
  simp [World.cell?, this]
 have HB1 := hide b1
 have mkm : ∀ w' : World, (Instr.makeMap 45 none).run Try.prog w' = .ok (.map (some w'.heap.size)) (w'.alloc (.map #[] 0)) := fun w' => by simp [Instr.makeMap, Result.andThen]
 clear b1 hbx
 subst hw1
 go_enter Try.func8, Try.ntmps8
 go_wp2_with fail
 refine HM.out.mono ?_
 rintro e w2 ⟨b, pv, rfl, hM⟩
 obtain ⟨y0, y1⟩ := HBx.out w2 hM.bel
 obtain ⟨w4, r4, b4, s4, c, hup, hno⟩ := new_fin hM a1 a2
 have HF : Hid (Up (w4.alloc (.cells #[.int .i64 a1, .int .i64 a2, .map (some w2.heap.size), .int .i64 1] 47)) w4.heap.size c (a1, a2) u0 ∧ Below w.heap.size w (w4.alloc (.cells #[.int .i64 a1, .int .i64 a2, .map (some w2.heap.size), .int .i64 1] 47)) ∧ ∀ k, k < w.heap.size → c k = .no) := by
  have h2 := HB1.out.trans (hM.bel.mono HB1.out.size)
  have h4 := h2.trans (b4.mono h2.size)
  exact ⟨hup, h4.trans ((below_one w4 _).mono h4.size), fun k hk => hno k (Nat.lt_of_lt_of_le hk HB1.out.size)⟩
 clear hM b4 s4 hup hno HBx HM
 go_wp2
 go_ret
 exact ⟨_, c, rfl, HF.out⟩
end Upr
end Go.Proofs.Ytgnjifdaccphhaa
namespace Go.Proofs.Ytgnjifdaccphhaa
open Go.RowKit Go.Maps
open Nam Tre Mrg Brn
def broV : Nv := ⟨none, 0, 0, 1, 1, 0, 0, 0, none, 0, 0, ⟨#[]⟩, none, 0, 0, false⟩
def broN : Nod := ⟨[], 1, 1, 0, 0, 0, [], ⟨#[]⟩, [], false⟩
def bwhV (p : Nat) : Nv := ⟨some ⟨p, 0, none⟩, 1, 1, 2, 4, 0, 0, 0, none, 0, 0, ⟨#[]⟩, none, 0, 0, false⟩
def bwhN : Nod := ⟨[⟨#[97]⟩], 2, 4, 0, 0, 0, [], ⟨#[]⟩, [], false⟩
def binV (p : Nat) : Nv := ⟨some ⟨p, 0, none⟩, 2, 2, 3, 2, 0, 0, 0, none, 0, 0, ⟨#[]⟩, none, 0, 0, false⟩
def binN : Nod := ⟨[⟨#[97]⟩, ⟨#[98]⟩], 3, 2, 0, 0, 0, [], ⟨#[]⟩, [], false⟩
theorem rep_bare {w : World} (na : Option Addr) (nn : Nat) (l : List ByteArray) (i k : Int) (h : Rs w na nn l) (hn : na = none → nn = 0) (hl : nn ≤ 9223372036854775807) (hi : (Lit.int .i64 i).wf = true) : Rep w ⟨na, nn, nn, i, k, 0, 0, 0, none, 0, 0, ⟨#[]⟩, none, 0, 0, false⟩ ⟨l, i, k, 0, 0, 0, [], ⟨#[]⟩, [], false⟩ where
 names := h
 nc := Nat.le_refl _
 ncm := hl
 nnil := hn
 ino := rfl
 in64 := hi
 kind := rfl
 mode := rfl
 uid := rfl
 gid := rfl
 data := bs_zero _ _
 dc := Nat.le_refl _
 dcm := (by decide : (0 : Nat) ≤ 9223372036854775807)
 dnil := fun _ => rfl
 tg := rfl
 tgm := (by decide : (0 : Nat) ≤ 9223372036854775807)
 xs := XsR.nil _ _
 xc := Nat.le_refl _
 xcm := (by decide : (0 : Nat) ≤ 9223372036854775807)
 xnil := fun _ => rfl
 op := rfl
theorem may_bro : mayB broN = true := by
 simp [mayB, may, kdOk, attrOk, xsOk, xs1, broN]
theorem may_bwh : mayB bwhN = true := by
 have : (⟨#[]⟩ : ByteArray).toList = [] := toList_mk []
 simp [mayB, bwhN, this]
theorem wrong_bwh : wrong [broN, bwhN] = 0 := by
 have h1 : valid [97] = 0 := by decide
 simp [wrong, broN, bwhN, fv, h1]
theorem wrong_bin : wrong [broN, bwhN, binN] = 0 := by
 have h1 : valid [97] = 0 := by decide
 have h2 : valid [98] = 0 := by decide
 simp [wrong, broN, bwhN, binN, fv, h1, h2]
theorem check_bwh : checkB [broN, bwhN] = 0 := by
 unfold checkB
 rw [if_neg (by decide), if_neg (by rw [wrong_bwh]; simp), if_neg (by decide), if_neg (by simp [broN, bwhN]), if_neg (by simp [isDir, broN]), if_neg (by simp [inDir, isDir, broN, bwhN]), if_neg (by rw [List.all_cons, List.all_cons, may_bro, may_bwh]; simp), if_neg (by simp [broN, bwhN])]
theorem check_bin : checkB [broN, bwhN, binN] = 5 := by
 unfold checkB
 rw [if_neg (by decide), if_neg (by rw [wrong_bin]; simp), if_neg (by decide), if_neg (by simp [broN, bwhN, binN]), if_neg (by simp [isDir, broN]), if_pos (by simp [inDir, isDir, broN, bwhN, binN])]
theorem bCheck_at (a : Option Addr) (n c : Nat) (L : List (Nv × Nod)) (z : Int) (w : World) (hz : checkB (nds L) = z) (hl : Sh w a n (L.map (·.1))) (hr : ∀ p ∈ L, Rep w p.1 p.2) (hc : n ≤ c) (hcm : c ≤ 1000) :
  Calls Try.prog 6 #[.slice a n c] w fun e w' => e = .returned (.int .i64 z) ∧ Below w.heap.size w w' := by
 subst hz
 exact bCheck_any a n c L w (hl.ns hr) hc (by omega) (by omega)
theorem ta_nil1 (w : World) : (Instr.typeAssert .nilIface 49 61 true).run Try.prog w = .ok (.tuple #[.pointer none, .bool false]) w := by kernel_rfl
theorem ta_nil2 (w : World) : (Instr.typeAssert .nilIface 49 28 true).run Try.prog w = .ok (.tuple #[.pointer none, .bool false]) w := by kernel_rfl
theorem ta_up1 (v : Value) (w : World) : (Instr.typeAssert (.iface 28 v) 49 61 true).run Try.prog w = .ok (.tuple #[.pointer none, .bool false]) w := by kernel_rfl
theorem ta_up2 (v : Value) (w : World) : (Instr.typeAssert (.iface 28 v) 49 28 true).run Try.prog w = .ok (.tuple #[v, .bool true]) w := by kernel_rfl
set_option maxRecDepth 100000 in
theorem kindOf_nil (w : World) : Calls Try.prog 17 #[.nilIface] w fun e w' => e = .returned (.int .i64 0) ∧ w' = w := by
 have t1 := ta_nil1
 have t2 := ta_nil2
 go_enter Try.func17, Try.ntmps17
 go_wp2
 go_ret
 exact ⟨rfl, rfl⟩
theorem Kind_nil (w : World) : Calls Try.prog 9 #[.nilIface] w fun e w' => e = .returned (.int .i64 0) ∧ w' = w := by
 go_enter Try.func9, Try.ntmps9
 go_wp2_with (go_at_call 17; refine (kindOf_nil _).mono ?_; rintro e w1 ⟨rfl, rfl⟩)
 go_ret
 exact ⟨rfl, rfl⟩
set_option maxRecDepth 100000 in
theorem kindOf_up (v : Value) (w : World) : Calls Try.prog 17 #[.iface 28 v] w fun e w' => e = .returned (.int .i64 2) ∧ w' = w := by
 have t1 := ta_up1 v
 have t2 := ta_up2 v
 go_enter Try.func17, Try.ntmps17
 go_wp2
 go_ret
 exact ⟨rfl, rfl⟩
theorem Kind_up (v : Value) (w : World) : Calls Try.prog 9 #[.iface 28 v] w fun e w' => e = .returned (.int .i64 2) ∧ w' = w := by
 go_enter Try.func9, Try.ntmps9
 go_wp2_with (go_at_call 17; refine (kindOf_up _ _).mono ?_; rintro e w1 ⟨rfl, rfl⟩)
 go_ret
 exact ⟨rfl, rfl⟩
def cells3 (v u x : Nv) : Array Value := #[.slice v.na v.nn v.nc, .int .i64 v.ino, .int .i64 v.kind, .int .i64 v.mode, .int .i64 v.uid, .int .i64 v.gid, .slice v.da v.dn v.dc, .string v.tg, .slice v.xa v.xn v.xc, .bool v.op, .slice u.na u.nn u.nc, .int .i64 u.ino, .int .i64 u.kind, .int .i64 u.mode, .int .i64 u.uid, .int .i64 u.gid, .slice u.da u.dn u.dc, .string u.tg, .slice u.xa u.xn u.xc, .bool u.op, .slice x.na x.nn x.nc, .int .i64 x.ino, .int .i64 x.kind, .int .i64 x.mode, .int .i64 x.uid, .int .i64 x.gid, .slice x.da x.dn x.dc, .string x.tg, .slice x.xa x.xn x.xc, .bool x.op]
theorem sh_three' {w : World} {v u x : Nv} {p : Nat} (hp : p = w.heap.size) : Sh (w.alloc (.cells (cells3 v u x) 38)) (some ⟨p, 0, none⟩) 3 [v, u, x] := by
 subst hp
 refine ⟨rfl, .inr ⟨w.heap.size, 0, rfl, by simp, fun i hi => ?_⟩⟩
 match i, hi with
 | 0, _ => constructor <;> simp [cells3, gv]
 | 1, _ => constructor <;> simp [cells3, gv]
 | 2, _ => constructor <;> simp [cells3, gv]
theorem brs_one {W : World} {b : Nat} {s : ByteArray} (h : W.heap[b]? = some (.cells #[.string s] 9 (0, 0))) : Rs W (some ⟨b, 0, none⟩) 1 [s] := by
 refine ⟨rfl, .inr ⟨b, 0, rfl, heap_lt h, fun i hi => ?_⟩⟩
 match i, hi with
 | 0, _ => simp [World.cell?, h, gs]
theorem brs_two {W : World} {b : Nat} {s t : ByteArray} (h : W.heap[b]? = some (.cells #[.string s, .string t] 9 (0, 0))) : Rs W (some ⟨b, 0, none⟩) 2 [s, t] := by
 refine ⟨rfl, .inr ⟨b, 0, rfl, heap_lt h, fun i hi => ?_⟩⟩
 match i, hi with
 | 0, _ => simp [World.cell?, h, gs]
 | 1, _ => simp [World.cell?, h, gs]
structure Bx5 (w W : World) (q : Nat) : Prop where
 a : W.heap[q]? = some (.cells broV.cells 38 (0, 0))
 b : W.heap[q + 1 + 1]? = some (.cells (bwhV (q + 1)).cells 38 (0, 0))
 c : W.heap[q + 1 + 1 + 1 + 1]? = some (.cells (binV (q + 1 + 1 + 1)).cells 38 (0, 0))
 s : Rs W (some ⟨q + 1, 0, none⟩) 1 [⟨#[97]⟩]
 t : Rs W (some ⟨q + 1 + 1 + 1, 0, none⟩) 2 [⟨#[97]⟩, ⟨#[98]⟩]
 bel : Below w.heap.size w W
theorem Bx5.below {w W W' : World} {q : Nat} (h : Bx5 w W q) (hb : Below W.heap.size W W') : Bx5 w W' q :=
 ⟨(hb.block _ (heap_lt h.a)).trans h.a, (hb.block _ (heap_lt h.b)).trans h.b, (hb.block _ (heap_lt h.c)).trans h.c, h.s.below hb, h.t.below hb, h.bel.trans (hb.mono h.bel.size)⟩
theorem Bx5.new {w wn : World} (h : Below w.heap.size w wn) : Bx5 w (((((wn.alloc (.cells broV.cells 38)).alloc (.cells #[.string ⟨#[97]⟩] 9)).alloc (.cells (bwhV (wn.heap.size + 1)).cells 38)).alloc (.cells #[.string ⟨#[97]⟩, .string ⟨#[98]⟩] 9)).alloc (.cells (binV (wn.heap.size + 1 + 1 + 1)).cells 38)) wn.heap.size := by
 have h1 := heap_alloc_new wn (.cells broV.cells 38)
 generalize hw1 : wn.alloc (.cells broV.cells 38) = w1 at *
 have s1 : w1.heap.size = wn.heap.size + 1 := by rw [← hw1]; simp
 have b1 : Below w.heap.size w w1 := by rw [← hw1]; exact h.trans ((below_one _ _).mono h.size)
 have h2 := heap_alloc_new w1 (.cells #[.string ⟨#[97]⟩] 9)
 have g2 := below_one w1 (.cells #[.string ⟨#[97]⟩] 9)
 generalize hw2 : w1.alloc (.cells #[.string ⟨#[97]⟩] 9) = w2 at *
 have s2 : w2.heap.size = wn.heap.size + 1 + 1 := by rw [← hw2]; simp [s1]
 have h3 := heap_alloc_new w2 (.cells (bwhV (wn.heap.size + 1)).cells 38)
 have g3 := below_one w2 (.cells (bwhV (wn.heap.size + 1)).cells 38)
 generalize hw3 : w2.alloc (.cells (bwhV (wn.heap.size + 1)).cells 38) = w3 at *
 have s3 : w3.heap.size = wn.heap.size + 1 + 1 + 1 := by rw [← hw3]; simp [s2]
 have h4 := heap_alloc_new w3 (.cells #[.string ⟨#[97]⟩, .string ⟨#[98]⟩] 9)
 have g4 := below_one w3 (.cells #[.string ⟨#[97]⟩, .string ⟨#[98]⟩] 9)
 generalize hw4 : w3.alloc (.cells #[.string ⟨#[97]⟩, .string ⟨#[98]⟩] 9) = w4 at *
 have s4 : w4.heap.size = wn.heap.size + 1 + 1 + 1 + 1 := by rw [← hw4]; simp [s3]
 have h5 := heap_alloc_new w4 (.cells (binV (wn.heap.size + 1 + 1 + 1)).cells 38)
 have g5 := below_one w4 (.cells (binV (wn.heap.size + 1 + 1 + 1)).cells 38)
 generalize w4.alloc (.cells (binV (wn.heap.size + 1 + 1 + 1)).cells 38) = w5 at *
 rw [s1] at h2
 rw [s2] at h3
 rw [s3] at h4
 rw [s4] at h5
 have k4 : Below w3.heap.size w3 w5 := g4.trans (g5.mono g4.size)
 have k3 : Below w2.heap.size w2 w5 := g3.trans (k4.mono g3.size)
 have k2 : Below w1.heap.size w1 w5 := g2.trans (k3.mono g2.size)
 exact ⟨(k2.block _ (by omega)).trans h1, (k4.block _ (by omega)).trans h3, h5, brs_one ((k3.block _ (by omega)).trans h2), brs_two ((g5.block _ (by omega)).trans h4), b1.trans (k2.mono b1.size)⟩
theorem Bx5.ex {w wn : World} (h : Below w.heap.size w wn) : ∃ W5, W5 = (((((wn.alloc (.cells broV.cells 38)).alloc (.cells #[.string ⟨#[97]⟩] 9)).alloc (.cells (bwhV (wn.heap.size + 1)).cells 38)).alloc (.cells #[.string ⟨#[97]⟩, .string ⟨#[98]⟩] 9)).alloc (.cells (binV (wn.heap.size + 1 + 1 + 1)).cells 38)) ∧ Bx5 w W5 wn.heap.size ∧ wn.heap.size + 1 + 1 + 1 + 1 + 1 = W5.heap.size := ⟨_, rfl, Bx5.new h, by simp⟩
theorem brep_ro (w : World) : Rep w broV broN := rep_bare none 0 [] 1 1 (Rs.nil _ _) (fun _ => rfl) (by omega) (by decide)
theorem brep_wh {w : World} {q : Nat} (h : Rs w (some ⟨q, 0, none⟩) 1 [⟨#[97]⟩]) : Rep w (bwhV q) bwhN := rep_bare _ 1 _ 2 4 h (fun e => by cases e) (by omega) (by decide)
theorem brep_in {w : World} {q : Nat} (h : Rs w (some ⟨q, 0, none⟩) 2 [⟨#[97]⟩, ⟨#[98]⟩]) : Rep w (binV q) binN := rep_bare _ 2 _ 3 2 h (fun e => by cases e) (by omega) (by decide)
theorem bCheck_bwh {w W : World} {q p : Nat} (h : Bx5 w W q) (hp : p = W.heap.size) :
  Calls Try.prog 6 #[.slice (some ⟨p, 0, none⟩) 2 2] (W.alloc (.cells (cells2 broV (bwhV (q + 1))) 38)) fun e w' => e = .returned (.int .i64 0) ∧ Bx5 w w' q := by
 have hb := below_one W (.cells (cells2 broV (bwhV (q + 1))) 38)
 have h1 := h.below hb
 refine (bCheck_at _ 2 2 [(broV, broN), (bwhV (q + 1), bwhN)] 0 _ check_bwh (sh_two' hp) (fun p hp => ?_) (by omega) (by omega)).mono ?_
 ·simp only [List.mem_cons, List.not_mem_nil, or_false] at hp
  rcases hp with rfl | rfl
  ·exact brep_ro _
  ·exact brep_wh h1.s
 ·rintro e w' ⟨rfl, hb2⟩
  exact ⟨rfl, h1.below hb2⟩
theorem bCheck_bin {w W : World} {q p : Nat} (h : Bx5 w W q) (hp : p = W.heap.size) :
  Calls Try.prog 6 #[.slice (some ⟨p, 0, none⟩) 3 3] (W.alloc (.cells (cells3 broV (bwhV (q + 1)) (binV (q + 1 + 1 + 1))) 38)) fun e w' => e = .returned (.int .i64 5) ∧ Bx5 w w' q := by
 have hb := below_one W (.cells (cells3 broV (bwhV (q + 1)) (binV (q + 1 + 1 + 1))) 38)
 have h1 := h.below hb
 refine (bCheck_at _ 3 3 [(broV, broN), (bwhV (q + 1), bwhN), (binV (q + 1 + 1 + 1), binN)] 5 _ check_bin (sh_three' hp) (fun p hp => ?_) (by omega) (by omega)).mono ?_
 ·simp only [List.mem_cons, List.not_mem_nil, or_false] at hp
  rcases hp with rfl | rfl | rfl
  ·exact brep_ro _
  ·exact brep_wh h1.s
  ·exact brep_in h1.t
 ·rintro e w' ⟨rfl, hb2⟩
  exact ⟨rfl, h1.below hb2⟩
set_option maxRecDepth 100000 in
set_option maxHeartbeats 1000000 in
theorem bshown_any (w : World) : Calls Try.prog 4 #[] w fun e w' => e = .returned (.bool true) ∧ Below w.heap.size w w' := by
 go_enter Try.func4, Try.ntmps4
 go_wp2_with (first
  | (go_at_call 8; refine (Upr.uNew_any 0 0 w).mono ?_; rintro e wn ⟨p, c, rfl, hup, hb, hcl⟩; obtain ⟨W5, hW5, hB5, hs5⟩ := Bx5.ex hb; simp only [Nv.cells, broV, bwhV, binV] at hW5; have HB5 := hide hB5; have HC5 := bCheck_bwh HB5.out hs5; simp only [cells2, broV, bwhV] at HC5; have HC5 := hide HC5; have HW5 := hide hW5; clear hup hb hcl hB5 hW5 hs5)
  | (go_at_call 9; refine (Kind_nil _).mono ?_; rintro e wa ⟨rfl, rfl⟩)
  | (go_at_call 9; refine (Kind_up _ _).mono ?_; rintro e wb ⟨rfl, rfl⟩)
  | (go_at_call 6; refine H7C.out.mono ?_; rintro e w8 ⟨rfl, h8⟩; have H8 := hide h8; clear h8)
  | (go_at_call 6; rw [← HW5.out]; refine HC5.out.mono ?_; rintro e w7 ⟨rfl, h7⟩; have H7 := hide h7; have h7c := bCheck_bin h7 rfl; simp only [cells3, broV, bwhV, binV] at h7c; have H7C := hide h7c; clear h7 h7c; obtain ⟨a0, a1, a2, a3, a4, a5, a6, a7, a8, a9, _⟩ := cbox H7.out.a; obtain ⟨b0, b1, b2, b3, b4, b5, b6, b7, b8, b9, _⟩ := cbox H7.out.b; obtain ⟨d0, d1, d2, d3, d4, d5, d6, d7, d8, d9, _⟩ := cbox H7.out.c))
 go_ret
 exact ⟨rfl, H8.out.bel⟩
end Go.Proofs.Ytgnjifdaccphhaa

import Derived.Test.YtbmeapehgajbkaaGreatGJTreCheck
import Derived.Test.YtbmeapehgajbkaaGreatGTabNums
import Derived.Test.YtbmeapehgajbkaaGreatGUprRow
import Derived.Laws.CopyOwn
import Derived.Lib.SlBytesConst
import Derived.Deep.RegionWith
set_option linter.unusedVariables false
namespace Go.Proofs.YtbmeapehgajbkaaGreat
open Go.RowKit Go.Maps
open Nam Tre Tab
open Lz (g)
open Cur
namespace Tab
def rootV (a : Option Addr) (n c : Nat) : Nv := ⟨none, 0, 0, 0, 1, 0, 0, 0, none, 0, 0, ⟨#[]⟩, a, n, c, false⟩
def rootN (xs : List (ByteArray × List Int)) : Nod := ⟨[], 0, 1, 0, 0, 0, [], ⟨#[]⟩, xs, false⟩
theorem check_rootN (xs : List (ByteArray × List Int)) : check [rootN xs] = if xsOk xs = true then 0 else 7 := by
 have h1 : ¬ 1024 < [rootN xs].length := by simp
 have h2 : wrong [rootN xs] = 0 := rfl
 have h3 : [rootN xs].any deep = false := rfl
 have h4 : ([rootN xs].map Nod.names).Nodup := by simp
 have h5 : isDir [rootN xs] [] = true := by simp [isDir, rootN]
 have h6 : [rootN xs].all (inDir [rootN xs]) = true := by simp [inDir, rootN]
 have h8 : [rootN xs].Pairwise one := by simp
 have hm : [rootN xs].all may = xsOk xs := by
  simp [may, kdOk, attrOk, rootN]
 by_cases h : xsOk xs = true
 ·rw [if_pos h]
  exact check_ok h1 h2 h3 h4 h5 h6 (by rw [hm]; exact h) h8
 ·rw [if_neg h]
  exact check_kind h1 h2 h3 h4 h5 h6 (by rw [hm]; simpa using h)
theorem xs1_mem : ∀ (xs : List (ByteArray × List Int)) (a : List UInt8), xs1 a xs = true → ∀ x ∈ xs, x.1.size ≤ 40 ∧ x.2.length ≤ 200
 | [], _, _, x, hx => by simp at hx
 | y :: r, a, h, x, hx => by
  rw [xs1] at h
  simp only [Bool.and_eq_true, decide_eq_true_eq] at h
  obtain ⟨⟨⟨_, h1⟩, h2⟩, h3⟩ := h
  rcases List.mem_cons.1 hx with rfl | hx
  ·refine ⟨?_, h2⟩
   unfold txt at h1
   simp only [Bool.and_eq_true, decide_eq_true_eq] at h1
   have := h1.1.2
   rwa [toList_length] at this
  ·exact xs1_mem r _ h3 x hx
theorem xsOk_mem {xs : List (ByteArray × List Int)} (h : xsOk xs = true) : xs.length ≤ 8 ∧ ∀ x ∈ xs, x.1.size ≤ 40 ∧ x.2.length ≤ 200 := by
 unfold xsOk at h
 simp only [Bool.and_eq_true, decide_eq_true_eq] at h
 exact ⟨h.1, xs1_mem xs _ h.2⟩
end Tab
set_option maxRecDepth 100000 in
theorem MayXattrs_any (a : Option Addr) (n c : Nat) (xs : List (ByteArray × List Int)) (w : World) (h : XsR w a n xs) (hc : n ≤ c) (hcm : c ≤ 9223372036854775807) (hnil : a = none → c = 0) (q : Bool) (hq : xsOk xs = q) :
  Calls Tryz.prog 46 #[.slice a n c] w fun e w' => e = .returned (.bool q) ∧ Below w.heap.size w w' := by
 obtain ⟨w1, hw1⟩ : ∃ w1, w1 = w.alloc (.cells (rootV a n c).cells 44) := ⟨_, rfl⟩
 have b1 : Below w.heap.size w w1 := by rw [hw1]; exact below_one _ _
 have hN : Ns w1 (some ⟨w.heap.size, 0, none⟩) 1 [(rootV a n c, rootN xs)] := by
  refine ⟨rfl, fun p hp => ?_, .inr ⟨w.heap.size, 0, rfl, by rw [hw1]; simp, fun i hi => ?_⟩⟩
  ·simp at hp
   subst hp
   exact ⟨Rs.nil _ _, Nat.le_refl _, by simp [rootV], fun _ => rfl, rfl, by simp [rootV]; decide, rfl, rfl, rfl, rfl, (New.none _).bs, Nat.le_refl _, by simp [rootV], fun _ => rfl, rfl, by show (0 : Nat) ≤ _; omega, h.below b1, hc, hcm, hnil, rfl⟩
  ·obtain rfl : i = 0 := by omega
   have hB := boxed w (rootV a n c)
   rw [← hw1] at hB
   exact ⟨hB.c0, hB.c1, hB.c2, hB.c3, hB.c4, hB.c5, hB.c6, hB.c7, hB.c8, hB.c9⟩
 have HC := hide (Check_any _ 1 1 _ w1 hN (Nat.le_refl _) (by omega))
 have e : nds [(rootV a n c, rootN xs)] = [rootN xs] := rfl
 rw [e, check_rootN] at HC
 have HB1 := hide b1
 have HW1 := hide hw1
 unfold Nv.cells rootV at HW1
 have HQ := hide hq
 clear b1 hw1 hN h e hq
 cases q with
 | true =>
  rw [HQ.out, if_pos rfl] at HC
  go_enter Tryz.func46, Tryz.ntmps46
  go_wp2_with fail
  rw [← HW1.out]
  refine HC.out.mono ?_
  rintro r w2 ⟨rfl, hb2⟩
  have HB2 := hide (HB1.out.trans (hb2.mono HB1.out.size))
  clear hb2 HC
  go_wp2
  go_ret
  exact ⟨rfl, HB2.out⟩
 | false =>
  rw [HQ.out, if_neg (by simp)] at HC
  go_enter Tryz.func46, Tryz.ntmps46
  go_wp2_with fail
  rw [← HW1.out]
  refine HC.out.mono ?_
  rintro r w2 ⟨rfl, hb2⟩
  have HB2 := hide (HB1.out.trans (hb2.mono HB1.out.size))
  clear hb2 HC
  go_wp2
  go_ret
  exact ⟨rfl, HB2.out⟩
end Go.Proofs.YtbmeapehgajbkaaGreat
namespace Go.Proofs.YtbmeapehgajbkaaGreat
open Go.RowKit Go.Maps
open Nam Tre Tab
open Lz (g)
namespace Upr
theorem results_cr1 {fn : Func} {p : Tmp} {ty : TypeId} (h : fn.results = #[.cell p ty]) (tmps : Array Value) (w : World) (g : Nat) (cs : Array Value)
  (hp : tmps.getD p undef = .pointer (some ⟨g, 0, none⟩)) (hr : (loadVar ty ⟨g, 0, none⟩).run Tryz.prog w = .ok (.agg cs) w) :
  (results fn tmps).run Tryz.prog w = .ok (.agg cs) w := by
 have hp' : tmps[p]?.getD undef = .pointer (some ⟨g, 0, none⟩) := by simpa using hp
 simp [results, h, hp', asAddr, hr]
theorem uinfoEnt : (Tryz.prog.info? 33).map (fun i => i.size) = some 3 := by kernel_rfl
theorem uload_ent {w : World} {b : Nat} {t : TypeId} {cs : Array Value} {fr : Nat × Nat} (h : w.heap[b]? = some (.cells cs t fr)) (hs : cs.size = 3) : (loadVar 33 ⟨b, 0, none⟩).run Tryz.prog w = .ok (.agg cs) w :=
 run_loadVar_row w b t 33 cs fr _ h Tryz.underlying33 rfl (by rw [hs]; exact uinfoEnt)
theorem may_small {n : Nod} (h : mayU n = true) : n.data.length ≤ 4096 ∧ n.target.size ≤ 200 ∧ n.xs.length ≤ 8 ∧ (∀ x ∈ n.xs, x.1.size ≤ 40 ∧ x.2.length ≤ 200) ∧ (0 ≤ n.mode ∧ n.mode ≤ 511) ∧ (0 ≤ n.uid ∧ n.uid ≤ 65535) ∧ (0 ≤ n.gid ∧ n.gid ≤ 65535) ∧ 1 ≤ n.kind ∧ n.kind ≤ 4 := by
 unfold mayU at h
 split at h
 ·rename_i hk
  rw [decide_eq_true_eq] at h
  obtain ⟨⟨h1, h2, h3⟩, h4, h5, h6⟩ := h
  have h7 : n.xs = [] := List.eq_nil_of_length_eq_zero h6
  have h8 : n.target.size = 0 := by rw [← toList_length, h5]; rfl
  refine ⟨by omega, by omega, by omega, ?_, by omega, by omega, by omega, by omega, by omega⟩
  rw [h7]; intro x hx; simp at hx
 ·unfold may kdOk attrOk at h
  simp only [Bool.and_eq_true, decide_eq_true_eq] at h
  obtain ⟨⟨⟨h1, h2⟩, h3⟩, _⟩ := h
  obtain ⟨x1, x2⟩ := xsOk_mem h3
  have h9 : n.data.length ≤ 4096 ∧ n.target.size ≤ 200 ∧ 1 ≤ n.kind ∧ n.kind ≤ 4 := by
   have tl := toList_length n.target
   split at h1
   ·simp only [Bool.and_eq_true, decide_eq_true_eq, List.isEmpty_iff] at h1
    rw [h1.2] at tl
    simp at tl
    omega
   ·split at h1
    ·simp only [Bool.and_eq_true, decide_eq_true_eq, List.isEmpty_iff] at h1
     rw [h1.2] at tl
     simp at tl
     omega
    ·split at h1
     ·unfold txt at h1
      simp only [Bool.and_eq_true, decide_eq_true_eq] at h1
      omega
     ·cases h1
  exact ⟨h9.1, h9.2.1, x1, x2, h2.1, h2.2.1, h2.2.2, h9.2.2⟩
section
variable {p : Nat} {c : Nat → Cl} {q : Int × Int × Int} {u : Us} {lk pr : Int → Int} {m : Nat} {nb eb : Int → Nat}
set_option maxRecDepth 100000 in
theorem uentry_any (d : Int) (s : ByteArray) (w : World) (h : UB w p c q u lk pr m nb eb) {n n2 : Nod} (hn : nd u d = some n) (hk : n.kind = 1) {x : En} (hx : en u d s = some x) (hn2 : nd u x.ref = some n2) (hs : s.size ≤ maxLen) (hr : (Lit.int .i64 x.ref).wf = true) :
  Calls Tryz.prog 24 #[.pointer (some ⟨p, 0, none⟩), .pointer (some ⟨nb d, 0, none⟩), .string s] w fun e w' => e = .returned (.agg #[.string s, .int .i64 n2.kind, .int .i64 x.ref]) ∧ Below w.heap.size w w' := by
 obtain ⟨_, _, v, hv⟩ := h.at hn
 obtain ⟨_, _, v2, hv2⟩ := h.at hn2
 have hb := h.below (below_one w (.cells #[.string ⟨#[]⟩, .int .i64 0, .int .i64 0] 33))
 have hvb := hv.fr (S := fun _ => False) (Fr.of_below (below_one w (.cells #[.string ⟨#[]⟩, .int .i64 0, .int .i64 0] 33))) (fun h => h) (fun _ _ h => h)
 have hvb2 := hv2.fr (S := fun _ => False) (Fr.of_below (below_one w (.cells #[.string ⟨#[]⟩, .int .i64 0, .int .i64 0] 33))) (fun h => h) (fun _ _ h => h)
 have c2 := hb.c2
 have e1 := hvb.e
 rw [if_pos hk] at e1
 have k2 := hvb2.k
 have l1 := (hb.ents hn hk).get Tryz.underlying71 (zeroI _) hs
 have l2 := hb.get hr hn2
 unfold enF at l1
 rw [hx] at l1
 simp only [Option.map_some, Option.getD_some] at l1
 clear h hv hv2 hb hvb hvb2 hn hk hx hn2
 go_enter Tryz.func24, Tryz.ntmps24
 go_wp2
 refine bodyPost_ret (v := .agg #[.string s, .int .i64 n2.kind, .int .i64 x.ref]) ?_ rfl ⟨rfl, below_one _ _⟩
 exact results_cr1 (p := 6) rfl _ _ w.heap.size _ rfl (uload_ent (heap_alloc_new w _) rfl)
def statE (u : Us) (r : Int) : Int := if (nd u r).isSome = true then 0 else 1
theorem wpAnyH_switch {P : Program} {md : Region.Mode} {ops : Array Oper} {Q : Exit → Act → World → Prop} {S S' : World → Prop} (hS : ∀ w, S' w → S w) : ∀ (fuel : Nat) (listed : Array Bool) (a : Act) (w : World), wpAnyH P md ops Q S' fuel listed a w → wpAnyH P md ops Q S fuel listed a w
 | 0, _, _, _, h => h
 | fuel + 1, _, _, _, h => ⟨h.1, fun i hi => wpOp_mono (fun a' w' h' => ⟨hS w' h'.1, wpAnyH_switch hS fuel _ a' w' h'.2⟩) (h.2 i hi)⟩
theorem step_store_row {w : World} {ops : Array Oper} {o : Oper} {a : Act} {K : Act → World → Prop} {Q : Exit → Act → World → Prop} {E : Prop} (hgd : o.guard = none) (ty : TypeId) (x y : Operand) (ho : o.op = .store ty x y)
  (k : Nat) (cells : Array Value) (hx : a.eval x = .pointer (some ⟨k, 0, none⟩)) (hy : a.eval y = .agg cells) (t : TypeId) (old : Array Value) (hg : w.heap[k]? = some (.cells old t (0, 0))) (hi : (Tryz.prog.info? ty).map (·.size) = some cells.size)
  (hold : old.size = cells.size) (h1 : cells.all (·.oneCell') = true) (h : K (a.put o.dst undef) (w.setRow k cells)) : if Region.wanted o (yielded ops a.tmps) = true then Oper.wp Tryz.prog o a w K Q else E := by
 have hw : Region.wanted o (yielded ops a.tmps) = true := by simp [Region.wanted, hgd]
 rw [if_pos hw]
 exact wp_store_row ty x y ho k cells hx hy t old hg hi hold h1 h
theorem usetRow_heap {w : World} {k : Nat} {old : Array Value} {t : TypeId} (h : w.heap[k]? = some (.cells old t (0, 0))) (cs : Array Value) : (w.setRow k cs).heap[k]? = some (.cells cs t (0, 0)) := by
 simp [World.setRow, Array.getElem?_modify, h]
def lookV (u : Us) (d : Int) (s : ByteArray) : (ByteArray × Int × Int) × Int :=
 if dirE u d ≠ 0 then ((⟨#[]⟩, 0, 0), dirE u d)
 else match en u d s with
  | none => ((⟨#[]⟩, 0, 0), 20)
  | some e => ((s, knd u e.ref, e.ref), 0)
set_option maxRecDepth 100000 in
theorem uLook_any (d : Int) (s : ByteArray) (w : World) (hr : (Lit.int .i64 d).wf = true) (hs : s.size ≤ maxLen) (h : UB w p c q u lk pr m nb eb) (href : ∀ e ∈ u.E, (Lit.int .i64 e.ref).wf = true ∧ ∃ n, nd u e.ref = some n) :
  Calls Tryz.prog 8 #[.pointer (some ⟨p, 0, none⟩), .int .i64 d, .string s] w fun e w' => e = .returned (.tuple #[.agg #[.string (lookV u d s).1.1, .int .i64 (lookV u d s).1.2.1, .int .i64 (lookV u d s).1.2.2], .int .i64 (lookV u d s).2]) ∧ Below w.heap.size w w' := by
 obtain ⟨w1, hw1⟩ : ∃ w1, w1 = w.alloc (.cells #[.string ⟨#[]⟩, .int .i64 0, .int .i64 0] 33) := ⟨_, rfl⟩
 have b1 : Below w.heap.size w w1 := by rw [hw1]; exact below_one _ _
 have h1 := h.below b1
 have HD := hide (udir_any d w1 hr h1)
 by_cases hd : dirE u d = 0
 ·obtain ⟨n, hn, hk⟩ := dirE_zero.1 hd
  have e0 : ptrD u nb d = some ⟨nb d, 0, none⟩ := by unfold ptrD; rw [if_pos hd]
  obtain ⟨_, _, v, hv⟩ := h1.at hn
  have e1 := hv.e
  rw [if_pos hk] at e1
  have l1 := (h1.ents hn hk).look Tryz.underlying71 (zeroI _) hs
  unfold enF at l1
  rw [e0, hd] at HD
  cases hx : en u d s with
  | none =>
   have e2 : lookV u d s = ((⟨#[]⟩, 0, 0), 20) := by unfold lookV; rw [if_neg (by rw [hd]; simp), hx]
   rw [e2]
   rw [hx] at l1
   simp only [Option.map_none, Option.getD_none, Option.isSome_none] at l1
   subst hw1
   clear h h1 hv hn hk hd hx e0 e2 b1 href
   go_enter Tryz.func8, Tryz.ntmps8
   go_wp2_with (first
    | (go_at_call 23; refine HD.out.mono ?_; rintro e w2 ⟨rfl, rfl⟩))
   refine bodyPost_ret (v := .tuple #[.agg #[.string ⟨#[]⟩, .int .i64 0, .int .i64 0], .int .i64 20]) ?_ rfl ⟨rfl, below_one _ _⟩
   exact results_cr2 (p := 6) (u := 7) rfl _ _ w.heap.size _ rfl (uload_ent (heap_alloc_new w _) rfl)
  | some x =>
   obtain ⟨x1, x2, x3⟩ := en_some hx
   obtain ⟨r1, n2, hn2⟩ := href x x1
   have e2 : lookV u d s = ((s, n2.kind, x.ref), 0) := by unfold lookV; rw [if_neg (by rw [hd]; simp), hx]; show ((s, knd u x.ref, x.ref), (0 : Int)) = _; unfold knd; rw [hn2]; rfl
   rw [e2]
   rw [hx] at l1
   simp only [Option.map_some, Option.getD_some, Option.isSome_some] at l1
   have HE := hide (uentry_any d s w1 h1 hn hk hx hn2 hs r1)
   have HBx : Hid (∀ wX, Below w1.heap.size w1 wX → wX.heap[w.heap.size]? = some (.cells #[.string ⟨#[]⟩, .int .i64 0, .int .i64 0] 33 (0, 0)) ∧ Below w.heap.size w wX) := fun wX hX => by
    have hp1 : w1.heap[w.heap.size]? = some (.cells #[.string ⟨#[]⟩, .int .i64 0, .int .i64 0] 33 (0, 0)) := by rw [hw1]; exact heap_new rfl
    exact ⟨(hX.block _ (heap_lt hp1)).trans hp1, b1.trans (hX.mono b1.size)⟩
   subst hw1
   clear h h1 hv hn hk hd hx e0 e2 b1 href hn2
   go_enter Tryz.func8, Tryz.ntmps8
   go_wp2_with (first
    | (go_at_call 23; refine HD.out.mono ?_; rintro e w2 ⟨rfl, rfl⟩)
    | (go_at_call 24; refine HE.out.mono ?_; rintro e w3 ⟨rfl, hb3⟩; have HX3 := hide (HBx.out w3 hb3); clear hb3)
    | (refine wpList_store_row rfl _ _ _ rfl w.heap.size #[.string s, .int .i64 n2.kind, .int .i64 x.ref] rfl rfl 33 _ HX3.out.1 uinfoEnt rfl (by simp [Value.oneCell']) ?_))
   refine bodyPost_ret (v := .tuple #[.agg #[.string s, .int .i64 n2.kind, .int .i64 x.ref], .int .i64 0]) ?_ rfl ⟨rfl, below_setRow HX3.out.2 (Nat.le_refl _) _⟩
   exact results_cr2 (p := 6) (u := 7) rfl _ _ w.heap.size _ rfl (uload_ent (usetRow_heap HX3.out.1 _) rfl)
 ·have e2 : lookV u d s = ((⟨#[]⟩, 0, 0), dirE u d) := by unfold lookV; rw [if_pos hd]
  have e0 : ptrD u nb d = none := by unfold ptrD; rw [if_neg hd]
  have k0 : (dirE u d == 0) = false := by simpa using hd
  rw [e2]
  rw [e0] at HD
  generalize dirE u d = ee at *
  subst hw1
  clear h h1 hd e0 e2 b1 href
  go_enter Tryz.func8, Tryz.ntmps8
  go_wp2_with (first
   | (go_at_call 23; refine HD.out.mono ?_; rintro e w2 ⟨rfl, rfl⟩))
  refine bodyPost_ret (v := .tuple #[.agg #[.string ⟨#[]⟩, .int .i64 0, .int .i64 0], .int .i64 ee]) ?_ rfl ⟨rfl, below_one _ _⟩
  exact results_cr2 (p := 6) (u := 7) rfl _ _ w.heap.size _ rfl (uload_ent (heap_alloc_new w _) rfl)
theorem rd_nil {l : List Int} {off n : Int} (h : ¬ 0 < min n (l.length - off)) (ho : 0 ≤ off) (hn : 0 ≤ n) : rd l off n = [] := by
 unfold rd
 split
 ·rfl
 ·have : n = 0 := by omega
  rw [this]; simp
theorem rd_some {l : List Int} {o : Nat} {n : Int} (h : 0 < min n ((l.length : Int) - o)) : rd l o n = (l.take (o + (min n ((l.length : Int) - o)).toNat)).drop o := by
 unfold rd
 rw [if_neg (by omega), List.drop_take]
 rw [show o + (min n ((l.length : Int) - o)).toNat - o = (min n ((l.length : Int) - o)).toNat by omega, show ((o : Nat) : Int).toNat = o by omega]
 by_cases e : n ≤ (l.length : Int) - o
 ·rw [show min n ((l.length : Int) - o) = n by omega]
 ·rw [List.take_of_length_le (by simp; omega), List.take_of_length_le (by simp; omega)]
def rdE (u : Us) (r off n : Int) : Int := if filE u r ≠ 0 then filE u r else if off < 0 ∨ n < 0 then 1 else 0
def rdB (u : Us) (r off n : Int) : List Int := if rdE u r off n ≠ 0 then [] else rd (((nd u r).map Nod.data).getD []) off n
end
end Upr
end Go.Proofs.YtbmeapehgajbkaaGreat
namespace Go.Proofs.YtbmeapehgajbkaaGreat
open Go.RowKit Go.Maps
open Nam Tre Tab
open Lz (g)
namespace Upr
theorem uwithin_any (x m : Int) (w : World) :
  Calls Tryz.prog 75 #[.int .i64 x, .int .i64 m] w fun e w' => e = .returned (.bool (upB x m)) ∧ w' = w := by
 have HQ := hide (show upB x m = decide (0 ≤ x ∧ x ≤ m) from rfl)
 by_cases h : 0 ≤ x
 ·go_enter Tryz.func75, Tryz.ntmps75
  go_wp2
  go_ret
  exact ⟨ret_bool (by rw [HQ.out]; simp [h]), rfl⟩
 ·have h' : x < 0 := by omega
  go_enter Tryz.func75, Tryz.ntmps75
  go_wp2
  go_ret
  exact ⟨ret_bool (by rw [HQ.out]; simp; omega), rfl⟩
set_option maxRecDepth 100000 in
theorem uattr_any (x y z : Int) (w : World) (q : Bool) (hq : (upB x 511 && upB y 65535 && upB z 65535) = q) :
  Calls Tryz.prog 45 #[.agg #[.int .i64 x, .int .i64 y, .int .i64 z]] w fun e w' => e = .returned (.bool q) ∧ Below w.heap.size w w' := by
 obtain ⟨a, ha⟩ : ∃ q, upB x 511 = q := ⟨_, rfl⟩
 obtain ⟨b, hb⟩ : ∃ q, upB y 65535 = q := ⟨_, rfl⟩
 have HE := hide hq
 have bel : Hid (∀ o, Below w.heap.size w (w.alloc o)) := fun o => (Below.refl _ _).alloc (Nat.le_refl _) _
 clear hq
 cases a with
 | false =>
  go_enter Tryz.func45, Tryz.ntmps45
  go_wp2_with (go_at_call 75; refine (uwithin_any _ _ _).mono ?_; rintro e w' ⟨rfl, rfl⟩)
  go_ret
  exact ⟨ret_bool (by rw [← HE.out, ha]; rfl), bel.out _⟩
 | true =>
 cases b with
 | false =>
  go_enter Tryz.func45, Tryz.ntmps45
  go_wp2_with (go_at_call 75; refine (uwithin_any _ _ _).mono ?_; rintro e w' ⟨rfl, rfl⟩)
  go_ret
  exact ⟨ret_bool (by rw [← HE.out, ha, hb]; rfl), bel.out _⟩
 | true =>
  go_enter Tryz.func45, Tryz.ntmps45
  go_wp2_with (go_at_call 75; refine (uwithin_any _ _ _).mono ?_; rintro e w' ⟨rfl, rfl⟩)
  go_ret
  exact ⟨ret_bool (by rw [← HE.out, ha, hb]; rfl), bel.out _⟩
theorem utarget_any (s : ByteArray) (w : World) (q : Bool) (hq : txt s.toList 200 = q) :
  Calls Tryz.prog 76 #[.string s] w fun e w' => e = .returned (.bool q) ∧ w' = w := by
 obtain ⟨a, ha⟩ : ∃ q, s.toList.isEmpty = q := ⟨_, rfl⟩
 obtain ⟨b, hb⟩ : ∃ q, decide ((s.size : Int) ≤ (200 : Nat)) = q := ⟨_, rfl⟩
 obtain ⟨z, hz⟩ : ∃ z, Lib.indexByte s.data.toList 0 = z := ⟨_, rfl⟩
 obtain ⟨c, hc⟩ : ∃ q, decide (z < 0) = q := ⟨_, rfl⟩
 have HE := hide (txt_eq s 200 a b c ha hb (by rw [hz]; exact hc))
 have HZ := hide hz
 have HQ := hide hq
 clear hz hq
 cases a with
 | true =>
  go_enter Tryz.func76, Tryz.ntmps76
  go_wp2
  go_ret
  exact ⟨ret_bool (by rw [← HQ.out, HE.out]; rfl), rfl⟩
 | false =>
 cases b with
 | false =>
  have hb2 : ¬ s.size ≤ 200 := by have := of_decide_eq_false hb; omega
  have hb3 : decide ((s.size : Int) ≤ 200) = false := hb
  clear hb
  go_enter Tryz.func76, Tryz.ntmps76
  go_wp2
  go_ret
  exact ⟨ret_bool (by rw [← HQ.out, HE.out]; rfl), rfl⟩
 | true =>
  have hb2 : s.size ≤ 200 := by have := of_decide_eq_true hb; omega
  have hb3 : decide ((s.size : Int) ≤ 200) = true := hb
  clear hb
  go_enter Tryz.func76, Tryz.ntmps76
  go_wp2_with (go_at_call 91; refine (indexByte_any _ _ z HZ.out).mono ?_; rintro e w' ⟨rfl, rfl⟩)
  go_ret
  exact ⟨ret_bool (by rw [← HQ.out, HE.out]; simp), rfl⟩
def kindU (n : Nod) (a b z : Bool) : Bool :=
 if n.kind = 1 then !a && !b
 else if n.kind = 2 then decide ((n.data.length : Int) ≤ 4096) && !b
 else if n.kind = 3 then !a && txt n.target.toList 200
 else if n.kind = 4 then !a && !b && z && decide ((n.xs.length : Int) = 0)
 else false
set_option maxRecDepth 100000 in
set_option maxHeartbeats 1000000 in
theorem ukind_any (v : Nv) (n : Nod) (w : World) (h : Rep w v n) (a b z : Bool) (ha : decide (0 < n.data.length) = a) (hb : (!n.target.toList.isEmpty) = b) (hz : decide (n.mode = 0 ∧ n.uid = 0 ∧ n.gid = 0) = z) :
  Calls Tryz.prog 47 #[.agg v.cells] w fun e w' => e = .returned (.bool (kindU n a b z)) ∧ Below w.heap.size w w' := by
 obtain ⟨Q, hQ⟩ : ∃ Q, kindU n a b z = Q := ⟨_, rfl⟩
 have HQ := hide hQ
 rw [hQ]
 unfold kindU at HQ
 rw [h.kind, h.data.1, h.tg, h.xs.1] at HQ
 rw [h.data.1] at ha
 rw [h.tg] at hb
 rw [h.mode, h.uid, h.gid] at hz
 clear h hQ
 obtain ⟨na, nn, nc, ino, kind, mode, uid, gid, da, dn, dc, tg, xa, xn, xc, op⟩ := v
 simp only at ha hb hz HQ
 have bel : Hid (∀ o, Below w.heap.size w (w.alloc o)) := fun o => (Below.refl _ _).alloc (Nat.le_refl _) _
 unfold Nv.cells
 simp only
 have hb' : tg.toList.isEmpty = !b := by rw [← hb]; simp
 clear hb
 have hA : ∀ W : World, (binOp .eql 41 (.agg #[.int .i64 mode, .int .i64 uid, .int .i64 gid]) (.agg #[.int .i64 0, .int .i64 0, .int .i64 0])).run Tryz.prog W = .ok (.bool z) W := fun W => by rw [attrEq, hz]
 clear hz
 have hx1 : decide ((xn : Int) = 0) = decide (xn = 0) := by rw [Bool.eq_iff_iff]; simp
 have hd1 : decide ((dn : Int) ≤ 4096) = decide (dn ≤ 4096) := by rw [Bool.eq_iff_iff]; simp; omega
 rw [hx1, hd1] at HQ
 clear hx1 hd1
 have HT := hide (utarget_any tg)
 by_cases k1 : kind = 1
 ·subst k1
  clear hA HT
  cases a <;> cases b
  all_goals (
   go_enter Tryz.func47, Tryz.ntmps47
   go_wp2_with fail
   go_quiet (fail)
   go_wp2
   go_ret
   exact ⟨ret_bool (by rw [← HQ.out]; rfl), below_drewN (bel.out _) _⟩)
 by_cases k2 : kind = 2
 ·subst k2
  clear hA HT k1
  obtain ⟨e, he⟩ : ∃ e, decide (dn ≤ 4096) = e := ⟨_, rfl⟩
  rw [he] at HQ
  have he2 : decide ((dn : Int) ≤ 4096) = e := by rw [← he, Bool.eq_iff_iff]; simp; omega
  cases a <;> cases b <;> cases e
  all_goals (
   go_enter Tryz.func47, Tryz.ntmps47
   go_wp2_with fail
   go_quiet (fail)
   go_wp2
   go_ret
   exact ⟨ret_bool (by rw [← HQ.out]; rfl), below_drewN (bel.out _) _⟩)
 by_cases k3 : kind = 3
 ·subst k3
  clear hA k1 k2
  cases a
  all_goals (
   go_enter Tryz.func47, Tryz.ntmps47
   go_wp2_with fail
   go_quiet (fail)
   go_wp2_with (go_at_call 76; refine (HT.out _ _ rfl).mono ?_; rintro e w2 ⟨rfl, rfl⟩)
   go_ret
   exact ⟨ret_bool (by rw [← HQ.out]; rfl), below_drewN (bel.out _) _⟩)
 by_cases k4 : kind = 4
 ·subst k4
  clear HT k1 k2 k3
  obtain ⟨e, he⟩ : ∃ e, decide (xn = 0) = e := ⟨_, rfl⟩
  rw [he] at HQ
  have he2 : ((xn : Int) == 0) = e := by rw [← he, Bool.eq_iff_iff]; simp
  cases a <;> cases b <;> cases z <;> cases e
  all_goals (
   go_enter Tryz.func47, Tryz.ntmps47
   go_wp2_with fail
   go_quiet (fail)
   go_wp2
   go_ret
   exact ⟨ret_bool (by rw [← HQ.out]; rfl), below_drewN (bel.out _) _⟩)
 ·have j1 : (kind == 1) = false := by simpa using k1
  have j2 : (kind == 2) = false := by simpa using k2
  have j3 : (kind == 3) = false := by simpa using k3
  have j4 : (kind == 4) = false := by simpa using k4
  have HK := hide (And.intro k1 (And.intro k2 (And.intro k3 k4)))
  clear hA HT k1 k2 k3 k4
  go_enter Tryz.func47, Tryz.ntmps47
  go_wp2_with fail
  go_quiet (fail)
  go_wp2
  go_ret
  exact ⟨ret_bool (by rw [← HQ.out, if_neg HK.out.1, if_neg HK.out.2.1, if_neg HK.out.2.2.1, if_neg HK.out.2.2.2]), below_drewN (bel.out _) _⟩
theorem mayU_eq (n : Nod) : mayU n = ((upB n.mode 511 && upB n.uid 65535 && upB n.gid 65535) && xsOk n.xs && kindU n (decide (0 < n.data.length)) (!n.target.toList.isEmpty) (decide (n.mode = 0 ∧ n.uid = 0 ∧ n.gid = 0))) := by
 unfold mayU kindU
 by_cases k4 : n.kind = 4
 ·rw [if_pos k4, if_neg (by omega), if_neg (by omega), if_neg (by omega), if_pos k4, Bool.eq_iff_iff]
  simp only [decide_eq_true_eq, Bool.and_eq_true, Bool.not_eq_true', decide_eq_false_iff_not, Bool.not_eq_false', List.isEmpty_iff, upB]
  constructor
  ·rintro ⟨⟨h1, h2, h3⟩, h4, h5, h6⟩
   have hx : n.xs = [] := List.eq_nil_of_length_eq_zero h6
   exact ⟨⟨⟨⟨⟨by omega, by omega⟩, by omega, by omega⟩, by omega, by omega⟩, by rw [hx]; rfl⟩, ⟨⟨by omega, h5⟩, h1, h2, h3⟩, by omega⟩
  ·rintro ⟨_, ⟨⟨h4, h5⟩, h1⟩, h6⟩
   exact ⟨h1, by omega, h5, by omega⟩
 ·rw [if_neg k4]
  unfold may
  rw [attrB, Bool.eq_iff_iff]
  show (kdOk n && _ && xsOk n.xs && !false) = true ↔ _
  unfold kdOk
  by_cases k1 : n.kind = 1
  ·rw [if_pos k1, if_pos k1]
   simp only [Bool.and_eq_true, decide_eq_true_eq, Bool.not_eq_true', decide_eq_false_iff_not, Bool.not_eq_false', Bool.not_false, and_true]
   constructor
   ·rintro ⟨⟨⟨h1, h2⟩, h3⟩, h4⟩; exact ⟨⟨h3, h4⟩, by omega, h2⟩
   ·rintro ⟨⟨h3, h4⟩, h1, h2⟩; exact ⟨⟨⟨by omega, h2⟩, h3⟩, h4⟩
  ·rw [if_neg k1, if_neg k1]
   by_cases k2 : n.kind = 2
   ·rw [if_pos k2, if_pos k2]
    simp only [Bool.and_eq_true, decide_eq_true_eq, Bool.not_eq_true', Bool.not_eq_false', Bool.not_false, and_true]
    constructor
    ·rintro ⟨⟨⟨h1, h2⟩, h3⟩, h4⟩; exact ⟨⟨h3, h4⟩, by omega, h2⟩
    ·rintro ⟨⟨h3, h4⟩, h1, h2⟩; exact ⟨⟨⟨by omega, h2⟩, h3⟩, h4⟩
   ·rw [if_neg k2, if_neg k2]
    by_cases k3 : n.kind = 3
    ·rw [if_pos k3, if_pos k3]
     simp only [Bool.and_eq_true, decide_eq_true_eq, Bool.not_eq_true', decide_eq_false_iff_not, Bool.not_false, and_true]
     constructor
     ·rintro ⟨⟨⟨h1, h2⟩, h3⟩, h4⟩; exact ⟨⟨h3, h4⟩, by omega, h2⟩
     ·rintro ⟨⟨h3, h4⟩, h1, h2⟩; exact ⟨⟨⟨by omega, h2⟩, h3⟩, h4⟩
    ·rw [if_neg k3, if_neg k3, if_neg k4]
     simp
set_option maxRecDepth 100000 in
theorem umay_any (v : Nv) (n : Nod) (w : World) (h : Rep w v n) :
  Calls Tryz.prog 26 #[.agg v.cells] w fun e w' => e = .returned (.bool (mayU n)) ∧ Below w.heap.size w w' := by
 obtain ⟨b, hb⟩ : ∃ q, (upB v.mode 511 && upB v.uid 65535 && upB v.gid 65535) = q := ⟨_, rfl⟩
 obtain ⟨c, hc⟩ : ∃ q, xsOk n.xs = q := ⟨_, rfl⟩
 obtain ⟨a, ha⟩ : ∃ q, kindU n (decide (0 < n.data.length)) (!n.target.toList.isEmpty) (decide (n.mode = 0 ∧ n.uid = 0 ∧ n.gid = 0)) = q := ⟨_, rfl⟩
 have HE : Hid (mayU n = (b && c && a)) := by
  show _ = _
  rw [mayU_eq, ha, h.mode, h.uid, h.gid, hb, hc]
 have HA := hide ha
 have HB := hide hb
 have HC := hide hc
 have HR := hide h
 have x1 := h.xc
 have x2 := h.xcm
 have x3 := h.xnil
 have bel : Hid (∀ o, Below w.heap.size w (w.alloc o)) := fun o => (Below.refl _ _).alloc (Nat.le_refl _) _
 clear ha hb hc h
 have HBX := hide (boxed w v)
 unfold Nv.cells
 cases b with
 | false =>
  go_enter Tryz.func26, Tryz.ntmps26
  go_wp2_with (go_at_call 45; refine (uattr_any _ _ _ _ false HB.out).mono ?_; rintro e w1 ⟨rfl, hb1⟩)
  go_ret
  exact ⟨ret_bool (by rw [HE.out]; rfl), (bel.out _).trans (hb1.mono (by simp))⟩
 | true =>
  go_enter Tryz.func26, Tryz.ntmps26
  go_wp2_with (go_at_call 45; refine (uattr_any _ _ _ _ true HB.out).mono ?_)
  rintro e w1 ⟨rfl, hb1⟩
  have B1 := hide (HBX.out.below hb1)
  have e1 := hide ((bel.out _).trans (hb1.mono (by simp)))
  have d8 := B1.out.c8
  clear hb1
  cases c with
  | false =>
   go_wp2_with (go_at_call 46; refine (MayXattrs_any _ _ _ n.xs _ (HR.out.below e1.out).xs x1 x2 x3 false HC.out).mono ?_; rintro e w2 ⟨rfl, hb2⟩)
   go_ret
   exact ⟨ret_bool (by rw [HE.out]; rfl), e1.out.trans (hb2.mono e1.out.size)⟩
  | true =>
   go_wp2_with (go_at_call 46; refine (MayXattrs_any _ _ _ n.xs _ (HR.out.below e1.out).xs x1 x2 x3 true HC.out).mono ?_)
   rintro e w2 ⟨rfl, hb2⟩
   have B2 := hide (B1.out.below hb2)
   have e2 := hide (e1.out.trans (hb2.mono e1.out.size))
   obtain ⟨_, q0, q1, q2, q3, q4, q5, q6, q7, q8, q9⟩ := B2.out
   clear hb2 d8
   go_wp2_with fail
   refine (ukind_any v n _ (HR.out.below e2.out) _ _ _ rfl rfl rfl).mono ?_
   rintro e w3 ⟨rfl, hb3⟩
   rw [HA.out]
   have HF := hide (e2.out.trans (hb3.mono e2.out.size))
   clear hb3
   go_wp2
   go_ret
   exact ⟨ret_bool (by rw [HE.out]; rfl), HF.out⟩
end Upr
end Go.Proofs.YtbmeapehgajbkaaGreat
namespace Go.Proofs.YtbmeapehgajbkaaGreat
open Go.RowKit Go.Maps
open Nam Tre Tab
open Lz (g)
namespace Upr
def newc (lo hi : Nat) (b : Nat) : Cl := if lo ≤ b ∧ b < hi then .dat else .no
theorem newc_dat {lo hi b : Nat} : newc lo hi b = .dat ↔ lo ≤ b ∧ b < hi := by
 unfold newc
 by_cases h : lo ≤ b ∧ b < hi
 ·rw [if_pos h]; exact ⟨fun _ => h, fun _ => rfl⟩
 ·rw [if_neg h]; exact ⟨fun e => by (cases e), fun e => absurd e h⟩
structure NewX (w w' : World) (ao : Option Addr) (n cc : Nat) (xs : List (ByteArray × List Int)) : Prop where
 xs : XsC (newc w.heap.size w'.heap.size) w' ao n xs
 cap : n ≤ cc
 max : cc ≤ 9223372036854775807
 nil : ao = none → cc = 0
 bel : Below w.heap.size w w'
theorem ueql_nil (w : World) (a : Option Addr) (n c : Nat) : (binOp .eql 42 (.slice a n c) (.slice none 0 0)).run Tryz.prog w = .ok (.bool a.isNone) w := by
 simp only [binOp]
 simp [run_equal_slice_nil w 42 96 a n c Tryz.underlying42]
set_option maxRecDepth 100000 in
theorem uclonex_any (w : World) (ao : Option Addr) (n cc : Nat) (X : List Xv) (hX : X.length = n) (h : n = 0 ∨ ∃ b off, ao = some ⟨b, off, none⟩ ∧ b < w.heap.size ∧ ∀ j u, (xvs X)[j]? = some u → w.cell? ⟨b, off + j, none⟩ = some u) (hnil : ao = none → cc = 0) (hc : n ≤ cc) (hn : n ≤ 1000000) :
  Calls Tryz.prog 49 #[.slice ao n cc] w fun e w' => ∃ ao' c', e = .returned (.slice ao' n c') ∧ w'.ownsRow w.heap.size 96 2 (.slice ao' n c') n (xvs X) ∧ Below w.heap.size w w' := by
 cases ao with
 | none =>
  obtain rfl : cc = 0 := hnil rfl
  obtain rfl : n = 0 := by omega
  obtain rfl : X = [] := List.eq_nil_of_length_eq_zero hX
  have H : Hid (w.ownsRow w.heap.size 96 2 (.slice none 0 0) 0 (xvs []) ∧ Below w.heap.size w w) := ⟨World.ownsRow_nil _ _ _ _, Below.refl _ _⟩
  clear h hnil
  have hq : ∀ w : World, (binOp .eql 42 (.slice none 0 0) (.slice none 0 0)).run Tryz.prog w = .ok (.bool true) w := fun w => ueql_nil w none 0 0
  go_enter Tryz.func49, Tryz.ntmps49
  go_wp2
  go_ret
  exact ⟨_, _, rfl, H.out⟩
 | some ad =>
  clear hnil
  have hq : ∀ w : World, (binOp .eql 42 (.slice (some ad) n cc) (.slice none 0 0)).run Tryz.prog w = .ok (.bool false) w := fun w => ueql_nil w (some ad) n cc
  obtain ⟨i0, hi, hz0, hz1, hz2⟩ := info_parts infoXat
  have ho := emptyR (w := w) (t := 96) (size := 2) (Nat.le_refl w.heap.size)
  obtain ⟨v', w', hr, ho', hg, _⟩ := run_append_own (P := Tryz.prog) (w.alloc (.cells #[] 96)) w.heap.size 42 42 96 i0 (.agg #[.string ⟨#[]⟩, .slice none 0 0]) 2 40 Tryz.underlying42 hi hz0 hz1 hz2 rfl (by decide) _ 0 [] ho ad n cc (xvs X) (by rw [xvs_length, hX]) (by
   rcases h with h0 | ⟨b, off, h1, hb, hseg⟩
   ·have : X = [] := List.eq_nil_of_length_eq_zero (by omega)
    subst this
    intro j u hu; simp [xvs] at hu
   ·obtain rfl := Option.some.inj h1
    intro j u hu
    rw [Addr.add_lit]
    exact ((below_one w _).cell (p := ⟨b, off + j, none⟩) hb).trans (hseg j u hu)) (xvs_one _) (by unfold maxLen; omega) (by omega) (by simp)
  rw [Nat.zero_add, List.nil_append] at ho'
  obtain ⟨ao', c', rfl⟩ := owns_shape ho'
  have H : Hid (w'.ownsRow w.heap.size 96 2 (.slice ao' n c') n (xvs X) ∧ Below w.heap.size w w') := ⟨ho', (below_one w _).grown hg (by simp) (fun k e => (ho.lt k e).1)⟩
  clear h ho ho' hg hi hz0 hz1 hz2
  go_enter Tryz.func49, Tryz.ntmps49
  go_wp2_with (at_builtin; refine wpList_append_run rfl _ _ _ rfl _ _ _ rfl rfl hr ?_)
  go_ret
  exact ⟨_, _, rfl, H.out⟩
structure Cpd (w wr : World) (xa : Option Addr) (xc n : Nat) (X X' : List Xv) (xs : List (ByteArray × List Int)) (i : Nat) : Prop where
 bel : Below w.heap.size w wr
 row : wr.ownsRow w.heap.size 96 2 (.slice xa n xc) n (xvs X')
 len : X'.length = n
 old : ∀ j, i ≤ j → gX X' j = gX X j
 new : ∀ j, j < i → (gX X' j).s = (gX X j).s ∧ Bs wr (gX X' j).va (gX X' j).vn (gx xs j).2 ∧ (gX X' j).vn ≤ (gX X' j).vc ∧ (gX X' j).vc ≤ 9223372036854775807 ∧ ((gX X' j).va = none → (gX X' j).vc = 0) ∧ ∀ a, (gX X' j).va = some a → w.heap.size ≤ a.block ∧ xa ≠ some ⟨a.block, 0, none⟩
theorem Cpd.step {w wr w5 : World} {n xc gb i : Nat} {X X' : List Xv} {xs : List (ByteArray × List Int)} (h : Cpd w wr (some ⟨gb, 0, none⟩) xc n X X' xs i) (hi : i < n) {ao : Option Addr} {vn vc : Nat} (hN : New wr w5 ao vn vc (gx xs i).2) :
  Cpd w (w5.setCell ⟨gb, i * 2 + 1, none⟩ (.slice ao vn vc)) (some ⟨gb, 0, none⟩) xc n X (X'.set i ⟨(gX X' i).s, ao, vn, vc⟩) xs (i + 1) := by
 have row5 := owns_below h.row hN.bel
 have hgl : gb < wr.heap.size := by
  obtain ⟨cur, hc⟩ := owns_obj h.row rfl
  exact heap_lt hc
 have hgw := (h.row.lt gb rfl).1
 have fr : Fr (fun k => k = gb) wr (w5.setCell ⟨gb, i * 2 + 1, none⟩ (.slice ao vn vc)) := (Fr.of_below hN.bel).set (p := ⟨gb, i * 2 + 1, none⟩) _ (fun _ => rfl)
 refine ⟨(h.bel.trans (hN.bel.mono h.bel.size)).setCell (by exact hgw) _, own_set row5 h.len hi ao vn vc, by rw [List.length_set]; exact h.len, fun j hj => ?_, fun j hj => ?_⟩
 ·rw [gX_set _ _ _ _ (by rw [h.len]; exact hi), if_neg (by omega)]
  exact h.old j (by omega)
 ·rw [gX_set _ _ _ _ (by rw [h.len]; exact hi)]
  by_cases e : j = i
  ·subst e
   rw [if_pos rfl]
   refine ⟨by rw [h.old j (Nat.le_refl _)], ?_, hN.cap, hN.max, hN.nil, fun a ha => ?_⟩
   ·have fr5 : Fr (fun k => k = gb) w5 (w5.setCell ⟨gb, j * 2 + 1, none⟩ (.slice ao vn vc)) := (Fr.refl _ _).set (p := ⟨gb, j * 2 + 1, none⟩) _ (fun _ => rfl)
    exact hN.bs.fr fr5 (fun a ha _ hx => by have := (hN.own a ha).1; have hx' : a.block = gb := hx; omega)
   ·have := (hN.own a ha).1
    exact ⟨Nat.le_trans h.bel.size this, fun e => by injection e with e; injection e with e; omega⟩
  ·rw [if_neg e]
   obtain ⟨q1, q2, q3, q4, q5, q6⟩ := h.new j (by omega)
   exact ⟨q1, q2.fr fr (fun a ha _ hx => (q6 a ha).2 (by have hx' : a.block = gb := hx; rw [hx'])), q3, q4, q5, q6⟩
theorem Cpd.fin {w wr : World} {xa : Option Addr} {xc n : Nat} {X X' : List Xv} {xs : List (ByteArray × List Int)} (h : Cpd w wr xa xc n X X' xs n) (hx : xs.length = n) (hs : ∀ i, i < n → (gx xs i).1 = (gX X i).s ∧ (gx xs i).1.size ≤ 9223372036854775807) : NewX w wr xa n xc xs := by
 have hc := cap_owns h.row
 refine ⟨⟨hx, ?_⟩, hc.1, hc.2.1, hc.2.2, h.bel⟩
 by_cases e : n = 0
 ·exact .inl e
 ·obtain ⟨gb, c', hv, hlo, hlt⟩ := h.row.form (by omega)
  obtain ⟨rfl, _, rfl⟩ : xa = some ⟨gb, 0, none⟩ ∧ n = n ∧ xc = c' := by simpa using hv
  have lo := (h.row.lt gb rfl).1
  refine .inr ⟨gb, 0, rfl, hlt, newc_dat.2 ⟨lo, hlt⟩, fun i hi => ?_⟩
  obtain ⟨q1, q2, q3, q4, q5, q6⟩ := h.new i hi
  obtain ⟨s1, s2⟩ := hs i hi
  have hg := xvs_get X' i (by rw [h.len]; exact hi)
  refine ⟨?_, (gX X' i).va, (gX X' i).vn, (gX X' i).vc, ?_, q2, fun a ha h0 => ?_, q3, q4, q5, s2⟩
  ·rw [Nat.zero_add, h.row.cellAt _ (by omega), hg.1, ← gX_lt X' i (by rw [h.len]; exact hi), q1, s1]
  ·rw [Nat.zero_add, h.row.cellAt _ (by omega), hg.2, ← gX_lt X' i (by rw [h.len]; exact hi)]
  ·refine newc_dat.2 ⟨(q6 a ha).1, ?_⟩
   rcases q2.2.2 with h1 | ⟨b, off, h1, h2, _⟩
   ·omega
   ·rw [ha] at h1; injection h1 with h1; rw [h1]; exact h2
set_option maxRecDepth 100000 in
set_option maxHeartbeats 1000000 in
theorem ucopied_any (ao : Option Addr) (n cc : Nat) (xs : List (ByteArray × List Int)) (w : World) (h : XsR w ao n xs) (hc : n ≤ cc) (hcm : cc ≤ 9223372036854775807) (hnil : ao = none → cc = 0) (hn : n ≤ 1000000) (hv : ∀ x ∈ xs, x.2.length ≤ 1000000) :
  Calls Tryz.prog 30 #[.slice ao n cc] w fun e w' => ∃ ao' c', e = .returned (.slice ao' n c') ∧ NewX w w' ao' n c' xs := by
 obtain ⟨X, hX1, hX2, hX3⟩ := h.xv
 have hX3' : n = 0 ∨ ∃ b off, ao = some ⟨b, off, none⟩ ∧ b < w.heap.size ∧ ∀ j u, (xvs X)[j]? = some u → w.cell? ⟨b, off + j, none⟩ = some u := by
  by_cases e : n = 0
  ·exact .inl e
  ·obtain ⟨b, off, h1, h2, _⟩ := h.at (by omega)
   rcases hX3 with h0 | ⟨b', off', h1', h3⟩
   ·exact absurd h0 e
   ·rw [h1] at h1'
    injection h1' with h1'
    injection h1' with e1 e2
    subst e1; subst e2
    exact .inr ⟨b, off, h1, h2, h3⟩
 have HCl := hide (uclonex_any w ao n cc X hX1 hX3' hnil hc hn)
 have HX2 : Hid (∀ i, i < n → ∀ W, Below w.heap.size w W → Bs W (gX X i).va (gX X i).vn (gx xs i).2 ∧ (gX X i).vn ≤ (gX X i).vc ∧ ((gX X i).va = none → (gX X i).vc = 0) ∧ (gX X i).vn ≤ 1000000) := fun i hi W hW => by
  obtain ⟨q1, q2, q3, q4, q5, q6⟩ := hX2 i hi
  refine ⟨q2.below hW, q3, q5, ?_⟩
  rw [← q2.1]
  exact hv _ (by rw [gx_lt _ _ (by rw [h.1]; exact hi)]; exact List.getElem_mem _)
 have HS : Hid (∀ i, i < n → (gx xs i).1 = (gX X i).s ∧ (gx xs i).1.size ≤ 9223372036854775807) := fun i hi => ⟨(hX2 i hi).1, (hX2 i hi).2.2.2.2.2⟩
 have HL := hide h.1
 clear h hX2 hX3 hX3' hnil hv
 go_enter Tryz.func30, Tryz.ntmps30
 go_wp2_with (go_at_call 49; refine HCl.out.mono ?_; rintro e w1 ⟨xa, xc, rfl, hO, hB⟩; have HO := hide hO; have HB := hide hB; clear hO hB)
 go_loopw [3, 8] (fun _ r wr => ∃ (i : Nat) (X' : List Xv), r = .int .i64 i ∧ i ≤ n ∧ Cpd w wr xa xc n X X' xs i) (fun _ r _ => n - (intOf r).toNat)
 case atStart => exact ⟨0, X, rfl, Nat.zero_le _, HB.out, HO.out, hX1, fun _ _ => rfl, fun j hj => by omega⟩
 case round =>
  obtain ⟨i, X', rfl, hi0, hm⟩ := hrel
  have HM := hide hm
  by_cases hi : i < n
  ·have hd : decide ((i : Int) < n) = true := by simpa using hi
   have hi1 : (i : Int) < n := by omega
   obtain ⟨gb, xc', hv, hlo, hgl⟩ := hm.row.form (by omega)
   obtain ⟨rfl, _, rfl⟩ : xa = some ⟨gb, 0, none⟩ ∧ n = n ∧ xc = xc' := by simpa using hv
   have hcv : wr.cell? ⟨gb, i * 2 + 1, none⟩ = some (.slice (gX X i).va (gX X i).vn (gX X i).vc) := by
    rw [hm.row.cellAt _ (by omega), (xvs_get X' i (by rw [hm.len]; exact hi)).2, ← gX_lt X' i (by rw [hm.len]; exact hi), hm.old i (Nat.le_refl _)]
   obtain ⟨q1, q2, q3, q4⟩ := HX2.out i hi wr hm.bel
   have HCv := hide (CloneNew_any _ _ _ _ wr q1 q2 q3 (by omega))
   have HMf : Hid (∀ w5, Below wr.heap.size wr w5 → w5.frozen? ⟨gb, i * 2 + 1, none⟩ = false ∧ w5.cell? ⟨gb, i * 2 + 1, none⟩ = some (.slice (gX X i).va (gX X i).vn (gX X i).vc)) := fun w5 h5 => ⟨(owns_below HM.out.row h5).frozenAt _, (h5.cell (p := ⟨gb, i * 2 + 1, none⟩) hgl).trans hcv⟩
   have hcl := hm.row
   clear hm hv hcl q1 q2 q3 q4 HCl HO HB
   go_wp2_with fail
   refine HCv.out.mono ?_
   rintro e w5 ⟨av, cv, rfl, hN⟩
   have mfz := (HMf.out w5 hN.bel).1
   have mcv := (HMf.out w5 hN.bel).2
   have HST := hide (HM.out.step hi hN)
   clear hN HMf HCv
   go_wp2
   exact ⟨⟨i + 1, _, by go_num, by omega, HST.out⟩, by simp [intOf]; omega⟩
  ·have hd : decide ((i : Int) < n) = false := by simpa using hi
   obtain rfl : i = n := by omega
   have HF := hide (hm.fin HL.out HS.out)
   clear hm
   go_wp2
   go_ret
   exact ⟨_, _, rfl, HF.out⟩
section
variable {p : Nat} {c : Nat → Cl} {q : Int × Int × Int} {u : Us} {lk pr : Int → Int} {m : Nat} {nb eb : Int → Nat}
def xaV (u : Us) (r : Int) : List (ByteArray × List Int) := ((nd u r).map Nod.xs).getD []
theorem NewX.none (w : World) : NewX w w none 0 0 [] := ⟨⟨rfl, .inl rfl⟩, Nat.le_refl _, by omega, fun _ => rfl, Below.refl _ _⟩
set_option maxRecDepth 100000 in
theorem uXattrs_any (r : Int) (w : World) (hr : (Lit.int .i64 r).wf = true) (h : UB w p c q u lk pr m nb eb) :
  Calls Tryz.prog 11 #[.pointer (some ⟨p, 0, none⟩), .int .i64 r] w fun e w' => ∃ ao' c', e = .returned (.tuple #[.slice ao' (xaV u r).length c', .int .i64 (statE u r)]) ∧ NewX w w' ao' (xaV u r).length c' (xaV u r) := by
 have c2 := h.c2
 have hl := h.look hr
 cases hn : nd u r with
 | none =>
  have e1 : statE u r = 1 := by unfold statE; rw [hn]; rfl
  have e2 : xaV u r = [] := by unfold xaV; rw [hn]; rfl
  have HN := hide (NewX.none w)
  rw [e1, e2]
  rw [hn] at hl
  simp only [Option.map_none, Option.getD_none, Option.isSome_none] at hl
  clear h hn e1 e2
  go_enter Tryz.func11, Tryz.ntmps11
  go_wp2
  go_ret2
  exact ⟨none, 0, rfl, HN.out⟩
 | some n =>
  obtain ⟨n1, n2, v, hv⟩ := h.at hn
  obtain ⟨_, _, m3, m4, _⟩ := may_small (h.kd n n1)
  have k2 := hv.x
  have e1 : statE u r = 0 := by unfold statE; rw [hn]; rfl
  have e2 : xaV u r = n.xs := by unfold xaV; rw [hn]; rfl
  have hlen := hv.xs.1
  have HC := hide (ucopied_any v.xa v.xn v.xc n.xs w hv.xs.xsr hv.xc hv.xcm hv.xnil (by omega) (fun x hx => by have := (m4 x hx).2; omega))
  rw [e1, e2, hlen]
  rw [hn] at hl
  simp only [Option.map_some, Option.getD_some, Option.isSome_some] at hl
  clear h hn hv e1 e2 hlen m4
  go_enter Tryz.func11, Tryz.ntmps11
  go_wp2_with (go_at_call 30; refine HC.out.mono ?_; rintro e w5 ⟨ao, c5, rfl, hN⟩)
  go_ret2
  exact ⟨ao, c5, rfl, hN⟩
end
end Upr
end Go.Proofs.YtbmeapehgajbkaaGreat
namespace Go.Proofs.YtbmeapehgajbkaaGreat
open Go.RowKit Go.Maps
open Nam Tre Tab
open Lz (g)
namespace Upr
def Ext (c c' : Nat → Cl) (w : World) : Prop := ∀ k, k < w.heap.size → c' k = c k
def Up (w : World) (p : Nat) (c : Nat → Cl) (q : Int × Int) (u : Us) : Prop :=
 ∃ pr m nb eb, UB w p c (q.1, q.2, u.nx - 1) u (fun r => (lks u r : Int)) pr m nb eb ∧ Wf u ∧ (∀ e ∈ u.E, knd u e.ref = 1 → pr e.ref = e.dir)
theorem Ext.refl (c : Nat → Cl) (w : World) : Ext c c w := fun _ _ => rfl
section
variable {w w' : World} {p : Nat} {c : Nat → Cl} {u : Us} {lk lk' pr pr' : Int → Int} {m : Nat} {nb eb : Int → Nat}
theorem UB.lks {q : Int × Int × Int} (h : UB w p c q u lk pr m nb eb) (hl : ∀ n ∈ u.L, lk n.ino = lk' n.ino) (hp : ∀ n ∈ u.L, n.kind = 1 → pr n.ino = pr' n.ino) : UB w p c q u lk' pr' m nb eb := by
 refine { h with nod := fun n hn => ?_ }
 obtain ⟨v, hv⟩ := h.nod n hn
 refine ⟨v, ?_⟩
 rw [← hl n hn]
 by_cases e : n.kind = 1
 ·rw [if_pos e] at hv ⊢
  rw [if_pos e] at hv ⊢
  rw [← hp n hn e]; exact hv
 ·rw [if_neg e] at hv ⊢
  rw [if_neg e] at hv ⊢
  exact hv
theorem UB.last {a b l : Int} (h : UB w p c (a, b, l) u lk pr m nb eb) (l' : Int) : UB (w.setCell ⟨p, 3, none⟩ (.int .i64 l')) p c (a, b, l') u lk pr m nb eb ∧ Fr (fun k => c k = .up) w (w.setCell ⟨p, 3, none⟩ (.int .i64 l')) := by
 have hf : Fr (fun k => c k = .up) w (w.setCell ⟨p, 3, none⟩ (.int .i64 l')) := (Fr.refl _ _).set (p := ⟨p, 3, none⟩) _ (fun _ => h.cp)
 have nn : ∀ {k x}, c k = x → x ≠ .up → ¬ c k = .up := fun h1 h2 h3 => h2 (h1.symm.trans h3)
 refine ⟨{ h with box := ?_, map := h.map.same (hf.block m h.map.lt (nn h.cm (by intro e; cases e))), nod := fun n hn => ?_, ent := fun n hn hk => ?_, low := fun b hb => Nat.lt_of_lt_of_le (h.low b hb) hf.size }, hf⟩
 ·rw [heap_setCell_self h.box]; rfl
 ·obtain ⟨v, hv⟩ := h.nod n hn
  exact ⟨v, hv.fr hf (nn (h.cn n hn) (by intro e; cases e)) (fun k hk => nn hk (by intro e; cases e))⟩
 ·exact (h.ent n hn hk).same (hf.block _ (h.ent n hn hk).lt (nn (h.ce n hn hk) (by intro e; cases e)))
end
section
variable {w w' : World} {p : Nat} {c : Nat → Cl} {q : Int × Int} {u : Us}
theorem Up.below (h : Up w p c q u) (hb : Below w.heap.size w w') : Up w' p c q u := by
 obtain ⟨pr, m, nb, eb, h1, h2⟩ := h
 exact ⟨pr, m, nb, eb, h1.below hb, h2⟩
theorem Up.fr {S : Nat → Prop} (h : Up w p c q u) (hf : Fr S w w') (hs : ∀ k, c k ≠ .no → ¬ S k) : Up w' p c q u := by
 obtain ⟨pr, m, nb, eb, h1, h2⟩ := h
 exact ⟨pr, m, nb, eb, h1.fr hf hs, h2⟩
theorem Up.wf (h : Up w p c q u) : Wf u := by obtain ⟨pr, m, nb, eb, h1, h2, _⟩ := h; exact h2
theorem Up.low (h : Up w p c q u) (b : Nat) (hb : c b ≠ .no) : b < w.heap.size := by obtain ⟨pr, m, nb, eb, h1, h2⟩ := h; exact h1.low b hb
end
theorem wf_i64 {x : Int} (h1 : -9223372036854775808 ≤ x) (h2 : x ≤ 9223372036854775807) : (Lit.int .i64 x).wf = true := by
 simp [Lit.wf, IntKind.min, IntKind.max, IntKind.signed, IntKind.bits]
 omega
theorem sm_ref {u : Us} (hw : Wf u) (hs : Sm u) {r : Int} {n : Nod} (h : nd u r = some n) : (Lit.int .i64 r).wf = true := by
 obtain ⟨h1, h2⟩ := nd_some h
 have h3 := hw.rng n h1
 have h4 := hs.2.2
 rw [h2] at h3
 exact wf_i64 (by omega) (by omega)
theorem valid_size {s : ByteArray} (h : valid s.toList = 0) : s.size ≤ 255 := by
 have := toList_length s
 by_cases e : 255 < s.toList.length
 ·have := valid_long (by exact e)
  rw [h] at this; cases this
 ·omega
theorem maxl {n : Nat} (h : n ≤ 9223372036854775807) : n ≤ maxLen := by unfold maxLen; omega
theorem knd_some {u : Us} {r : Int} {n : Nod} (h : nd u r = some n) : knd u r = n.kind := by unfold knd; rw [h]; rfl
theorem Wf.kin0 {u : Us} (h : Wf u) {r : Int} (hr : knd u r ≠ 1) : kin u r = 0 := by
 unfold kin
 rw [List.countP_eq_zero]
 intro e he hd
 simp only [decide_eq_true_eq] at hd
 obtain ⟨n, h1, h2⟩ := h.ndd he
 rw [hd] at h1
 exact hr (by rw [knd_some h1]; exact h2)
theorem Wf.nxk {u : Us} (h : Wf u) : nd u u.nx = none := nd_none.2 (fun n hn e => by have := h.rng n hn; omega)
theorem Wf.nxe {u : Us} (h : Wf u) (y : ByteArray) : en u u.nx y = none := en_none.2 (fun e he hd => by
 obtain ⟨n, h1, h2, _⟩ := h.dir e he
 have := h.rng n h1
 rw [h2, hd.1] at this
 omega)
theorem Wf.nxr {u : Us} (h : Wf u) : ∀ e ∈ u.E, e.ref ≠ u.nx := fun e he z => by
 obtain ⟨_, n, h1, h2⟩ := h.ref e he
 have := h.rng n h1
 rw [h2, z] at this
 omega
theorem lks_snoc {u : Us} (d : Int) (s : ByteArray) (r x : Int) (L : List Nod) (nx : Int) : lks ⟨L, u.E ++ [⟨d, s, r⟩], nx⟩ x = if x ≠ 1 ∧ x = r then lks u x + 1 else lks u x := by
 unfold lks cnt
 rw [List.countP_append, List.countP_cons, List.countP_nil]
 by_cases e1 : x = 1
 ·rw [if_pos e1, if_pos e1, if_neg (fun z => z.1 e1)]
 ·rw [if_neg e1, if_neg e1]
  by_cases e2 : r = x
  ·rw [if_pos (by simpa using e2), if_pos ⟨e1, e2.symm⟩]
  ·rw [if_neg (by simpa using e2), if_neg (fun z => e2 z.2.symm)]; rfl
theorem lks_nx {u : Us} (h : Wf u) : lks u u.nx = 0 := by
 have := h.pos
 unfold lks cnt
 rw [if_neg (by omega), List.countP_eq_zero]
 intro e he z
 exact h.nxr e he (by simpa using z)
end Upr
end Go.Proofs.YtbmeapehgajbkaaGreat
namespace Go.Proofs.YtbmeapehgajbkaaGreat
open Go.RowKit Go.Maps
open Nam Tre Tab
open Lz (g)
namespace Upr
theorem uinfoNode : (Tryz.prog.info? 44).map (·.size) = some 10 := by kernel_rfl
theorem uload_nod {w : World} {b : Nat} {t : TypeId} {cs : Array Value} {fr : Nat × Nat} (h : w.heap[b]? = some (.cells cs t fr)) (hs : cs.size = 10) : (loadVar 44 ⟨b, 0, none⟩).run Tryz.prog w = .ok (.agg cs) w :=
 run_loadVar_row w b t 44 cs fr _ h Tryz.underlying44 rfl (by rw [hs]; exact uinfoNode)
def kcs (n : Nod) (v : Pv) : Array Value :=
 #[.slice none 0 0, .int .i64 0, .int .i64 n.kind, .int .i64 n.mode, .int .i64 n.uid, .int .i64 n.gid, .slice v.da v.dn v.dc, .string n.target, .slice v.xa v.xn v.xc, .bool false]
structure KP (w w' : World) (n : Nod) (v : Pv) : Prop where
 bel : Below w.heap.size w w'
 data : Bs w' v.da v.dn n.data
 dcol : ∀ a, v.da = some a → 0 < v.dn → newc w.heap.size w'.heap.size a.block = .dat
 dc : v.dn ≤ v.dc
 dcm : v.dc ≤ 9223372036854775807
 dnil : v.da = none → v.dc = 0
 xs : XsC (newc w.heap.size w'.heap.size) w' v.xa v.xn n.xs
 xc : v.xn ≤ v.xc
 xcm : v.xc ≤ 9223372036854775807
 xnil : v.xa = none → v.xc = 0
theorem newc_up {lo lo' hi hi' k : Nat} (h : newc lo hi k = .dat) (h1 : lo' ≤ lo) (h2 : hi ≤ hi') : newc lo' hi' k = .dat := by
 obtain ⟨a, b⟩ := newc_dat.1 h
 exact newc_dat.2 ⟨by omega, by omega⟩
theorem KP.of {w w1 w2 w3 W : World} {n : Nod} {ao xo : Option Addr} {dn dc xn xc : Nat} (b1 : Below w.heap.size w w1) (hd : New w1 w2 ao dn dc n.data) (b2 : Below w2.heap.size w2 w3) (hx : NewX w3 W xo xn xc n.xs) : KP w W n ⟨ao, dn, dc, xo, xn, xc⟩ := by
 have hd' := hd.on (b2.trans (hx.bel.mono b2.size))
 have s12 := hd.bel.size
 have s23 := b2.size
 have s3 := hx.bel.size
 have s01 := b1.size
 refine ⟨b1.trans (hd'.bel.mono s01), hd'.bs, fun a ha h0 => ?_, hd.cap, hd.max, hd.nil, hx.xs.col (fun k hk => newc_up hk (by omega) (Nat.le_refl _)), hx.cap, hx.max, hx.nil⟩
 refine newc_dat.2 ⟨Nat.le_trans s01 (hd.own a ha).1, ?_⟩
 obtain ⟨_, _, cur, t, hc⟩ := hd'.own a ha
 exact heap_lt hc
theorem setRow_other {w : World} {k i : Nat} (h : i ≠ k) (cs : Array Value) : (w.setRow k cs).heap[i]? = w.heap[i]? := by
 simp [World.setRow, Array.getElem?_modify, Ne.symm h]
theorem KP.row {w w1 w3 : World} {n : Nod} {v : Pv} (h : KP w1 w3 n v) (hb : Below w.heap.size w w1) {k : Nat} (hk : k < w1.heap.size) (hk' : w.heap.size ≤ k) (cs : Array Value) : KP w (w3.setRow k cs) n v := by
 have f : Fr (fun i => i = k) w3 (w3.setRow k cs) := ⟨rfl, rfl, rfl, by simp [World.setRow], fun i hi hn => setRow_other hn cs⟩
 have no : ∀ i, newc w1.heap.size w3.heap.size i = .dat → ¬ i = k := fun i hi e => by have := (newc_dat.1 hi).1; omega
 have up : ∀ i, newc w1.heap.size w3.heap.size i = .dat → newc w.heap.size (w3.setRow k cs).heap.size i = .dat := fun i hi => newc_up hi hb.size f.size
 exact ⟨below_setRow (hb.trans (h.bel.mono hb.size)) hk' cs, h.data.fr f (fun a ha h0 => no _ (h.dcol a ha h0)), fun a ha h0 => up _ (h.dcol a ha h0), h.dc, h.dcm, h.dnil, (h.xs.fr f no).col up, h.xc, h.xcm, h.xnil⟩
set_option maxRecDepth 100000 in
set_option maxHeartbeats 1000000 in
theorem ukept_any (v : Nv) (n : Nod) (w : World) (h : Rep w v n) (hs : n.data.length ≤ 1000000 ∧ n.xs.length ≤ 1000000 ∧ ∀ x ∈ n.xs, x.2.length ≤ 1000000) :
  Calls Tryz.prog 48 #[.agg v.cells] w fun e w' => ∃ pv, e = .returned (.agg (kcs n pv)) ∧ KP w w' n pv := by
 obtain ⟨hs1, hs2, hs3⟩ := hs
 rw [h.data.1] at hs1
 rw [h.xs.1] at hs2
 obtain ⟨Vc, hVc⟩ : ∃ Vc, Vc = v.cells := ⟨_, rfl⟩
 rw [← hVc]
 obtain ⟨w1, hw1⟩ : ∃ w1, w1 = (w.alloc (.cells Vc 44)).alloc (.cells #[.slice none 0 0, .int .i64 0, .int .i64 0, .int .i64 0, .int .i64 0, .int .i64 0, .slice none 0 0, .string ⟨#[]⟩, .slice none 0 0, .bool false] 44) := ⟨_, rfl⟩
 have b1 : Below w.heap.size w w1 := by rw [hw1]; exact ((Below.refl _ _).alloc (Nat.le_refl _) _).alloc (by simp) _
 have hs1 : w1.heap.size = w.heap.size + 2 := by rw [hw1]; simp
 have hbx : w1.heap[w.heap.size]? = some (.cells Vc 44 (0, 0)) := by rw [hw1, Below.heap_alloc _ _ _ (by simp)]; exact heap_new rfl
 have hrx : w1.heap[w.heap.size + 1]? = some (.cells #[.slice none 0 0, .int .i64 0, .int .i64 0, .int .i64 0, .int .i64 0, .int .i64 0, .slice none 0 0, .string ⟨#[]⟩, .slice none 0 0, .bool false] 44 (0, 0)) := by rw [hw1]; exact heap_new (by simp)
 have HBx : Hid (∀ wX : World, wX.heap[w.heap.size]? = some (.cells Vc 44 (0, 0)) → wX.cell? ⟨w.heap.size, 2, none⟩ = some (.int .i64 v.kind) ∧ wX.cell? ⟨w.heap.size, 3, none⟩ = some (.int .i64 v.mode) ∧ wX.cell? ⟨w.heap.size, 4, none⟩ = some (.int .i64 v.uid) ∧ wX.cell? ⟨w.heap.size, 5, none⟩ = some (.int .i64 v.gid) ∧ wX.cell? ⟨w.heap.size, 6, none⟩ = some (.slice v.da v.dn v.dc) ∧ wX.cell? ⟨w.heap.size, 7, none⟩ = some (.string v.tg) ∧ wX.cell? ⟨w.heap.size, 8, none⟩ = some (.slice v.xa v.xn v.xc)) := fun wX hX => by
  rw [hVc] at hX
  simp [World.cell?, hX, Nv.cells]
 have HRx : Hid (∀ wX, Below w1.heap.size w1 wX → wX.heap[w.heap.size + 1]? = some (.cells #[.slice none 0 0, .int .i64 0, .int .i64 0, .int .i64 0, .int .i64 0, .int .i64 0, .slice none 0 0, .string ⟨#[]⟩, .slice none 0 0, .bool false] 44 (0, 0))) := fun wX hX => (hX.block _ (heap_lt hrx)).trans hrx
 have HR := hide (h.below b1)
 have HB1 := hide b1
 have HK := hide (And.intro h.kind (And.intro h.mode (And.intro h.uid (And.intro h.gid h.tg))))
 have HCd : Hid (∀ W, Below w1.heap.size w1 W → Calls Tryz.prog 29 #[.slice v.da v.dn v.dc] W fun r w' => ∃ ao' c', r = .returned (.slice ao' v.dn c') ∧ New W w' ao' v.dn c' n.data) := fun W hW => CloneNew_any _ _ _ _ W (HR.out.below hW).data h.dc h.dnil (by omega)
 have HCx : Hid (∀ W, Below w1.heap.size w1 W → Calls Tryz.prog 30 #[.slice v.xa v.xn v.xc] W fun e w' => ∃ ao' c', e = .returned (.slice ao' v.xn c') ∧ NewX W w' ao' v.xn c' n.xs) := fun W hW => ucopied_any _ _ _ _ W (HR.out.below hW).xs h.xc h.xcm h.xnil hs2 hs3
 have HB0 : Hid (∀ wX, Below w1.heap.size w1 wX → Below w.heap.size w wX ∧ wX.heap[w.heap.size]? = some (.cells Vc 44 (0, 0))) := fun wX hX => ⟨b1.trans (hX.mono b1.size), (hX.block _ (heap_lt hbx)).trans hbx⟩
 have HS1 := hide hs1
 clear h hbx hrx b1 hs1 hVc
 go_enter Tryz.func48, Tryz.ntmps48
 go_wp2_with fail
 rw [← hw1]
 clear hw1
 refine wp_region_held_drew (S := fun wX => Below w.heap.size w wX ∧ wX.heap[w.heap.size]? = some (.cells Vc 44 (0, 0))) (by kernel_rfl) (HB0.out _ (below_drewN (Below.refl _ _) 1)) (fun hHeld => ?_)
 refine wpAnyH_take (i := 0) (oi := ⟨some 3, _, _, _, _, _⟩) (v := ?_) rfl (by kernel_rfl) (by kernel_rfl) (by kernel_rfl) (fun _ _ _ h => h) (Or.inl ⟨by rfl, ?_⟩) (by assumption) ?_
 rotate_left
 ·(intro wS hSw; go_simp; try with_reducible rfl)
 try simp only [Act.put, List.setIfInBounds_toArray, List.set_cons_zero, List.set_cons_succ]
 refine wpAnyH_take (i := 1) (oi := ⟨some 4, _, _, _, _, _⟩) (v := ?_) rfl (by kernel_rfl) (by kernel_rfl) (by kernel_rfl) (fun _ _ _ h => h) (Or.inl ⟨by rfl, ?_⟩) (by assumption) ?_
 rotate_left
 ·(intro wS hSw; obtain ⟨q2, q3, q4, q5, q6, q7, q8⟩ := HBx.out wS hSw.2; go_simp; try with_reducible rfl)
 try simp only [Act.put, List.setIfInBounds_toArray, List.set_cons_zero, List.set_cons_succ]
 refine wpAnyH_take (i := 2) (oi := ⟨some 5, _, _, _, _, _⟩) (v := ?_) rfl (by kernel_rfl) (by kernel_rfl) (by kernel_rfl) (fun _ _ _ h => h) (Or.inl ⟨by rfl, ?_⟩) (by assumption) ?_
 rotate_left
 ·(intro wS hSw; go_simp; try with_reducible rfl)
 try simp only [Act.put, List.setIfInBounds_toArray, List.set_cons_zero, List.set_cons_succ]
 refine wpAnyH_take (i := 3) (oi := ⟨some 6, _, _, _, _, _⟩) (v := ?_) rfl (by kernel_rfl) (by kernel_rfl) (by kernel_rfl) (fun _ _ _ h => h) (Or.inl ⟨by rfl, ?_⟩) (by assumption) ?_
 rotate_left
 ·(intro wS hSw; obtain ⟨q2, q3, q4, q5, q6, q7, q8⟩ := HBx.out wS hSw.2; go_simp; try with_reducible rfl)
 try simp only [Act.put, List.setIfInBounds_toArray, List.set_cons_zero, List.set_cons_succ]
 refine wpAnyH_take (i := 4) (oi := ⟨some 7, _, _, _, _, _⟩) (v := ?_) rfl (by kernel_rfl) (by kernel_rfl) (by kernel_rfl) (fun _ _ _ h => h) (Or.inl ⟨by rfl, ?_⟩) (by assumption) ?_
 rotate_left
 ·(intro wS hSw; go_simp; try with_reducible rfl)
 try simp only [Act.put, List.setIfInBounds_toArray, List.set_cons_zero, List.set_cons_succ]
 refine wpAnyH_take (i := 5) (oi := ⟨some 8, _, _, _, _, _⟩) (v := ?_) rfl (by kernel_rfl) (by kernel_rfl) (by kernel_rfl) (fun _ _ _ h => h) (Or.inl ⟨by rfl, ?_⟩) (by assumption) ?_
 rotate_left
 ·(intro wS hSw; obtain ⟨q2, q3, q4, q5, q6, q7, q8⟩ := HBx.out wS hSw.2; go_simp; try with_reducible rfl)
 try simp only [Act.put, List.setIfInBounds_toArray, List.set_cons_zero, List.set_cons_succ]
 refine wpAnyH_take (i := 7) (oi := ⟨some 10, _, _, _, _, _⟩) (v := ?_) rfl (by kernel_rfl) (by kernel_rfl) (by kernel_rfl) (fun _ _ _ h => h) (Or.inl ⟨by rfl, ?_⟩) (by assumption) ?_
 rotate_left
 ·(intro wS hSw; go_simp; try with_reducible rfl)
 try simp only [Act.put, List.setIfInBounds_toArray, List.set_cons_zero, List.set_cons_succ]
 refine wpAnyH_take (i := 8) (oi := ⟨some 11, _, _, _, _, _⟩) (v := ?_) rfl (by kernel_rfl) (by kernel_rfl) (by kernel_rfl) (fun _ _ _ h => h) (Or.inl ⟨by rfl, ?_⟩) (by assumption) ?_
 rotate_left
 ·(intro wS hSw; obtain ⟨q2, q3, q4, q5, q6, q7, q8⟩ := HBx.out wS hSw.2; go_simp; try with_reducible rfl)
 try simp only [Act.put, List.setIfInBounds_toArray, List.set_cons_zero, List.set_cons_succ]
 refine wpAnyH_take (i := 9) (oi := ⟨some 12, _, _, _, _, _⟩) (v := ?_) rfl (by kernel_rfl) (by kernel_rfl) (by kernel_rfl) (fun _ _ _ h => h) (Or.inl ⟨by rfl, ?_⟩) (by assumption) ?_
 rotate_left
 ·(intro wS hSw; go_simp; try with_reducible rfl)
 try simp only [Act.put, List.setIfInBounds_toArray, List.set_cons_zero, List.set_cons_succ]
 refine wpAnyH_take (i := 10) (oi := ⟨some 13, _, _, _, _, _⟩) (v := ?_) rfl (by kernel_rfl) (by kernel_rfl) (by kernel_rfl) (fun _ _ _ h => h) (Or.inl ⟨by rfl, ?_⟩) (by assumption) ?_
 rotate_left
 ·(intro wS hSw; obtain ⟨q2, q3, q4, q5, q6, q7, q8⟩ := HBx.out wS hSw.2; go_simp; try with_reducible rfl)
 try simp only [Act.put, List.setIfInBounds_toArray, List.set_cons_zero, List.set_cons_succ]
 refine wpAnyH_ready (rs := [6]) (by kernel_rfl) (by simp) ?_
 refine AllReadyH.cons (o := ⟨some 9, _, _, _, _, _⟩) rfl (fun K hK => ?_) AllReadyH.nil
 go_simp
 refine (HCd.out _ (below_drewN (Below.refl _ _) 1)).mono ?_
 rintro r w2 ⟨ao, c2, rfl, hN⟩
 have HB2 : Hid (Below w1.heap.size w1 w2) := ⟨hN.bel.os, hN.bel.tape, hN.bel.output, hN.bel.size, hN.bel.block⟩
 have HN := hide (hN.from (w0 := w1) (below_drewN (Below.refl _ _) 1))
 refine hK.out _ _ (HB0.out _ HB2.out) (fun hHeld => ?_)
 clear hN
 clear hK K
 try simp only [Act.put, List.setIfInBounds_toArray, List.set_cons_zero, List.set_cons_succ]
 refine wpAnyH_ready (rs := [11]) (by kernel_rfl) (by simp) ?_
 refine AllReadyH.cons (o := ⟨some 14, _, _, _, _, _⟩) rfl (fun K hK => ?_) AllReadyH.nil
 go_simp
 refine (HCx.out _ HB2.out).mono ?_
 rintro r w3 ⟨xo, c3, rfl, hX⟩
 have HX := hide hX
 have HB3 := hide (HB2.out.trans (hX.bel.mono HB2.out.size))
 refine hK.out _ _ (HB0.out _ HB3.out) (fun hHeld => ?_)
 clear hX
 clear hK K
 try simp only [Act.put, List.setIfInBounds_toArray, List.set_cons_zero, List.set_cons_succ]
 refine wpAnyH_take (i := 12) (oi := ⟨some 15, _, _, _, _, _⟩) (v := ?_) rfl (by kernel_rfl) (by kernel_rfl) (by kernel_rfl) (fun _ _ _ h => h) (Or.inl ⟨by rfl, ?_⟩) (by assumption) ?_
 rotate_left
 ·(intro wS hSw; go_simp; try with_reducible rfl)
 try simp only [Act.put, List.setIfInBounds_toArray, List.set_cons_zero, List.set_cons_succ]
 refine wpAnyH_switch (S' := fun wX => wX = w3.setRow (w.heap.size + 1) #[.slice none 0 0, .int .i64 0, .int .i64 v.kind, .int .i64 v.mode, .int .i64 v.uid, .int .i64 v.gid, .slice ao v.dn c2, .string v.tg, .slice xo v.xn c3, .bool false]) (fun wX h => by rw [h]; exact ⟨below_setRow (HB0.out _ HB3.out).1 (by omega) _, (setRow_other (by omega) _).trans (HB0.out _ HB3.out).2⟩) _ _ _ _ ?_
 refine wpAnyH_ready (rs := [13]) (by kernel_rfl) (by simp) ?_
 refine AllReadyH.cons (o := ⟨none, _, _, _, _, _⟩) rfl (fun K hK => ?_) AllReadyH.nil
 refine step_store_row (by rfl) 44 (.tmp 2) (.tmp 15) (by rfl) (w.heap.size + 1) #[.slice none 0 0, .int .i64 0, .int .i64 v.kind, .int .i64 v.mode, .int .i64 v.uid, .int .i64 v.gid, .slice ao v.dn c2, .string v.tg, .slice xo v.xn c3, .bool false] (by rfl) (by rfl) 44 _ (HRx.out _ HB3.out) uinfoNode rfl (by simp [Value.oneCell']) ?_
 refine hK.out _ _ rfl (fun hHeld => ?_)
 clear hK K
 simp only [Act.put]
 refine wpAnyH_done (by kernel_rfl) ?_ _
 have HF := hide ((KP.of (Below.refl _ _) HN.out (Below.refl _ _) HX.out).row HB1.out (show w.heap.size + 1 < w1.heap.size by have := HS1.out; omega) (by omega) #[.slice none 0 0, .int .i64 0, .int .i64 v.kind, .int .i64 v.mode, .int .i64 v.uid, .int .i64 v.gid, .slice ao v.dn c2, .string v.tg, .slice xo v.xn c3, .bool false])
 have HL := hide (uload_nod (usetRow_heap (HRx.out _ HB3.out) #[.slice none 0 0, .int .i64 0, .int .i64 v.kind, .int .i64 v.mode, .int .i64 v.uid, .int .i64 v.gid, .slice ao v.dn c2, .string v.tg, .slice xo v.xn c3, .bool false]) rfl)
 clear hHeld
 go_wp2
 refine bodyPost_ret (v := .agg #[.slice none 0 0, .int .i64 0, .int .i64 v.kind, .int .i64 v.mode, .int .i64 v.uid, .int .i64 v.gid, .slice ao v.dn c2, .string v.tg, .slice xo v.xn c3, .bool false]) ?_ rfl ⟨⟨ao, v.dn, c2, xo, v.xn, c3⟩, ?_, HF.out⟩
 ·exact results_cr1 (p := 2) rfl _ _ (w.heap.size + 1) _ rfl HL.out
 ·unfold kcs
  rw [HK.out.1, HK.out.2.1, HK.out.2.2.1, HK.out.2.2.2.1, HK.out.2.2.2.2]
end Upr
end Go.Proofs.YtbmeapehgajbkaaGreat
namespace Go.Proofs.YtbmeapehgajbkaaGreat
open Go.RowKit Go.Maps
open Nam Tre Tab
open Lz (g)
namespace Upr
def asOf (n : Nod) : Nod := { n with opq := false }
structure Made (w w' : World) (b : Nat) (n : Nod) (par : Int) (pv : Pv) : Prop where
 lo : w.heap.size ≤ b
 hi : b < w'.heap.size
 bel : Below w.heap.size w w'
 nb : NB (newc w.heap.size b) w' b (asOf n) pv 1 (.map (if n.kind = 1 then some (b + 1) else none)) (if n.kind = 1 then par else 0)
 mp : n.kind = 1 → MpS w' (b + 1) 0 (fun _ => none)
theorem KP.nb {w w2 W : World} {n : Nod} {pv : Pv} {l pr : Int} {em : Value} (h : KP w w2 n pv) (hb : Below w2.heap.size w2 W) (hbox : W.heap[w2.heap.size]? = some (.cells (ncs (asOf n) pv l em pr) 73 (0, 0))) : NB (newc w.heap.size w2.heap.size) W w2.heap.size (asOf n) pv l em pr := by
 have f : Fr (fun k => False) w2 W := Fr.of_below hb
 exact ⟨hbox, h.data.below hb, h.dcol, h.dc, h.dcm, h.dnil, h.xs.fr f (fun _ _ h => h), h.xc, h.xcm, h.xnil⟩
theorem NB.newc {lo lo' hi hi' : Nat} {w : World} {b : Nat} {n : Nod} {v : Pv} {lk : Int} {em : Value} {pr : Int} (h : NB (newc lo hi) w b n v lk em pr) (h1 : lo' ≤ lo) (h2 : hi ≤ hi') : NB (Upr.newc lo' hi') w b n v lk em pr := h.col (fun k hk => newc_up hk h1 h2)
set_option maxRecDepth 100000 in
set_option maxHeartbeats 1000000 in
theorem umade_any (v : Nv) (n : Nod) (par : Int) (w : World) (h : Rep w v n) (hs : n.data.length ≤ 1000000 ∧ n.xs.length ≤ 1000000 ∧ ∀ x ∈ n.xs, x.2.length ≤ 1000000) :
  Calls Tryz.prog 27 #[.agg v.cells, .int .i64 par] w fun e w' => ∃ b pv, e = .returned (.pointer (some ⟨b, 0, none⟩)) ∧ Made w w' b n par pv := by
 have HK1 : Hid (∀ W, Below w.heap.size w W → Calls Tryz.prog 48 #[.agg v.cells] W fun e w' => ∃ pv, e = .returned (.agg (kcs n pv)) ∧ KP W w' n pv) := fun W hW => ukept_any v n W (h.below hW) hs
 have bel : Hid (∀ o, Below w.heap.size w (w.alloc o)) := fun o => (Below.refl _ _).alloc (Nat.le_refl _) _
 have hk := h.kind
 have HBX := hide (boxed w v)
 clear h hs
 unfold Nv.cells at HBX ⊢
 go_enter Tryz.func27, Tryz.ntmps27
 go_wp2_with fail
 refine (HK1.out _ (bel.out _)).mono ?_
 rintro e w2 ⟨pv, rfl, hP⟩
 have HB2 := hide ((bel.out (.cells v.cells 44)).trans (hP.bel.mono (by simp)))
 have k2 : ∀ o, (w2.alloc o).cell? ⟨w.heap.size, 2, none⟩ = some (.int .i64 v.kind) := fun o => ((HBX.out.below hP.bel).below (below_one w2 o)).c2
 have HP := hide hP
 have HLo : Hid (w.heap.size ≤ w2.heap.size) := HB2.out.size
 clear hP HK1 HBX
 unfold kcs
 by_cases h1 : n.kind = 1
 ·have k1 : (v.kind == 1) = true := by rw [← hk]; simpa using h1
  have k3 : ∀ o, (w2.alloc o).cell? ⟨w.heap.size, 2, none⟩ = some (.int .i64 1) := fun o => by rw [k2 o, ← hk, h1]
  clear k2
  have HH := hide h1
  have mkm : ∀ w' : World, (Instr.makeMap 71 none).run Tryz.prog w' = .ok (.map (some w'.heap.size)) (w'.alloc (.map #[] 0)) := fun w' => by simp [Instr.makeMap, Result.andThen]
  have HFin : Hid (∀ W, W = (w2.alloc (.cells (ncs (asOf n) pv 1 (.map (some (w2.heap.size + 1))) par) 73)).alloc (.map #[] 0) → Made w W w2.heap.size n par pv) := fun W hW => by
   have hb2 : Below w2.heap.size w2 W := by
    rw [hW]
    exact ((Below.refl _ w2).alloc (Nat.le_refl _) _).alloc (by simp) _
   have hsz : W.heap.size = w2.heap.size + 2 := by rw [hW]; simp
   have hbx : W.heap[w2.heap.size]? = some (.cells (ncs (asOf n) pv 1 (.map (some (w2.heap.size + 1))) par) 73 (0, 0)) := by
    rw [hW, Below.heap_alloc _ _ _ (by simp)]; exact heap_new rfl
   have hmp : W.heap[w2.heap.size + 1]? = some (.map #[] 0) := by
    rw [hW]
    exact heap_new (by simp)
   refine ⟨HLo.out, by omega, HB2.out.trans (hb2.mono HLo.out), ?_, fun _ => ?_⟩
   ·have := (HP.out.nb hb2 hbx).newc (lo' := w.heap.size) (hi' := w2.heap.size) (by simp) (Nat.le_refl _)
    rw [if_pos HH.out, if_pos HH.out]
    exact this
   ·have e := MpS.new (w2.alloc (.cells (ncs (asOf n) pv 1 (.map none) 0) 73))
    rw [World.size_alloc] at e
    exact e.same (hmp.trans (heap_new (by simp)).symm)
  unfold ncs asOf at HFin
  rw [HH.out] at HFin ⊢
  clear hk h1 k1
  go_wp2
  go_ret
  exact ⟨_, pv, rfl, HFin.out _ rfl⟩
 ·have k1 : (v.kind == 1) = false := by rw [← hk]; simpa using h1
  have HH := hide h1
  have HFin : Hid (∀ W, W = w2.alloc (.cells (ncs (asOf n) pv 1 (.map none) 0) 73) → Made w W w2.heap.size n par pv) := fun W hW => by
   have hb2 : Below w2.heap.size w2 W := by rw [hW]; exact below_one _ _
   have hbx : W.heap[w2.heap.size]? = some (.cells (ncs (asOf n) pv 1 (.map none) 0) 73 (0, 0)) := by rw [hW]; exact heap_new rfl
   refine ⟨HLo.out, heap_lt hbx, HB2.out.trans (hb2.mono HLo.out), ?_, fun e => absurd e HH.out⟩
   have := (HP.out.nb hb2 hbx).newc (lo' := w.heap.size) (hi' := w2.heap.size) (by simp) (Nat.le_refl _)
   rw [if_neg HH.out, if_neg HH.out]
   exact this
  unfold ncs asOf at HFin
  clear hk h1
  go_wp2
  go_ret
  exact ⟨_, pv, rfl, HFin.out _ rfl⟩
end Upr
end Go.Proofs.YtbmeapehgajbkaaGreat
namespace Go.Proofs.YtbmeapehgajbkaaGreat
open Go.RowKit Go.Maps
open Nam Tre Tab
open Lz (g)
namespace Upr
section
variable {p : Nat} {c : Nat → Cl} {q : Int × Int × Int} {u : Us} {lk pr : Int → Int} {m : Nat} {nb eb : Int → Nat}
def freE (u : Us) (d : Int) (s : ByteArray) : Int := if valid s.toList ≠ 0 then valid s.toList else if (en u d s).isSome = true then 21 else 0
theorem frs_fre {u : Us} {d : Int} {s : ByteArray} : frs u d s = if dirE u d ≠ 0 then dirE u d else freE u d s := by
 unfold frs freE; rfl
set_option maxRecDepth 100000 in
theorem ufree_any (d : Int) (s : ByteArray) (w : World) (h : UB w p c q u lk pr m nb eb) {n : Nod} (hn : nd u d = some n) (hk : n.kind = 1) (hs : s.size ≤ maxLen) :
  Calls Tryz.prog 44 #[.pointer (some ⟨nb d, 0, none⟩), .string s] w fun e w' => e = .returned (.int .i64 (freE u d s)) ∧ Below w.heap.size w w' := by
 have HV := hide (Valid_any s w)
 have HH := hide h
 by_cases hv : valid s.toList = 0
 ·have HQ : Hid (freE u d s = if (en u d s).isSome = true then 21 else 0) := by show _ = _; unfold freE; rw [if_neg (by rw [hv]; simp)]
  rw [hv] at HV
  have HL : Hid (∀ W, Below w.heap.size w W → W.cell? ⟨nb d, 11, none⟩ = some (.map (some (eb d))) ∧ (Instr.lookup 71 (.map (some (eb d))) (.string s) true).run Tryz.prog W = .ok (.tuple #[((enF u d s)).getD (.int .i64 0), .bool (en u d s).isSome]) W) := fun W hW => by
   have hb := HH.out.below hW
   obtain ⟨_, _, v, hv⟩ := hb.at hn
   have e1 := hv.e
   rw [if_pos hk] at e1
   have l1 := (hb.ents hn hk).look Tryz.underlying71 (zeroI _) hs
   refine ⟨e1, ?_⟩
   rw [l1]
   unfold enF
   cases en u d s <;> rfl
  clear h hv
  go_enter Tryz.func44, Tryz.ntmps44
  go_wp2_with fail
  refine HV.out.mono ?_
  rintro e w1 ⟨rfl, hb⟩
  obtain ⟨c1, l1⟩ := HL.out w1 hb
  have HB := hide hb
  clear hb HL
  generalize hq : (enF u d s).getD (.int .i64 0) = zz at *
  cases hx : (en u d s).isSome with
  | true =>
   rw [hx] at l1 HQ
   go_wp2
   go_ret
   exact ⟨by rw [HQ.out]; rfl, HB.out⟩
  | false =>
   rw [hx] at l1 HQ
   go_wp2
   go_ret
   exact ⟨by rw [HQ.out]; rfl, HB.out⟩
 ·have HQ : Hid (freE u d s = valid s.toList) := by show _ = _; unfold freE; rw [if_pos hv]
  have k0 : (valid s.toList == 0) = false := by simpa using hv
  rw [HQ.out]
  generalize valid s.toList = ee at *
  clear h hv
  go_enter Tryz.func44, Tryz.ntmps44
  go_wp2_with fail
  refine HV.out.mono ?_
  rintro e w1 ⟨rfl, hb⟩
  have HB := hide hb
  clear hb
  go_wp2
  go_ret
  exact ⟨rfl, HB.out⟩
set_option maxRecDepth 100000 in
theorem uplace_any (d : Int) (s : ByteArray) (w : World) (h : UB w p c q u lk pr m nb eb) (hr : (Lit.int .i64 d).wf = true) (hs : s.size ≤ maxLen) :
  Calls Tryz.prog 25 #[.pointer (some ⟨p, 0, none⟩), .int .i64 d, .string s] w fun e w' => e = .returned (.tuple #[.pointer (ptrD u nb d), .int .i64 (frs u d s)]) ∧ Below w.heap.size w w' := by
 have HD := hide (udir_any d w hr h)
 by_cases hd : dirE u d = 0
 ·obtain ⟨n, hn, hk⟩ := dirE_zero.1 hd
  have e0 : ptrD u nb d = some ⟨nb d, 0, none⟩ := by unfold ptrD; rw [if_pos hd]
  have HF := hide (ufree_any d s w h hn hk hs)
  have e1 : frs u d s = freE u d s := by rw [frs_fre, if_neg (by rw [hd]; simp)]
  rw [e1, e0]
  rw [e0, hd] at HD
  generalize freE u d s = ee at *
  clear h hd hn hk e0 e1
  go_enter Tryz.func25, Tryz.ntmps25
  go_wp2_with (first
   | (go_at_call 23; refine HD.out.mono ?_; rintro e w2 ⟨rfl, rfl⟩)
   | (go_at_call 44; refine HF.out.mono ?_; rintro e w3 ⟨rfl, hb⟩))
  go_ret2
  exact ⟨rfl, hb⟩
 ·have e0 : ptrD u nb d = none := by unfold ptrD; rw [if_neg hd]
  have k0 : (dirE u d == 0) = false := by simpa using hd
  have e1 : frs u d s = dirE u d := by rw [frs_fre, if_pos hd]
  rw [e1, e0]
  rw [e0] at HD
  generalize dirE u d = ee at *
  have HB := hide (Below.refl w.heap.size w)
  clear h hd e0 e1
  go_enter Tryz.func25, Tryz.ntmps25
  go_wp2_with (first
   | (go_at_call 23; refine HD.out.mono ?_; rintro e w2 ⟨rfl, rfl⟩))
  go_ret2
  exact ⟨rfl, HB.out⟩
end
end Upr
end Go.Proofs.YtbmeapehgajbkaaGreat
namespace Go.Proofs.YtbmeapehgajbkaaGreat
open Go.RowKit Go.Maps
open Nam Tre Tab
open Lz (g)
namespace Upr
theorem trn_id (u : Us) (r : Int) : trn u r (fun n => n) = u := by
 unfold trn
 have : u.L.map (fun n => if n.ino = r then n else n) = u.L := by
  have e : (fun n : Nod => if n.ino = r then n else n) = id := by funext n; split <;> rfl
  rw [e, List.map_id]
 rw [this]
theorem NB.setC {c : Nat → Cl} {w : World} {b : Nat} {n n' : Nod} {v v' : Pv} {lk lk' : Int} {em em' : Value} {pr pr' : Int} (h : NB c w b n v lk em pr) (i : Nat) (z : Value) (e : (ncs n v lk em pr).setIfInBounds i z = ncs n' v' lk' em' pr') : (w.setCell ⟨b, i, none⟩ z).heap[b]? = some (.cells (ncs n' v' lk' em' pr') 73 (0, 0)) := by
 rw [heap_setCell_self h.box, e]
section
variable {w : World} {p : Nat} {c : Nat → Cl} {u : Us} {lk pr : Int → Int} {m : Nat} {nb eb : Int → Nat} {q : Int × Int × Int}
theorem UB.setL (h : UB w p c q u lk pr m nb eb) {r : Int} {n : Nod} (hn : nd u r = some n) (z : Int) :
  UB (w.setCell ⟨nb r, 10, none⟩ (.int .i64 z)) p c q u (fun x => if x = r then z else lk x) pr m nb eb ∧ Fr (fun k => c k = .nod r) w (w.setCell ⟨nb r, 10, none⟩ (.int .i64 z)) := by
 obtain ⟨n1, n2, v, hv⟩ := h.at hn
 have hc := h.cnr hn
 have hf : Fr (fun k => c k = .nod r) w (w.setCell ⟨nb r, 10, none⟩ (.int .i64 z)) := (Fr.refl _ _).set (p := ⟨nb r, 10, none⟩) _ (fun _ => hc)
 have nn : ∀ {k x}, c k = x → x ≠ .nod r → ¬ c k = .nod r := fun h1 h2 h3 => h2 (h1.symm.trans h3)
 have := h.node hn (fun n => n) rfl rfl (h.kd n n1) hf z (pr r) v
  ⟨hv.setC 10 _ rfl, hv.data.fr hf (fun a ha h0 => nn (hv.dcol a ha h0) (by intro e; cases e)), hv.dcol, hv.dc, hv.dcm, hv.dnil, hv.xs.fr hf (fun k hk => nn hk (by intro e; cases e)), hv.xc, hv.xcm, hv.xnil⟩
 rw [trn_id] at this
 refine ⟨?_, hf⟩
 have e : (fun x => if x = r then pr r else pr x) = pr := by funext x; by_cases e : x = r <;> simp [e]
 rw [e] at this
 exact this
end
theorem ln_fin {w : World} {p : Nat} {c : Nat → Cl} {q : Int × Int} {u : Us} {pr : Int → Int} {m : Nat} {nb eb : Int → Nat} (h : UB w p c (q.1, q.2, u.nx - 1) u (fun r => (lks u r : Int)) pr m nb eb) (hwf : Wf u) (hpar : ∀ e ∈ u.E, knd u e.ref = 1 → pr e.ref = e.dir) (hsm : Sm u)
  {d r : Int} {s : ByteArray} {n : Nod} (hn : nd u r = some n) (hf : frs u d s = 0) (hk : n.kind ≠ 1) (hs : s.size ≤ maxLen) :
  ∃ w2, (Instr.mapUpdate 71 (.map (some (eb d))) (.string s) (.int .i64 r)).run Tryz.prog w = .ok () w2 ∧ w2.cell? ⟨nb r, 10, none⟩ = some (.int .i64 (lks u r : Int)) ∧ w2.frozen? ⟨nb r, 10, none⟩ = false ∧
   Up (w2.setCell ⟨nb r, 10, none⟩ (.int .i64 ((lks u r : Int) + 1))) p c q (ln u d s r).2 ∧ Fr (fun k => c k ≠ .no) w (w2.setCell ⟨nb r, 10, none⟩ (.int .i64 ((lks u r : Int) + 1))) := by
 obtain ⟨⟨nD, hnD, hkD⟩, hvs, hen⟩ := frs_zero hf
 have hln : (ln u d s r).2 = { u with E := u.E ++ [⟨d, s, r⟩] } := by
  unfold ln
  rw [if_neg (by rw [hnD, hn]; simp), if_neg (by rw [hf]; simp), if_neg (by rw [knd_some hn]; exact hk)]
 obtain ⟨w2, r2, h2, f2⟩ := h.putE hnD hkD hen hs hsm.2.1 r
 have hn2 : nd { u with E := u.E ++ [⟨d, s, r⟩] } r = some n := hn
 obtain ⟨h3, f3⟩ := h2.setL hn2 ((lks u r : Int) + 1)
 obtain ⟨_, _, v, hv⟩ := h2.at hn2
 have r1 : r ≠ 1 := fun e => by
  obtain ⟨z, z1, z2, z3⟩ := hwf.root
  have := nd_mem hwf.ino z1
  rw [z2, ← e, hn] at this
  injection this with this
  rw [this] at hk; exact hk z3
 refine ⟨w2, r2, hv.l, hv.f 10, ?_, ?_⟩
 ·rw [hln]
  refine ⟨pr, m, nb, eb, h3.lks (fun x hx => ?_) (fun _ _ _ => rfl), by rw [← hln]; exact ln_wf hwf d s r (.inl r1), ?_⟩
  ·show (if x.ino = r then (lks u r : Int) + 1 else (lks u x.ino : Int)) = ((lks ⟨u.L, u.E ++ [⟨d, s, r⟩], u.nx⟩ x.ino : Nat) : Int)
   rw [lks_snoc]
   by_cases ex : x.ino = r
   ·rw [if_pos ex, if_pos ⟨by omega, ex⟩, ex]; simp
   ·rw [if_neg ex, if_neg (fun z => ex z.2)]
  ·intro e he hke
   rcases List.mem_append.1 he with q | q
   ·exact hpar e q hke
   ·rw [List.mem_singleton.1 q] at hke ⊢
    have : knd u r = 1 := hke
    rw [knd_some hn] at this
    exact absurd this hk
 ·exact (f2.mono (fun k _ hx => by rw [hx]; intro e; cases e)).trans f3 (fun k _ hx => by rw [hx]; intro e; cases e)
set_option maxRecDepth 100000 in
set_option maxHeartbeats 1000000 in
theorem uLink_any {p : Nat} {c : Nat → Cl} {q : Int × Int} {u : Us} (d : Int) (s : ByteArray) (r : Int) (w : World) (h : Up w p c q u) (hsm : Sm u) (hd : (Lit.int .i64 d).wf = true) (hr : (Lit.int .i64 r).wf = true) (hs : s.size ≤ maxLen) :
  Calls Tryz.prog 42 #[.pointer (some ⟨p, 0, none⟩), .int .i64 d, .string s, .int .i64 r] w fun e w' => e = .returned (.int .i64 (ln u d s r).1) ∧ Up w' p c q (ln u d s r).2 ∧ Fr (fun k => c k ≠ .no) w w' := by
 have HU := hide h
 obtain ⟨pr, m, nb, eb, hB, hwf, hpar⟩ := h
 have HPl := hide (uplace_any d s w hB hd hs)
 have c2 := hB.c2
 have hl := hB.look hr
 have HUB := hide hB
 have HWf := hide hwf
 have HPar := hide hpar
 have HSm := hide hsm
 have hE : lks u r ≤ 100001 := by
  unfold lks
  split
  ·omega
  ·have : cnt u r ≤ u.E.length := List.countP_le_length
   have := hsm.2.1
   omega
 have i1 : IntKind.i64.wrap ((lks u r : Int) + 1) = (lks u r : Int) + 1 := by rw [IntKind.wrap_i64]; omega
 have HRf := hide (And.intro (Fr.refl (fun k => c k ≠ .no) w) True.intro)
 cases hn : nd u r with
 | none =>
  have e1 : ln u d s r = (1, u) := by unfold ln; rw [if_pos (.inr hn)]
  rw [e1]
  rw [hn] at hl
  simp only [Option.map_none, Option.getD_none, Option.isSome_none] at hl
  clear hB hwf hpar hsm hn e1 HPl
  go_enter Tryz.func42, Tryz.ntmps42
  go_wp2
  go_ret
  exact ⟨rfl, HU.out, HRf.out.1⟩
 | some n =>
  rw [hn] at hl
  simp only [Option.map_some, Option.getD_some, Option.isSome_some] at hl
  by_cases hf : frs u d s = 0
  ·have hd0 : dirE u d = 0 := dirE_zero.2 (frs_zero hf).1
   have e0 : ptrD u nb d = some ⟨nb d, 0, none⟩ := by unfold ptrD; rw [if_pos hd0]
   rw [hf, e0] at HPl
   obtain ⟨nD, hnD, hkD⟩ := dirE_zero.1 hd0
   have HCs : Hid (∀ W, Below w.heap.size w W → W.cell? ⟨nb r, 2, none⟩ = some (.int .i64 n.kind) ∧ W.cell? ⟨nb d, 11, none⟩ = some (.map (some (eb d)))) := fun W hW => by
    have hb := HUB.out.below hW
    obtain ⟨_, _, v, hv⟩ := hb.at hn
    obtain ⟨_, _, v2, hv2⟩ := hb.at hnD
    have e1 := hv2.e
    rw [if_pos hkD] at e1
    exact ⟨hv.k, e1⟩
   by_cases hk : n.kind = 1
   ·have e1 : ln u d s r = (25, u) := by unfold ln; rw [if_neg (by rw [hn, hnD]; simp), if_neg (by rw [hf]; simp), if_pos (by rw [knd_some hn]; exact hk)]
    rw [e1]
    have HK := hide hk
    clear hB hwf hpar hsm hn e1 hf hk hd0 e0 hnD
    go_enter Tryz.func42, Tryz.ntmps42
    go_wp2_with fail
    refine HPl.out.mono ?_
    rintro e w2 ⟨rfl, hb2⟩
    have k2 := (HCs.out w2 hb2).1
    rw [HK.out] at k2
    have HB2 := hide hb2
    clear hb2 c2 hl
    go_wp2
    go_ret
    exact ⟨rfl, HU.out.below HB2.out, Fr.of_below HB2.out⟩
   ·have e1 : (ln u d s r).1 = 0 := by unfold ln; rw [if_neg (by rw [hn, hnD]; simp), if_neg (by rw [hf]; simp), if_neg (by rw [knd_some hn]; exact hk)]
    rw [e1]
    have HLn : Hid (∀ W, Below w.heap.size w W → _) := fun W hW => ln_fin (HUB.out.below hW) HWf.out HPar.out HSm.out hn hf hk hs
    have k0 : (n.kind == 1) = false := by simpa using hk
    clear hB hwf hpar hsm hn e1 hf hk hd0 e0 hnD
    go_enter Tryz.func42, Tryz.ntmps42
    go_wp2_with fail
    refine HPl.out.mono ?_
    rintro e w2 ⟨rfl, hb2⟩
    obtain ⟨k2, k11⟩ := HCs.out w2 hb2
    obtain ⟨w3, r3, l3, f3, hup, hfr⟩ := HLn.out w2 hb2
    have HF := hide (And.intro hup ((Fr.of_below (S := fun k => c k ≠ .no) hb2).then hfr))
    clear hb2 c2 hl hup hfr HLn HCs
    go_wp2
    go_ret
    exact ⟨rfl, HF.out⟩
  ·have e1 : ln u d s r = (frs u d s, u) := by
    unfold ln
    cases hd0 : nd u d with
    | none =>
     rw [if_pos (.inl rfl)]
     have : frs u d s = 1 := by
      unfold frs dirE; rw [hd0]; rfl
     rw [this]
    | some x => rw [if_neg (by rw [hn]; simp), if_pos hf]
   rw [e1]
   have k0 : (frs u d s == 0) = false := by simpa using hf
   generalize frs u d s = ee at *
   clear hB hwf hpar hsm hn hf e1
   go_enter Tryz.func42, Tryz.ntmps42
   go_wp2_with fail
   refine HPl.out.mono ?_
   rintro e w2 ⟨rfl, hb2⟩
   have HB2 := hide hb2
   clear hb2 c2 hl
   go_wp2
   go_ret
   exact ⟨rfl, HU.out.below HB2.out, Fr.of_below HB2.out⟩
end Upr
end Go.Proofs.YtbmeapehgajbkaaGreat
namespace Go.Proofs.YtbmeapehgajbkaaGreat
open Go.RowKit Go.Maps
open Nam Tre Tab
open Lz (g)
namespace Upr
section
variable {p : Nat} {c : Nat → Cl} {q : Int × Int × Int} {u : Us} {lk pr : Int → Int} {m : Nat} {nb eb : Int → Nat}
theorem filE_zero {u : Us} {r : Int} : filE u r = 0 ↔ ∃ n, nd u r = some n ∧ n.kind = 2 := by
 unfold filE
 cases h : nd u r with
 | none => simp
 | some n =>
  simp only [Option.some.injEq, exists_eq_left']
  by_cases e : n.kind = 1
  ·simp [e]
  ·by_cases e2 : n.kind = 2
   ·simp [e2]
   ·simp [e, e2]
theorem run_min2 (ts : Array TypeId) (t : TypeId) (a b : Int) (w : World) : (Builtin.min_ ts t #[.int .i64 a, .int .i64 b]).run Tryz.prog w = .ok (.int .i64 (min a b)) w := by
 simp [Builtin.min_, Builtin.min2]
 (repeat' split) <;> omega
set_option maxRecDepth 100000 in
set_option maxHeartbeats 1000000 in
theorem uRead_any (r off k : Int) (w : World) (hr : (Lit.int .i64 r).wf = true) (ho : In64 off) (hk : In64 k) (h : UB w p c q u lk pr m nb eb) :
  Calls Tryz.prog 10 #[.pointer (some ⟨p, 0, none⟩), .int .i64 r, .int .i64 off, .int .i64 k] w fun e w' => ∃ ao c', e = .returned (.tuple #[.slice ao (rdB u r off k).length c', .int .i64 (rdE u r off k)]) ∧ New w w' ao (rdB u r off k).length c' (rdB u r off k) := by
 have HF := hide (ufile_any r w hr h)
 have ho1 := ho.1
 have ho2 := ho.2
 have hk1 := hk.1
 have hk2 := hk.2
 have HN := hide (New.none w)
 clear ho hk
 by_cases hf : filE u r = 0
 ·obtain ⟨n, hn, hkd⟩ := filE_zero.1 hf
  have e0 : ptrF u nb r = some ⟨nb r, 0, none⟩ := by unfold ptrF; rw [if_pos hf]
  obtain ⟨n1, _, v, hv⟩ := h.at hn
  have d0 := hv.d
  have hms := (may_small (h.kd n n1)).1
  have hlen := hv.data.1
  rw [e0, hf] at HF
  by_cases hneg : off < 0 ∨ k < 0
  ·have e1 : rdE u r off k = 1 := by unfold rdE; rw [if_neg (by rw [hf]; simp), if_pos hneg]
   have e2 : rdB u r off k = [] := by unfold rdB; rw [if_pos (by rw [e1]; decide)]
   rw [e1, e2]
   by_cases h1 : off < 0
   ·have t1 : decide (off < 0) = true := by simpa using h1
    clear h hv hn hkd hf e0 e1 e2 hneg d0
    go_enter Tryz.func10, Tryz.ntmps10
    go_wp2_with (first
     | (go_at_call 28; refine HF.out.mono ?_; rintro e w2 ⟨rfl, rfl⟩))
    go_ret2
    exact ⟨none, 0, rfl, HN.out⟩
   ·have t1 : decide (off < 0) = false := by simpa using h1
    have t2 : decide (k < 0) = true := by simpa using hneg.resolve_left h1
    clear h hv hn hkd hf e0 e1 e2 hneg d0
    go_enter Tryz.func10, Tryz.ntmps10
    go_wp2_with (first
     | (go_at_call 28; refine HF.out.mono ?_; rintro e w2 ⟨rfl, rfl⟩))
    go_ret2
    exact ⟨none, 0, rfl, HN.out⟩
  ·have e1 : rdE u r off k = 0 := by unfold rdE; rw [if_neg (by rw [hf]; simp), if_neg hneg]
   have e2 : rdB u r off k = rd n.data off k := by unfold rdB; rw [if_neg (by rw [e1]; decide), hn]; rfl
   obtain ⟨o, rfl⟩ : ∃ o : Nat, off = o := ⟨off.toNat, by omega⟩
   obtain ⟨kk, rfl⟩ : ∃ kk : Nat, k = kk := ⟨k.toNat, by omega⟩
   have t1 : decide ((o : Int) < 0) = false := by simp
   have t2 : decide ((kk : Int) < 0) = false := by simp
   have w1 : IntKind.i64.wrap ((v.dn : Int) - o) = (v.dn : Int) - o := by rw [IntKind.wrap_i64]; omega
   by_cases hp : 0 < min (kk : Int) ((n.data.length : Int) - o)
   ·rw [e2, rd_some hp, e1]
    rw [hlen] at hp ⊢
    obtain ⟨mm, hmm⟩ : ∃ mm : Nat, min (kk : Int) ((v.dn : Int) - o) = mm := ⟨(min (kk : Int) ((v.dn : Int) - o)).toNat, by omega⟩
    rw [hmm] at hp ⊢
    rw [Int.toNat_natCast]
    have hmo : o + mm ≤ v.dn := by omega
    have hbs : Bs w (Option.map (fun x => x.add o) v.da) mm ((n.data.take (o + mm)).drop o) := by
     have h3 := hv.data.2.2
     refine ⟨by simp; omega, bytes_cut hv.data.2.1 o (o + mm), ?_⟩
     rcases h3 with h3 | ⟨b, off, h4, h5, h6⟩
     ·omega
     ·refine .inr ⟨b, off + o, ?_, h5, ?_⟩
      ·rw [h4]; simp [Addr.add_lit]
      ·exact h6.cut o (o + mm)
    have hcl := (CloneNew_any mm (v.dc - o) _ _ w hbs (by have := hv.dc; omega) (fun e => by
     have := hv.dnil (by cases e5 : v.da with
      | none => rfl
      | some a => rw [e5] at e; cases e)
     omega) (by omega))
    have HC := hide hcl
    have hl : ((n.data.take (o + mm)).drop o).length = mm := by simp; omega
    rw [hl]
    generalize hZ : (n.data.take (o + mm)).drop o = Z at *
    have hdc := hv.dc
    have hdcm := hv.dcm
    have hpm : (0 : Int) < mm := by omega
    have t5 : decide ((mm : Int) ≤ 0) = false := by simp; omega
    have w2 : IntKind.i64.wrap ((o : Int) + mm) = ((o + mm : Nat) : Int) := by rw [IntKind.wrap_i64]; omega
    have HM := hide hmm
    have hmin := run_min2 #[3, 3] 3 (kk : Int) ((v.dn : Int) - o) w
    rw [hmm] at hmin
    have hdn : o + mm ≤ v.dn := hmo
    have hoc : (o : Int) ≤ ((o + mm : Nat) : Int) := by omega
    have hcc : ((o + mm : Nat) : Int) ≤ v.dc := by omega
    clear h hv hn hkd hf e0 e1 e2 hneg hl hZ hcl hbs hmm hp hlen hmo
    go_enter Tryz.func10, Tryz.ntmps10
    go_wp2_with (first
     | (go_at_call 28; refine HF.out.mono ?_; rintro e w5 ⟨rfl, rfl⟩)
     | (go_at_call 29; refine HC.out.mono ?_; rintro e w6 ⟨ao, c6, rfl, hN6⟩))
    go_ret2
    exact ⟨ao, c6, rfl, hN6⟩
   ·have e3 := rd_nil hp (by omega) (by omega)
    rw [e2, e3, e1]
    rw [hlen] at hp
    obtain ⟨mm, hmm⟩ : ∃ mm : Int, min (kk : Int) ((v.dn : Int) - o) = mm := ⟨_, rfl⟩
    have hmin := run_min2 #[3, 3] 3 (kk : Int) ((v.dn : Int) - o) w
    rw [hmm] at hmin hp
    have t5 : decide (mm ≤ 0) = true := by simpa using hp
    clear h hv hn hkd hf e0 e1 e2 e3 hneg hmm hp hlen hms
    go_enter Tryz.func10, Tryz.ntmps10
    go_wp2_with (first
     | (go_at_call 28; refine HF.out.mono ?_; rintro e w5 ⟨rfl, rfl⟩))
    go_ret2
    exact ⟨none, 0, rfl, HN.out⟩
 ·have e1 : rdE u r off k = filE u r := by unfold rdE; rw [if_pos hf]
  have e2 : rdB u r off k = [] := by unfold rdB; rw [if_pos (by rw [e1]; exact hf)]
  have e0 : ptrF u nb r = none := by unfold ptrF; rw [if_neg hf]
  have k0 : (filE u r == 0) = false := by simpa using hf
  rw [e1, e2]
  rw [e0] at HF
  generalize filE u r = ee at *
  clear h hf e0 e1 e2
  go_enter Tryz.func10, Tryz.ntmps10
  go_wp2_with (first
   | (go_at_call 28; refine HF.out.mono ?_; rintro e w2 ⟨rfl, rfl⟩))
  go_ret2
  exact ⟨none, 0, rfl, HN.out⟩
end
end Upr
end Go.Proofs.YtbmeapehgajbkaaGreat
namespace Go.Proofs.YtbmeapehgajbkaaGreat
open Go.RowKit Go.Maps
open Nam Tre Tab
open Lz (g)
namespace Upr
theorem lks_trn (u : Us) (r : Int) (f : Nod → Nod) (x : Int) : lks (trn u r f) x = lks u x := rfl
theorem knd_trn {u : Us} {r : Int} {f : Nod → Nod} (hf : ∀ n ∈ u.L, n.ino = r → (f n).ino = n.ino ∧ (f n).kind = n.kind) (x : Int) : knd (trn u r f) x = knd u x := by
 unfold knd
 rw [nd_trn (fun n hn e => (hf n hn e).1)]
 cases hx : nd u x with
 | none => rfl
 | some n =>
  obtain ⟨h1, h2⟩ := nd_some hx
  show (if n.ino = r then f n else n).kind = n.kind
  by_cases e : n.ino = r
  ·rw [if_pos e, (hf n h1 e).2]
  ·rw [if_neg e]
theorem mayU_data {n : Nod} (h : mayU n = true) (hk : n.kind = 2) {zs : List Int} (hle : zs.length ≤ 4096) : mayU { n with data := zs } = true := by
 have e : ∀ m : Nod, m.kind = 2 → mayU m = (decide (m.data.length ≤ 4096) && m.target.toList.isEmpty && attrOk m && xsOk m.xs) := fun m hm => by
  unfold mayU
  rw [if_neg (by rw [hm]; decide)]
  unfold may kdOk
  show ((if m.kind = 1 then _ else if m.kind = 2 then _ else _) && attrOk m && xsOk m.xs && !false) = _
  rw [if_neg (by rw [hm]; decide), if_pos hm]
  simp
 rw [e n hk] at h
 rw [e { n with data := zs } hk]
 simp only [Bool.and_eq_true, decide_eq_true_eq] at h ⊢
 exact ⟨⟨⟨hle, h.1.1.2⟩, h.1.2⟩, h.2⟩
end Upr
end Go.Proofs.YtbmeapehgajbkaaGreat
namespace Go.Proofs.YtbmeapehgajbkaaGreat
open Go.RowKit Go.Maps
open Nam Tre Tab
open Lz (g)
namespace Upr
theorem turn_fin {w w' w0 : World} {p : Nat} {c c' : Nat → Cl} {q : Int × Int} {u : Us} {pr : Int → Int} {m : Nat} {nb eb : Int → Nat} (h : UB w p c (q.1, q.2, u.nx - 1) u (fun r => (lks u r : Int)) pr m nb eb) (hwf : Wf u) (hpar : ∀ e ∈ u.E, knd u e.ref = 1 → pr e.ref = e.dir)
  {r : Int} {n : Nod} {v : Pv} (f : Nod → Nod) (hn : nd u r = some n) (hfi : ∀ x, (f x).ino = x.ino ∧ (f x).kind = x.kind ∧ (f x).names = x.names) (hmy : mayU (f n) = true) (hop : (f n).opq = true → n.kind = 1)
  (hcc : ∀ k, c k ≠ .no → c' k = c k) (hll : ∀ b, c' b ≠ .no → b < w'.heap.size) (hext : Ext c c' w0) (hf : Fr (fun i => i = nb r) w w')
  (hNB : NB c' w' (nb r) (f n) v (lks u r) (.map (if n.kind = 1 then some (eb r) else none)) (if n.kind = 1 then pr r else 0)) :
  ∃ c', Up w' p c' q (trn u r f) ∧ Fr (fun k => c k ≠ .no) w w' ∧ Ext c c' w0 := by
 obtain ⟨n1, n2⟩ := nd_some hn
 have hc := h.cnr hn
 have only : ∀ x ∈ u.L, x.ino = r → x = n := fun x hx e => inj h.ino x hx n n1 (e.trans n2.symm)
 have hf' : Fr (fun i => c i = .nod r) w w' := hf.mono (fun i _ hi => by rw [hi]; exact hc)
 refine ⟨c', ?_, hf'.mono (fun i _ hi => by rw [hi]; intro e; cases e), hext⟩
 have hB := h.nodeC hcc hll hn f (hfi n).1 (hfi n).2.1 hmy hf' (lks u r : Int) (pr r) v hNB
 refine ⟨pr, m, nb, eb, ?_, ?_, ?_⟩
 ·refine hB.lks (fun x hx => ?_) (fun x hx _ => ?_)
  ·show (if x.ino = r then (lks u r : Int) else (lks u x.ino : Int)) = ((lks (trn u r _) x.ino : Nat) : Int)
   rw [lks_trn]
   by_cases e : x.ino = r
   ·rw [if_pos e, e]
   ·rw [if_neg e]
  ·show (if x.ino = r then pr r else pr x.ino) = pr x.ino
   by_cases e : x.ino = r
   ·rw [if_pos e, e]
   ·rw [if_neg e]
 ·refine trn_wf hwf (fun x hx e => ?_)
  rw [only x hx e]
  exact ⟨(hfi n).1, (hfi n).2.1, (hfi n).2.2, hmy, hop⟩
 ·intro e he hke
  rw [knd_trn (fun x _ _ => ⟨(hfi x).1, (hfi x).2.1⟩)] at hke
  exact hpar e he hke
theorem mayU_opq {n : Nod} (h : mayU n = true) (on : Bool) : mayU { n with opq := on } = true := by
 unfold mayU at h ⊢
 exact h
set_option maxRecDepth 100000 in
set_option maxHeartbeats 1000000 in
theorem uSetOpaque_any {p : Nat} {c : Nat → Cl} {q : Int × Int} {u : Us} (r : Int) (on : Bool) (w : World) (h : Up w p c q u) (hr : (Lit.int .i64 r).wf = true) :
  Calls Tryz.prog 43 #[.pointer (some ⟨p, 0, none⟩), .int .i64 r, .bool on] w fun e w' => e = .returned (.int .i64 (so u r on).1) ∧ ∃ c', Up w' p c' q (so u r on).2 ∧ Fr (fun k => c k ≠ .no) w w' ∧ Ext c c' w := by
 have HU := hide h
 obtain ⟨pr, m, nb, eb, hB, hwf, hpar⟩ := h
 have HD := hide (udir_any r w hr hB)
 have HSame : Hid (∃ c', Up w p c' q u ∧ Fr (fun k => c k ≠ .no) w w ∧ Ext c c' w) := ⟨c, HU.out, Fr.refl _ _, Ext.refl _ _⟩
 by_cases hd : dirE u r = 0
 ·obtain ⟨n, hn, hk⟩ := dirE_zero.1 hd
  have e1 : so u r on = (0, trn u r (fun n => { n with opq := on })) := by unfold so; rw [if_neg (by rw [hd]; simp)]
  have e0 : ptrD u nb r = some ⟨nb r, 0, none⟩ := by unfold ptrD; rw [if_pos hd]
  rw [e1]
  rw [e0, hd] at HD
  obtain ⟨n1, n2, v, hv⟩ := hB.at hn
  have hc := hB.cnr hn
  have c9 : w.cell? ⟨nb r, 9, none⟩ = some (.bool n.opq) := by simp [World.cell?, hv.box, ncs]
  have f9 : w.frozen? ⟨nb r, 9, none⟩ = false := by simp [World.frozen?, hv.box]
  have HFin : Hid (∃ c', Up (w.setCell ⟨nb r, 9, none⟩ (.bool on)) p c' q (trn u r (fun n => { n with opq := on })) ∧ Fr (fun k => c k ≠ .no) w (w.setCell ⟨nb r, 9, none⟩ (.bool on)) ∧ Ext c c' w) := by
   have hf : Fr (fun k => k = nb r) w (w.setCell ⟨nb r, 9, none⟩ (.bool on)) := (Fr.refl _ _).set (p := ⟨nb r, 9, none⟩) _ (fun _ => rfl)
   have nn : ∀ {k x}, c k = x → x ≠ .nod r → ¬ k = nb r := fun h1 h2 h3 => h2 (by rw [← h1, h3]; exact hc)
   refine turn_fin hB hwf hpar (fun n => { n with opq := on }) hn (fun x => ⟨rfl, rfl, rfl⟩) (mayU_opq (hB.kd n n1) on) (fun _ => hk) (fun _ _ => rfl) (fun b hb => by have := hB.low b hb; simpa [World.setCell] using this) (Ext.refl _ _) hf ?_ (v := v)
   exact ⟨hv.setC 9 _ rfl, hv.data.fr hf (fun a ha h0 => nn (hv.dcol a ha h0) (by intro e; cases e)), hv.dcol, hv.dc, hv.dcm, hv.dnil, hv.xs.fr hf (fun k hk => nn hk (by intro e; cases e)), hv.xc, hv.xcm, hv.xnil⟩
  clear hB hwf hpar hn hv e0 e1 hd
  go_enter Tryz.func43, Tryz.ntmps43
  go_wp2_with (go_at_call 23; refine HD.out.mono ?_; rintro e w5 ⟨rfl, rfl⟩)
  go_ret
  exact ⟨rfl, HFin.out⟩
 ·have e1 : so u r on = (dirE u r, u) := by unfold so; rw [if_pos hd]
  rw [e1]
  have t1 : (dirE u r != 0) = true := by simpa using hd
  clear hB hwf hpar e1
  generalize dirE u r = z at *
  clear hd
  go_enter Tryz.func43, Tryz.ntmps43
  go_wp2_with (go_at_call 23; refine HD.out.mono ?_; rintro e w5 ⟨rfl, rfl⟩)
  go_ret
  exact ⟨rfl, HSame.out⟩
theorem mayU_attr {n : Nod} (h : mayU n = true) (hk : n.kind ≠ 4) {a b d : Int} (hb : (upB a 511 && upB b 65535 && upB d 65535) = true) : mayU { n with mode := a, uid := b, gid := d } = true := by
 rw [mayU_eq] at h ⊢
 simp only [Bool.and_eq_true] at h hb ⊢
 obtain ⟨⟨_, h2⟩, h3⟩ := h
 refine ⟨⟨hb, h2⟩, ?_⟩
 unfold kindU at h3 ⊢
 simp only at h3 ⊢
 by_cases k1 : n.kind = 1
 ·rw [if_pos k1] at h3 ⊢; exact h3
 rw [if_neg k1] at h3 ⊢
 by_cases k2 : n.kind = 2
 ·rw [if_pos k2] at h3 ⊢; exact h3
 rw [if_neg k2] at h3 ⊢
 by_cases k3 : n.kind = 3
 ·rw [if_pos k3] at h3 ⊢; exact h3
 rw [if_neg k3, if_neg hk] at h3 ⊢
 exact h3
theorem mayU_xs {n : Nod} (h : mayU n = true) (hk : n.kind ≠ 4) {xs : List (ByteArray × List Int)} (hx : xsOk xs = true) : mayU { n with xs := xs } = true := by
 rw [mayU_eq] at h ⊢
 simp only [Bool.and_eq_true] at h ⊢
 obtain ⟨⟨h1, _⟩, h3⟩ := h
 refine ⟨⟨h1, hx⟩, ?_⟩
 unfold kindU at h3 ⊢
 simp only at h3 ⊢
 by_cases k1 : n.kind = 1
 ·rw [if_pos k1] at h3 ⊢; exact h3
 rw [if_neg k1] at h3 ⊢
 by_cases k2 : n.kind = 2
 ·rw [if_pos k2] at h3 ⊢; exact h3
 rw [if_neg k2] at h3 ⊢
 by_cases k3 : n.kind = 3
 ·rw [if_pos k3] at h3 ⊢; exact h3
 rw [if_neg k3, if_neg hk] at h3 ⊢
 exact h3
theorem upB_iff (x m : Int) : upB x m = true ↔ 0 ≤ x ∧ x ≤ m := by
 unfold upB; simp
theorem attr_iff (a b d : Int) : (upB a 511 && upB b 65535 && upB d 65535) = true ↔ ((0 ≤ a ∧ a ≤ 511) ∧ (0 ≤ b ∧ b ≤ 65535) ∧ 0 ≤ d ∧ d ≤ 65535) := by
 simp only [Bool.and_eq_true, upB_iff, and_assoc]
theorem set3 {w : World} {b : Nat} {n : Nod} {v : Pv} {l pr : Int} {em : Value} {c : Nat → Cl} (h : NB c w b n v l em pr) (x y z : Int) :
  (((w.setCell ⟨b, 3, none⟩ (.int .i64 x)).setCell ⟨b, 4, none⟩ (.int .i64 y)).setCell ⟨b, 5, none⟩ (.int .i64 z)).heap[b]? = some (.cells (ncs { n with mode := x, uid := y, gid := z } v l em pr) 73 (0, 0)) := by
 rw [heap_setCell_self (heap_setCell_self (heap_setCell_self h.box _) _) _]; rfl
set_option maxRecDepth 100000 in
set_option maxHeartbeats 1000000 in
theorem uSetAttr_any {p : Nat} {c : Nat → Cl} {q : Int × Int} {u : Us} (r a b d : Int) (w : World) (h : Up w p c q u) (hr : (Lit.int .i64 r).wf = true) :
  Calls Tryz.prog 72 #[.pointer (some ⟨p, 0, none⟩), .int .i64 r, .agg #[.int .i64 a, .int .i64 b, .int .i64 d]] w fun e w' => e = .returned (.int .i64 (sa u r a b d).1) ∧ ∃ c', Up w' p c' q (sa u r a b d).2 ∧ Fr (fun k => c k ≠ .no) w w' ∧ Ext c c' w := by
 have HU := hide h
 obtain ⟨w1, hw1⟩ : ∃ w1, w1 = w.alloc (.cells #[.int .i64 a, .int .i64 b, .int .i64 d] 41) := ⟨_, rfl⟩
 have hb1 : Below w.heap.size w w1 := by rw [hw1]; exact below_one _ _
 have HB1 := hide hb1
 have hbx : w1.heap[w.heap.size]? = some (.cells #[.int .i64 a, .int .i64 b, .int .i64 d] 41 (0, 0)) := by rw [hw1]; exact heap_new rfl
 obtain ⟨pr, m, nb, eb, hB0, hwf, hpar⟩ := h
 have hB := hB0.below hb1
 have HAt := fun q hq W => uattr_any a b d W q hq
 have c2 := hB.c2
 have hl := hB.look hr
 have HSame : Hid (∀ W, Below w.heap.size w W → ∃ c', Up W p c' q u ∧ Fr (fun k => c k ≠ .no) w W ∧ Ext c c' w) := fun W hW => ⟨c, HU.out.below hW, Fr.of_below hW, Ext.refl _ _⟩
 have a0 : w1.cell? ⟨w.heap.size, 0, none⟩ = some (.int .i64 a) := by simp [World.cell?, hbx]
 have a1 : w1.cell? ⟨w.heap.size, 1, none⟩ = some (.int .i64 b) := by simp [World.cell?, hbx]
 have a2 : w1.cell? ⟨w.heap.size, 2, none⟩ = some (.int .i64 d) := by simp [World.cell?, hbx]
 cases hn : nd u r with
 | none =>
  have e1 : sa u r a b d = (1, u) := by unfold sa; rw [if_pos (.inl hn)]
  rw [e1]
  rw [hn] at hl
  simp only [Option.map_none, Option.getD_none, Option.isSome_none] at hl
  have HS := hide (HSame.out w1 hb1)
  clear hB hB0 hwf hpar e1 hn HAt HSame hb1 hbx
  rw [hw1] at c2 hl a0 a1 a2 HS
  clear hw1 HB1
  go_enter Tryz.func72, Tryz.ntmps72
  go_wp2_with fail
  go_ret
  exact ⟨rfl, HS.out⟩
 | some n =>
  obtain ⟨n1, n2, v, hv⟩ := hB.at hn
  rw [hn] at hl
  simp only [Option.map_some, Option.getD_some, Option.isSome_some] at hl
  have hc := hB.cnr hn
  have k2 : ∀ W, Below w1.heap.size w1 W → W.cell? ⟨nb r, 2, none⟩ = some (.int .i64 n.kind) := fun W hW => by
   have := (hW.block _ (heap_lt hv.box)).trans hv.box
   simp [World.cell?, this, ncs]
  have hknd : knd u r = n.kind := by unfold knd; rw [hn]; rfl
  cases hb : (upB a 511 && upB b 65535 && upB d 65535) with
  | false =>
   have e1 : sa u r a b d = (1, u) := by
    unfold sa; rw [if_pos (.inr (.inr (fun h => by rw [(attr_iff a b d).2 h] at hb; cases hb)))]
   rw [e1]
   have HA := hide (fun W => HAt false hb W)
   have HS := hide HSame.out
   clear hB hB0 hwf hpar e1 hn HAt HSame hv hb hbx
   have HK := hide k2
   clear k2
   have kk := HK.out w1 (Below.refl _ _)
   rw [hw1] at c2 hl a0 a1 a2 kk hb1
   have HB2 := hide hb1
   clear hw1 HB1 HK
   go_enter Tryz.func72, Tryz.ntmps72
   go_wp2_with (go_at_call 45; refine (HA.out _).mono ?_; rintro e w5 ⟨rfl, hb5⟩; have E5 := hide (HB2.out.trans (hb5.mono HB2.out.size)); clear hb5)
   go_ret
   exact ⟨rfl, HS.out _ E5.out⟩
  | true =>
   have HA := hide (fun W => HAt true hb W)
   have HK := hide k2
   have kk := k2 w1 (Below.refl _ _)
   by_cases hk : n.kind = 4
   ·have e1 : sa u r a b d = (1, u) := by unfold sa; rw [if_pos (.inr (.inl (hknd.trans hk)))]
    rw [e1]
    have hk4 : (n.kind == 4) = true := by simpa using hk
    have HS := hide HSame.out
    clear hB hB0 hwf hpar e1 hn HAt HSame hv hb hbx k2 hk
    rw [hw1] at c2 hl a0 a1 a2 kk hb1 HK
    have HB2 := hide hb1
    clear hw1 HB1
    go_enter Tryz.func72, Tryz.ntmps72
    go_wp2_with (go_at_call 45; refine (HA.out _).mono ?_; rintro e w5 ⟨rfl, hb5⟩; have E5 := hide (HB2.out.trans (hb5.mono HB2.out.size)); have k5 := HK.out _ hb5; clear hb5)
    go_ret
    exact ⟨rfl, HS.out _ E5.out⟩
   ·have e1 : sa u r a b d = (0, trn u r (fun n => { n with mode := a, uid := b, gid := d })) := by
     unfold sa
     rw [if_neg]
     rintro (h | h | h)
     ·rw [hn] at h; cases h
     ·exact hk (hknd.symm.trans h)
     ·exact h ((attr_iff a b d).1 hb)
    rw [e1]
    have hk4 : (n.kind == 4) = false := by simpa using hk
    have HFin : Hid (∀ W, Below w1.heap.size w1 W → W.heap[w.heap.size]? = some (.cells #[.int .i64 a, .int .i64 b, .int .i64 d] 41 (0, 0)) ∧ (∀ j, W.frozen? ⟨nb r, j, none⟩ = false) ∧ W.cell? ⟨nb r, 3, none⟩ = some (.int .i64 n.mode) ∧ W.cell? ⟨nb r, 4, none⟩ = some (.int .i64 n.uid) ∧ W.cell? ⟨nb r, 5, none⟩ = some (.int .i64 n.gid) ∧
      ∃ c', Up (((W.setCell ⟨nb r, 3, none⟩ (.int .i64 a)).setCell ⟨nb r, 4, none⟩ (.int .i64 b)).setCell ⟨nb r, 5, none⟩ (.int .i64 d)) p c' q (trn u r (fun n => { n with mode := a, uid := b, gid := d })) ∧ Fr (fun k => c k ≠ .no) w (((W.setCell ⟨nb r, 3, none⟩ (.int .i64 a)).setCell ⟨nb r, 4, none⟩ (.int .i64 b)).setCell ⟨nb r, 5, none⟩ (.int .i64 d)) ∧ Ext c c' w) := fun W hW => by
     have hbw := (hW.block _ (heap_lt hbx)).trans hbx
     have hBW := hB.below hW
     obtain ⟨_, _, vW, hvW⟩ := hBW.at hn
     have hcW := hBW.cnr hn
     have hf : Fr (fun k => k = nb r) W (((W.setCell ⟨nb r, 3, none⟩ (.int .i64 a)).setCell ⟨nb r, 4, none⟩ (.int .i64 b)).setCell ⟨nb r, 5, none⟩ (.int .i64 d)) :=
      (((Fr.refl (fun k => k = nb r) W).set (p := ⟨nb r, 3, none⟩) _ (fun _ => rfl)).set (p := ⟨nb r, 4, none⟩) _ (fun _ => rfl)).set (p := ⟨nb r, 5, none⟩) _ (fun _ => rfl)
     have nn : ∀ {k x}, c k = x → x ≠ .nod r → ¬ k = nb r := fun h1 h2 h3 => h2 (by rw [← h1, h3]; exact hcW)
     refine ⟨hbw, fun j => by simp [World.frozen?, hvW.box], by simp [World.cell?, hvW.box, ncs], by simp [World.cell?, hvW.box, ncs], by simp [World.cell?, hvW.box, ncs], ?_⟩
     obtain ⟨c', q1, q2, q3⟩ := turn_fin (w0 := W) hBW hwf hpar (fun n => { n with mode := a, uid := b, gid := d }) hn (fun x => ⟨rfl, rfl, rfl⟩) (mayU_attr (hB.kd n n1) hk hb) (hwf.opq n n1) (fun _ _ => rfl) (fun b hb => by have := hBW.low b hb; simpa [World.setCell] using this) (Ext.refl _ _) hf
      (v := vW) ⟨set3 hvW a b d, hvW.data.fr hf (fun a ha h0 => nn (hvW.dcol a ha h0) (by intro e; cases e)), hvW.dcol, hvW.dc, hvW.dcm, hvW.dnil, hvW.xs.fr hf (fun k hk => nn hk (by intro e; cases e)), hvW.xc, hvW.xcm, hvW.xnil⟩
     have hwW : Below w.heap.size w W := hb1.trans (hW.mono hb1.size)
     exact ⟨c', q1, (Fr.of_below hwW).trans q2 (fun i _ hi => hi), fun i hi => q3 i (Nat.lt_of_lt_of_le hi hwW.size)⟩
    clear hB hB0 hwf hpar e1 hn HAt HSame hv hb hbx k2 hk
    rw [hw1] at c2 hl a0 a1 a2 kk hb1 HK HFin
    have HB2 := hide hb1
    clear hw1 HB1
    go_enter Tryz.func72, Tryz.ntmps72
    go_wp2_with (go_at_call 45; refine (HA.out _).mono ?_; rintro e w5 ⟨rfl, hb5⟩; have k5 := HK.out _ hb5; obtain ⟨hx5, hfz, d3, d4, d5, hup5⟩ := HFin.out _ hb5; have HUp5 := hide hup5; have x0 : w5.cell? ⟨w.heap.size, 0, none⟩ = some (.int .i64 a) := (by simp [World.cell?, hx5]); have x1 : w5.cell? ⟨w.heap.size, 1, none⟩ = some (.int .i64 b) := (by simp [World.cell?, hx5]); have x2 : w5.cell? ⟨w.heap.size, 2, none⟩ = some (.int .i64 d) := (by simp [World.cell?, hx5]); clear hb5 hx5 hup5)
    go_ret
    exact ⟨rfl, HUp5.out⟩
def cnew (c : Nat → Cl) (lo hi : Nat) (k : Nat) : Cl := if lo ≤ k ∧ k < hi then .dat else c k
theorem cnew_old {c : Nat → Cl} {lo hi k : Nat} (h : k < lo) : cnew c lo hi k = c k := by unfold cnew; rw [if_neg (by omega)]
theorem cnew_dat {c : Nat → Cl} {lo hi k : Nat} (h : newc lo hi k = .dat) : cnew c lo hi k = .dat := by unfold cnew; rw [if_pos (newc_dat.1 h)]
set_option maxRecDepth 100000 in
set_option maxHeartbeats 1000000 in
theorem uSetXattrs_any {p : Nat} {c : Nat → Cl} {q : Int × Int} {u : Us} (r : Int) (ao : Option Addr) (n0 c0 : Nat) (xs : List (ByteArray × List Int)) (w : World) (h : Up w p c q u) (hr : (Lit.int .i64 r).wf = true) (hx : XsR w ao n0 xs) (hc0 : n0 ≤ c0) (hcm : c0 ≤ 9223372036854775807) (hnil : ao = none → c0 = 0) :
  Calls Tryz.prog 73 #[.pointer (some ⟨p, 0, none⟩), .int .i64 r, .slice ao n0 c0] w fun e w' => e = .returned (.int .i64 (sx u r xs).1) ∧ ∃ c', Up w' p c' q (sx u r xs).2 ∧ Fr (fun k => c k ≠ .no) w w' ∧ Ext c c' w := by
 have HU := hide h
 obtain ⟨pr, m, nb, eb, hB, hwf, hpar⟩ := h
 have HMx : Hid (∀ q, xsOk xs = q → ∀ W, Below w.heap.size w W → Calls Tryz.prog 46 #[.slice ao n0 c0] W fun e w' => e = .returned (.bool q) ∧ Below W.heap.size W w') := fun q hq W hW => MayXattrs_any ao n0 c0 xs W (hx.below hW) hc0 hcm hnil q hq
 have c2 := hB.c2
 have hl := hB.look hr
 have HSame : Hid (∀ W, Below w.heap.size w W → ∃ c', Up W p c' q u ∧ Fr (fun k => c k ≠ .no) w W ∧ Ext c c' w) := fun W hW => ⟨c, HU.out.below hW, Fr.of_below hW, Ext.refl _ _⟩
 cases hn : nd u r with
 | none =>
  have e1 : sx u r xs = (1, u) := by unfold sx; rw [if_pos (.inl hn)]
  rw [e1]
  rw [hn] at hl
  simp only [Option.map_none, Option.getD_none, Option.isSome_none] at hl
  have HS := hide (HSame.out w (Below.refl _ _))
  clear hB hwf hpar e1 hn HMx HSame hx
  go_enter Tryz.func73, Tryz.ntmps73
  go_wp2_with fail
  go_ret
  exact ⟨rfl, HS.out⟩
 | some n =>
  obtain ⟨n1, n2, v, hv⟩ := hB.at hn
  rw [hn] at hl
  simp only [Option.map_some, Option.getD_some, Option.isSome_some] at hl
  have k2 : ∀ W, Below w.heap.size w W → W.cell? ⟨nb r, 2, none⟩ = some (.int .i64 n.kind) := fun W hW => by
   have := (hW.block _ (heap_lt hv.box)).trans hv.box
   simp [World.cell?, this, ncs]
  have hknd : knd u r = n.kind := by unfold knd; rw [hn]; rfl
  cases hb : xsOk xs with
  | false =>
   have e1 : sx u r xs = (1, u) := by unfold sx; rw [if_pos (.inr (.inr hb))]
   rw [e1]
   have HM := hide (HMx.out false hb)
   have HS := hide HSame.out
   have kk := k2 w (Below.refl _ _)
   clear hB hwf hpar e1 hn HMx HSame hv hb hx k2
   go_enter Tryz.func73, Tryz.ntmps73
   go_wp2_with (go_at_call 46; refine (HM.out _ (Below.refl _ _)).mono ?_; rintro e w5 ⟨rfl, hb5⟩; have E5 : Hid (Below w.heap.size w w5) := hb5; clear hb5)
   go_ret
   exact ⟨rfl, HS.out _ E5.out⟩
  | true =>
   have HM := hide (HMx.out true hb)
   have HK := hide k2
   have kk := k2 w (Below.refl _ _)
   by_cases hk : n.kind = 4
   ·have e1 : sx u r xs = (1, u) := by unfold sx; rw [if_pos (.inr (.inl (hknd.trans hk)))]
    rw [e1]
    have hk4 : (n.kind == 4) = true := by simpa using hk
    have HS := hide HSame.out
    clear hB hwf hpar e1 hn HMx HSame hv hb hx k2 hk
    go_enter Tryz.func73, Tryz.ntmps73
    go_wp2_with (go_at_call 46; refine (HM.out _ (Below.refl _ _)).mono ?_; rintro e w5 ⟨rfl, hb5⟩; have E5 : Hid (Below w.heap.size w w5) := hb5; have k5 := HK.out _ E5.out; clear hb5)
    go_ret
    exact ⟨rfl, HS.out _ E5.out⟩
   ·have e1 : sx u r xs = (0, trn u r (fun n => { n with xs := xs })) := by
     unfold sx
     rw [if_neg]
     rintro (h | h | h)
     ·rw [hn] at h; cases h
     ·exact hk (hknd.symm.trans h)
     ·rw [hb] at h; cases h
    rw [e1]
    have hk4 : (n.kind == 4) = false := by simpa using hk
    have hmy := mayU_xs (hB.kd n n1) hk hb
    have hsml := may_small hmy
    have HCp : Hid (∀ W, Below w.heap.size w W → Calls Tryz.prog 30 #[.slice ao n0 c0] W fun e w' => ∃ ao' c', e = .returned (.slice ao' n0 c') ∧ NewX W w' ao' n0 c' xs) := fun W hW =>
     ucopied_any ao n0 c0 xs W (hx.below hW) hc0 hcm hnil (by have := hsml.2.2.1; have := hx.1; show n0 ≤ 1000000; simp only at *; omega) (fun x hxx => by have := (hsml.2.2.2.1 x hxx).2; omega)
    have HFin : Hid (∀ W W2 ao' c', Below w.heap.size w W → NewX W W2 ao' n0 c' xs → (∃ x, W2.cell? ⟨nb r, 8, none⟩ = some x) ∧ W2.frozen? ⟨nb r, 8, none⟩ = false ∧
      ∃ c2, Up (W2.setCell ⟨nb r, 8, none⟩ (.slice ao' n0 c')) p c2 q (trn u r (fun n => { n with xs := xs })) ∧ Fr (fun k => c k ≠ .no) w (W2.setCell ⟨nb r, 8, none⟩ (.slice ao' n0 c')) ∧ Ext c c2 w) := fun W W2 ao' cc' hW hX => by
     have hW2 : Below w.heap.size w W2 := hW.trans (hX.bel.mono hW.size)
     have hBW := hB.below hW2
     obtain ⟨_, _, vW, hvW⟩ := hBW.at hn
     have hcW := hBW.cnr hn
     have hlo : nb r < w.heap.size := hB.low _ (by rw [hcW]; intro e; cases e)
     have hf : Fr (fun k => k = nb r) W2 (W2.setCell ⟨nb r, 8, none⟩ (.slice ao' n0 cc')) := (Fr.refl (fun k => k = nb r) W2).set (p := ⟨nb r, 8, none⟩) _ (fun _ => rfl)
     have nn : ∀ {k x}, c k = x → x ≠ .nod r → ¬ k = nb r := fun h1 h2 h3 => h2 (by rw [← h1, h3]; exact hcW)
     have hcc : ∀ k, c k ≠ .no → cnew c W.heap.size W2.heap.size k = c k := fun k hk => cnew_old (Nat.lt_of_lt_of_le (hB.low k hk) hW.size)
     have hdat : ∀ k, c k = .dat → cnew c W.heap.size W2.heap.size k = .dat := fun k hk => by rw [hcc k (by rw [hk]; intro e; cases e)]; exact hk
     refine ⟨⟨_, by simp [World.cell?, hvW.box, ncs]; rfl⟩, by simp [World.frozen?, hvW.box], ?_⟩
     obtain ⟨c2, q1, q2, q3⟩ := turn_fin (w0 := w) (c' := cnew c W.heap.size W2.heap.size) hBW hwf hpar (fun n => { n with xs := xs }) hn (fun x => ⟨rfl, rfl, rfl⟩) hmy (hwf.opq n n1) hcc
      (fun b hb => by
       have hs : (W2.setCell ⟨nb r, 8, none⟩ (.slice ao' n0 cc')).heap.size = W2.heap.size := by simp [World.setCell]
       rw [hs]
       unfold cnew at hb
       split at hb
       ·omega
       ·exact hBW.low b hb) (fun k hk => cnew_old (Nat.lt_of_lt_of_le hk hW.size)) hf
      (v := { vW with xa := ao', xn := n0, xc := cc' })
      ⟨hvW.setC 8 _ rfl, hvW.data.fr hf (fun a ha h0 => nn (hvW.dcol a ha h0) (by intro e; cases e)), fun a ha h0 => hdat _ (hvW.dcol a ha h0), hvW.dc, hvW.dcm, hvW.dnil, (hX.xs.fr hf (fun k hk e => by have := (newc_dat.1 hk).1; have := hW.size; omega)).col (fun k hk => cnew_dat hk), hX.cap, hX.max, hX.nil⟩
     exact ⟨c2, q1, (Fr.of_below hW2).trans q2 (fun i _ hi => hi), q3⟩
    clear hB hwf hpar e1 hn HMx HSame hv hb hx k2 hk hmy hsml
    go_enter Tryz.func73, Tryz.ntmps73
    go_wp2_with (first
     | (go_at_call 46; refine (HM.out _ (Below.refl _ _)).mono ?_; rintro e w5 ⟨rfl, hb5⟩; have E5 : Hid (Below w.heap.size w w5) := hb5; have k5 := HK.out _ E5.out; clear hb5)
     | (go_at_call 30; refine (HCp.out _ E5.out).mono ?_; rintro e w6 ⟨ao', cc', rfl, hX⟩; obtain ⟨⟨x8, g8⟩, f8, hup⟩ := HFin.out _ _ _ _ E5.out hX; have HUp6 := hide hup; clear hup hX))
    go_ret
    exact ⟨rfl, HUp6.out⟩
end Upr
end Go.Proofs.YtbmeapehgajbkaaGreat
namespace Go.Proofs.YtbmeapehgajbkaaGreat
open Go.RowKit Go.Maps
open Nam Tre Tab
open Lz (g)
namespace Upr
section
variable {w : World} {ops : Array Oper} {rest : List Oper} {o : Oper} {a : Act} {Q : Exit → Act → World → Prop}
theorem wpList_next_s (hg : o.guard = none) (it : Operand) (hop : o.op = Op.next it false) (b r sz : Nat) (f : ByteArray → Option Value) (left : ByteArray → Bool) (cnt : Nat) (hit : a.eval it = .pointer (some ⟨r, 0, none⟩)) (h : RgS w b r sz f left cnt)
  (hDone : (∀ x, left x = false) → wpList Tryz.prog ops Q rest (a.put o.dst (.tuple #[.bool false])) w)
  (hMore : ∀ x v w' cnt', x.size ≤ maxLen → left x = true → f x = some v → RgS w' b r sz f (fun z => left z && !decide (z = x)) cnt' → cnt' < cnt → w.grownBy w' (some r) → w'.heap.size = w.heap.size → (Instr.entry (.pointer (some ⟨r, 0, none⟩))).run Tryz.prog w' = .ok (.tuple #[.string x, v]) w' →
   wpList Tryz.prog ops Q rest (a.put o.dst (.tuple #[.bool true, .string x, v])) w') :
  wpList Tryz.prog ops Q (o :: rest) a w := by
 refine wpList_plain hg fun K' hK' => ?_
 unfold Oper.wp
 rcases h.next o.type with ⟨_, hl, hrun⟩ | ⟨x, v, w', cnt', q1, q2, q3, hrun, q4, q5, q6, q7, q8⟩
 ·simp [execOp, hop, hit, hrun, Result.andThen]
  exact hK' _ _ (hDone hl)
 ·simp [execOp, hop, hit, hrun, Result.andThen]
  exact hK' _ _ (hMore x v w' cnt' q1 q2 q3 q4 q5 q6 q7 q8)
theorem wpList_next_i (hg : o.guard = none) (it : Operand) (hop : o.op = Op.next it false) (b r sz : Nat) (f : Int → Option Value) (left : Int → Bool) (cnt : Nat) (hit : a.eval it = .pointer (some ⟨r, 0, none⟩)) (h : RgI w b r sz f left cnt)
  (hDone : (∀ x, left x = false) → wpList Tryz.prog ops Q rest (a.put o.dst (.tuple #[.bool false])) w)
  (hMore : ∀ x v w' cnt', (Lit.int .i64 x).wf = true → left x = true → f x = some v → RgI w' b r sz f (fun z => left z && !decide (z = x)) cnt' → cnt' < cnt → w.grownBy w' (some r) → w'.heap.size = w.heap.size → (Instr.entry (.pointer (some ⟨r, 0, none⟩))).run Tryz.prog w' = .ok (.tuple #[.int .i64 x, v]) w' →
   wpList Tryz.prog ops Q rest (a.put o.dst (.tuple #[.bool true, .int .i64 x, v])) w') :
  wpList Tryz.prog ops Q (o :: rest) a w := by
 refine wpList_plain hg fun K' hK' => ?_
 unfold Oper.wp
 rcases h.next o.type with ⟨_, hl, hrun⟩ | ⟨x, v, w', cnt', q1, q2, q3, hrun, q4, q5, q6, q7, q8⟩
 ·simp [execOp, hop, hit, hrun, Result.andThen]
  exact hK' _ _ (hDone hl)
 ·simp [execOp, hop, hit, hrun, Result.andThen]
  exact hK' _ _ (hMore x v w' cnt' q1 q2 q3 q4 q5 q6 q7 q8)
end
section
variable {p : Nat} {c : Nat → Cl} {q : Int × Int × Int} {u : Us} {lk pr : Int → Int} {m : Nat} {nb eb : Int → Nat}
def fullB (u : Us) (r : Int) : Bool := u.E.any (fun x => decide (x.dir = r) && !decide (knd u x.ref = 4))
set_option maxRecDepth 100000 in
set_option maxHeartbeats 1000000 in
theorem ufull_any (r : Int) (w : World) (h : UB w p c q u lk pr m nb eb) (href : ∀ e ∈ u.E, (Lit.int .i64 e.ref).wf = true ∧ ∃ n, nd u e.ref = some n) {n : Nod} (hn : nd u r = some n) (h0 : n.kind ≠ 1 → kin u r = 0) :
  Calls Tryz.prog 32 #[.pointer (some ⟨p, 0, none⟩), .pointer (some ⟨nb r, 0, none⟩)] w fun e w' => e = .returned (.bool (fullB u r)) ∧ Below w.heap.size w w' := by
 obtain ⟨n1, n2, v, hv⟩ := h.at hn
 have e1 := hv.e
 by_cases hk : n.kind = 1
 ·rw [if_pos hk] at e1
  obtain ⟨w1, rr, hrg, hg1, hs1⟩ := (h.ents hn hk).range Tryz.underlying71
  have HR := hide hrg
  have HB1 : Hid (Below w.heap.size w w1) := (Below.refl _ _).grown hg1 (Nat.le_refl _) (fun k e => by cases e)
  have HH := hide h
  have HKey := hide h.key
  have HRef := hide href
  clear h hv hrg hg1 href h0
  go_enter Tryz.func32, Tryz.ntmps32
  go_wp2
  go_loopw [6] (fun _ wr => ∃ (left : ByteArray → Bool) (cnt : Nat), RgS wr (eb r) w.heap.size (kin u r) (enF u r) left cnt ∧ Below w.heap.size w wr ∧ ∀ s e, en u r s = some e → left s = false → knd u e.ref = 4) (fun _ wr => wr.rangeLeft (eb r) w.heap.size)
  case atStart => exact ⟨_, _, HR.out, HB1.out, fun s e he hl => by simp [enF, he] at hl⟩
  case round =>
   obtain ⟨left, cnt, hrg, hbr, hvis⟩ := hrel
   have HG := hide hrg
   have HB := hide hbr
   have HV := hide hvis
   clear hrg hbr hvis
   go_wp2_with (first
    | (at_next; refine wpList_next_s rfl _ rfl (eb r) w.heap.size _ _ _ _ rfl HG.out ?_ ?_)
    | go_in)
   ·intro hl
    have HF : Hid (fullB u r = false) := by
     show fullB u r = false
     unfold fullB
     rw [List.any_eq_false]
     intro x hx hh
     simp only [Bool.and_eq_true, decide_eq_true_eq, Bool.not_eq_true', decide_eq_false_iff_not] at hh
     have := en_mem HKey.out hx
     rw [hh.1] at this
     exact hh.2 (HV.out x.nam x this (hl _))
    clear hl
    go_wp2
    go_ret
    exact ⟨ret_bool HF.out.symm, HB.out⟩
   ·intro x vv w2 cnt2 hx hlx hfx hrg2 hlt hg2 hs2 hen
    have hB2 : Below w.heap.size w w2 := HB.out.grown hg2 HB.out.size (fun k e => by cases e; exact Nat.le_refl _)
    unfold enF at hfx
    cases hex : en u r x with
    | none => rw [hex] at hfx; cases hfx
    | some e =>
     rw [hex] at hfx
     obtain rfl : Value.int .i64 e.ref = vv := by simpa using hfx
     obtain ⟨x1, x2, x3⟩ := en_some hex
     obtain ⟨wf2, n3, hn3⟩ := HRef.out e x1
     have h2 := HH.out.below hB2
     have c2 := h2.c2
     have l2 := h2.get wf2 hn3
     obtain ⟨_, _, v3, hv3⟩ := h2.at hn3
     have k3 := hv3.k
     have HB2 := hide hB2
     have HG2 := hide hrg2
     have HM : Hid (w2.rangeLeft (eb r) w.heap.size < wr.rangeLeft (eb r) w.heap.size) := by
      show _ < _
      rw [hrg2.left_eq, HG.out.left_eq]; exact hlt
     clear h2 hv3 hB2 hrg2 hg2 hlt hfx
     by_cases h4 : n3.kind = 4
     ·have k4 : (n3.kind == 4) = true := by simpa using h4
      have HN : Hid (∀ s e', en u r s = some e' → (left s && !decide (s = x)) = false → knd u e'.ref = 4) := fun s e' he' hl' => by
       by_cases es : s = x
       ·rw [es, hex] at he'
        cases he'
        rw [knd_some hn3]; exact h4
       ·exact HV.out s e' he' (by simpa [es] using hl')
      rw [h4] at k3
      clear h4 k4
      go_wp2
      exact ⟨⟨_, cnt2, HG2.out, HB2.out, HN.out⟩, HM.out⟩
     ·have k4 : (n3.kind == 4) = false := by simpa using h4
      have HF : Hid (fullB u r = true) := by
       show fullB u r = true
       unfold fullB
       rw [List.any_eq_true]
       refine ⟨e, x1, ?_⟩
       rw [knd_some hn3]
       simp [x2, h4]
      clear h4
      go_wp2
      go_ret
      exact ⟨ret_bool HF.out.symm, HB2.out⟩
 ·rw [if_neg hk] at e1
  have HF : Hid (fullB u r = false) := by
   show fullB u r = false
   unfold fullB
   rw [List.any_eq_false]
   intro x hx hh
   simp only [Bool.and_eq_true, decide_eq_true_eq] at hh
   have := h0 hk
   unfold kin at this
   rw [List.countP_eq_zero] at this
   exact this x hx (by simpa using hh.1)
  have hrg := run_range_nilMap (P := Tryz.prog) w 71 9 3 Tryz.underlying71
  have hnx : ∀ ty, (Instr.next (.pointer (some ⟨w.heap.size, 0, none⟩)) false ty).run Tryz.prog (w.alloc (.mapIter none 0 #[] 0)) = _ := fun ty => run_next_nilMap w ty 0 0 #[]
  clear h hv h0 hk hn
  go_enter Tryz.func32, Tryz.ntmps32
  go_wp2
  refine wp_loop_rounds 1 ?_
  rw [rounds_succ]
  go_wp2
  go_ret
  exact ⟨ret_bool HF.out.symm, below_one _ _⟩
end
end Upr
end Go.Proofs.YtbmeapehgajbkaaGreat
namespace Go.Proofs.YtbmeapehgajbkaaGreat
open Go.RowKit Go.Maps
open Nam Tre Tab
open Lz (g)
namespace Upr
theorem cnt_less {u : Us} (hk : u.E.Pairwise (fun a b => ¬ (a.dir = b.dir ∧ a.nam = b.nam))) {d : Int} {s : ByteArray} {x : En} (hx : en u d s = some x) (L : List Nod) (y : Int) : cnt ⟨L, less1 u.E d s, u.nx⟩ y + (if x.ref = y then 1 else 0) = cnt u y := by
 obtain ⟨x1, x2, x3⟩ := en_some hx
 unfold cnt less1
 rw [List.countP_filter, countP_split (fun e : En => decide (e.ref = y)) (fun e => decide (e.dir = d ∧ e.nam = s)) u.E]
 congr 1
 have hone := cnt_one (p := fun e : En => decide (e.ref = y) && decide (e.dir = d ∧ e.nam = s)) (hk.imp (fun {a b} hab q => by
  simp only [Bool.and_eq_true, decide_eq_true_eq] at q
  exact hab ⟨q.1.2.1.trans q.2.2.1.symm, q.1.2.2.trans q.2.2.2.symm⟩))
 by_cases h : x.ref = y
 ·rw [if_pos h]
  have pos : 0 < u.E.countP (fun e => decide (e.ref = y) && decide (e.dir = d ∧ e.nam = s)) := List.countP_pos_iff.2 ⟨x, x1, by simp [h, x2, x3]⟩
  omega
 ·rw [if_neg h, eq_comm, List.countP_eq_zero]
  intro z hz q
  simp only [Bool.and_eq_true, decide_eq_true_eq] at q
  have := key_inj hk z hz x x1 (q.2.1.trans x2.symm) (q.2.2.trans x3.symm)
  exact h (by rw [← this]; exact q.1)
theorem lks_less {u : Us} (hk : u.E.Pairwise (fun a b => ¬ (a.dir = b.dir ∧ a.nam = b.nam))) {d : Int} {s : ByteArray} {x : En} (hx : en u d s = some x) (h1 : x.ref ≠ 1) (L : List Nod) (y : Int) : (lks ⟨L, less1 u.E d s, u.nx⟩ y : Int) = if y = x.ref then (lks u y : Int) - 1 else (lks u y : Int) := by
 have h := cnt_less hk hx L y
 unfold lks
 by_cases e : y = 1
 ·rw [if_pos e, if_pos e, if_neg (fun z => h1 (z.symm.trans e))]
 ·rw [if_neg e, if_neg e]
  by_cases e2 : x.ref = y
  ·rw [if_pos e2] at h
   rw [if_pos e2.symm]; omega
  ·rw [if_neg e2] at h
   rw [if_neg (fun z => e2 z.symm)]; omega
def leafD (u : Us) (d : Int) (s : ByteArray) (r : Int) : Us :=
 if 0 < lks { u with E := less1 u.E d s } r then { u with E := less1 u.E d s } else ⟨u.L.filter (fun k => !decide (k.ino = r)), less1 u.E d s, u.nx⟩
section
variable {p : Nat} {c : Nat → Cl} {q : Int × Int × Int} {u : Us} {pr : Int → Int} {m : Nat} {nb eb : Int → Nat}
def Goes (c : Nat → Cl) (w w' : World) (b : Nat) (s : ByteArray) : Prop := ∀ i sz f left cnt, c i = .no → RgS w b i sz f left cnt → ∃ cnt', RgS w' b i sz (fun y => if y = s then none else f y) (fun z => left z && !decide (z = s)) cnt' ∧ cnt' ≤ cnt
theorem drop_head {w : World} (h : UB w p c q u (fun r => (lks u r : Int)) pr m nb eb) {d : Int} {s : ByteArray} {nD n : Nod} {x : En} (hD : nd u d = some nD) (hkD : nD.kind = 1) (hx : en u d s = some x) (hn : nd u x.ref = some n) (h1 : x.ref ≠ 1) (hs : s.size ≤ maxLen) (ty : TypeId) :
  ∃ w2, (Builtin.delete_ #[71, 9] ty #[.map (some (eb d)), .string s]).run Tryz.prog w = .ok (.tuple #[]) w2 ∧ UB w2 p c q { u with E := less1 u.E d s } (fun r => (lks u r : Int)) pr m nb eb ∧ Fr (fun k => c k ≠ .no) w w2 ∧
   ∃ w3, w3 = w2.setCell ⟨nb x.ref, 10, none⟩ (.int .i64 ((lks u x.ref : Int) - 1)) ∧ UB w3 p c q { u with E := less1 u.E d s } (fun r => (lks { u with E := less1 u.E d s } r : Int)) pr m nb eb ∧ Fr (fun k => c k ≠ .no) w w3 ∧ w3.heap.size = w.heap.size ∧ Goes c w w3 (eb d) s := by
 obtain ⟨w2, r2, h2, f2, s2⟩ := h.delE hD hkD s hs ty
 have hn2 : nd { u with E := less1 u.E d s } x.ref = some n := hn
 obtain ⟨h3, f3⟩ := h2.setL hn2 ((lks u x.ref : Int) - 1)
 have hce := h.cer hD hkD
 have f2' : Fr (fun k => c k ≠ .no) w w2 := f2.mono (fun k _ hk => by rw [hk]; intro e; cases e)
 have f3' : Fr (fun k => c k ≠ .no) w (w2.setCell ⟨nb x.ref, 10, none⟩ (.int .i64 ((lks u x.ref : Int) - 1))) := f2'.trans f3 (fun k _ hk => by rw [hk]; intro e; cases e)
 refine ⟨w2, r2, h2, f2', _, rfl, ?_, f3', by simpa using s2, ?_⟩
 ·refine h3.lks (fun n _ => ?_) (fun _ _ _ => rfl)
  show (if n.ino = x.ref then (lks u x.ref : Int) - 1 else (lks u n.ino : Int)) = ((lks ⟨u.L, less1 u.E d s, u.nx⟩ n.ino : Nat) : Int)
  rw [lks_less h.key hx h1]
  by_cases e : n.ino = x.ref
  ·rw [if_pos e, if_pos e, e]
  ·rw [if_neg e, if_neg e]
 ·intro i sz f left cnt hi hg
  obtain ⟨w2', cnt', r2', g2, hle, _, _⟩ := hg.drop Tryz.underlying71 hs ty
  have : w2' = w2 := by
   have := r2'.symm.trans r2
   injection this
  subst this
  have hm := (h2.ent nD (nd_some hD).1 hkD)
  rw [(nd_some hD).2] at hm
  refine ⟨cnt', g2.same (f3.block _ hm.lt (by rw [hce]; intro e; cases e)) (f3.block i g2.lt (by rw [hi]; intro e; cases e)), hle⟩
set_option maxRecDepth 100000 in
set_option maxHeartbeats 1000000 in
theorem uleaf_any {w : World} (h : UB w p c q u (fun r => (lks u r : Int)) pr m nb eb) {d : Int} {s : ByteArray} {nD n : Nod} {x : En} (hD : nd u d = some nD) (hkD : nD.kind = 1) (hx : en u d s = some x) (hn : nd u x.ref = some n) (hk : n.kind ≠ 1) (h1 : x.ref ≠ 1) (hs : s.size ≤ maxLen) (hE : u.E.length ≤ 100000) (hr : (Lit.int .i64 x.ref).wf = true) :
  Calls Tryz.prog 33 #[.pointer (some ⟨p, 0, none⟩), .pointer (some ⟨nb d, 0, none⟩), .string s] w fun e w' => e = .returned (.tuple #[]) ∧ UB w' p c q (leafD u d s x.ref) (fun r => (lks (leafD u d s x.ref) r : Int)) pr m nb eb ∧ Fr (fun k => c k ≠ .no) w w' ∧ Goes c w w' (eb d) s := by
 obtain ⟨_, _, vD, hvD⟩ := h.at hD
 have eD := hvD.e
 rw [if_pos hkD] at eD
 have l0 := (h.ents hD hkD).get Tryz.underlying71 (zeroI _) hs
 unfold enF at l0
 rw [hx] at l0
 simp only [Option.map_some, Option.getD_some] at l0
 obtain ⟨w2, r2, h2, f2, w3, hw3, h3, f3, s3, hG⟩ := drop_head h hD hkD hx hn h1 hs 0
 have eD2 := eD
 have c2 := h2.c2
 have hn2 : nd { u with E := less1 u.E d s } x.ref = some n := hn
 have l2 := h2.get hr hn2
 obtain ⟨_, _, v2, hv2⟩ := h2.at hn2
 have k10 := hv2.l
 have g10 := hv2.f 10
 obtain ⟨_, _, v3, hv3⟩ := h3.at hn2
 have j10 := hv3.l
 have j11 := hv3.e
 rw [if_neg hk] at j11
 have hc3 := h3.c2
 have hkl : lks u x.ref ≤ 100001 := by
  unfold lks
  split
  ·omega
  ·have : cnt u x.ref ≤ u.E.length := List.countP_le_length
   omega
 have hle := lks_less h.key hx h1 u.L x.ref
 rw [if_pos rfl] at hle
 have hle' : ((lks { u with E := less1 u.E d s } x.ref : Nat) : Int) = (lks u x.ref : Int) - 1 := hle
 rw [hle'] at j10
 have i1 : IntKind.i64.wrap ((lks u x.ref : Int) - 1) = (lks u x.ref : Int) - 1 := by rw [IntKind.wrap_i64]; omega
 by_cases hp : 0 < lks { u with E := less1 u.E d s } x.ref
 ·have e1 : leafD u d s x.ref = { u with E := less1 u.E d s } := by unfold leafD; rw [if_pos hp]
  rw [e1]
  have t1 : decide ((0 : Int) < (lks u x.ref : Int) - 1) = true := by rw [decide_eq_true_eq]; omega
  have t2 : (0 : Int) < (lks u x.ref : Int) - 1 := by omega
  have t3 : 1 < lks u x.ref := by omega
  have HF := hide (And.intro h3 (And.intro f3 hG))
  subst hw3
  clear h h2 f2 h3 f3 hG hvD hD hkD hx hn hn2 hv2 hv3 e1 hle hle' hp
  go_enter Tryz.func33, Tryz.ntmps33
  go_wp2
  refine bodyPost_ret (results_none rfl _ _ _) rfl ?_
  exact ⟨rfl, HF.out⟩
 ·have e1 : leafD u d s x.ref = ⟨u.L.filter (fun k => !decide (k.ino = x.ref)), less1 u.E d s, u.nx⟩ := by unfold leafD; rw [if_neg hp]
  rw [e1]
  have t1 : decide ((0 : Int) < (lks u x.ref : Int) - 1) = false := by rw [decide_eq_false_iff_not]; omega
  have t2 : ¬ (0 : Int) < (lks u x.ref : Int) - 1 := by omega
  have t3 : ¬ 1 < lks u x.ref := by omega
  have hrg := run_range_nilMap (P := Tryz.prog) w3 71 9 3 Tryz.underlying71
  have hnx : ∀ ty, (Instr.next (.pointer (some ⟨w3.heap.size, 0, none⟩)) false ty).run Tryz.prog (w3.alloc (.mapIter none 0 #[] 0)) = _ := fun ty => run_next_nilMap w3 ty 0 0 #[]
  have e3 : w3.heap.size = w2.heap.size := by rw [hw3]; simp
  rw [e3] at hrg hnx
  have h4 := h3.below (below_one w3 (.mapIter none 0 #[] 0))
  obtain ⟨w5, r5, h5, f5, s5⟩ := h4.delN hn2 hr 0
  have hc4 := h4.c2
  have HF : Hid (UB w5 p c q ⟨u.L.filter (fun k => !decide (k.ino = x.ref)), less1 u.E d s, u.nx⟩ (fun r => (lks ⟨u.L.filter (fun k => !decide (k.ino = x.ref)), less1 u.E d s, u.nx⟩ r : Int)) pr m nb eb ∧ Fr (fun k => c k ≠ .no) w w5 ∧ Goes c w w5 (eb d) s) := by
   have fa : Fr (fun k => c k ≠ .no) w (w3.alloc (.mapIter none 0 #[] 0)) := f3.alloc _
   refine ⟨h5, fa.trans f5 (fun k _ hk => by rw [hk]; intro e; cases e), fun i sz f left cnt hi hg => ?_⟩
   obtain ⟨cnt', g3, hle⟩ := hG i sz f left cnt hi hg
   have hce := h.cer hD hkD
   have hm := (h3.ent nD (nd_some hD).1 hkD)
   rw [(nd_some hD).2] at hm
   have fb : Fr (fun k => c k = .nds) w3 w5 := (Fr.of_below (below_one w3 _)).trans f5 (fun k _ hk => hk)
   exact ⟨cnt', g3.same (fb.block _ hm.lt (by rw [hce]; intro e; cases e)) (fb.block i g3.lt (by rw [hi]; intro e; cases e)), hle⟩
  subst hw3
  clear h h2 f2 h3 f3 hG hvD hD hkD hx hn hn2 hv2 hv3 e1 hle hle' hp h4 h5 f5 s5 s3
  go_enter Tryz.func33, Tryz.ntmps33
  go_wp2
  refine wp_loop_rounds 1 ?_
  rw [rounds_succ]
  go_wp2
  go_end0
  exact ⟨rfl, HF.out⟩
end
end Upr
end Go.Proofs.YtbmeapehgajbkaaGreat
namespace Go.Proofs.YtbmeapehgajbkaaGreat
open Nam Tre
namespace Upr
def EV (u : Us) (e : En) (left : ByteArray → Bool) : List En := (less1 u.E e.dir e.nam).filter (fun x => !(decide (x.dir = e.ref) && !left x.nam))
def LV (u : Us) (e : En) (left : ByteArray → Bool) : List Nod := u.L.filter (fun n => decide (n.ino = 1) || decide (n.ino = e.ref) || (EV u e left).any (fun x => decide (x.ref = n.ino)))
def uV (u : Us) (e : En) (left : ByteArray → Bool) : Us := ⟨LV u e left, EV u e left, u.nx⟩
theorem filter_all {α : Type} {p : α → Bool} {l : List α} (h : ∀ x ∈ l, p x = true) : l.filter p = l := List.filter_eq_self.2 h
section
variable {u : Us} {e : En}
theorem Wf.ne_dir (h : Wf u) (he : e ∈ u.E) (hk : knd u e.ref = 1) : e.dir ≠ e.ref := by
 obtain ⟨rk, hr⟩ := h.top
 obtain ⟨n, hn⟩ := h.ndr he
 obtain ⟨h1, h2⟩ := nd_some hn
 have := hr e he n h1 h2 (by rw [knd_some hn] at hk; exact hk)
 intro z
 rw [z] at this
 omega
theorem uV_start (h : Wf u) (he : e ∈ u.E) {left : ByteArray → Bool} (hl : ∀ x ∈ u.E, x.dir = e.ref → left x.nam = true) : uV u e left = { u with E := less1 u.E e.dir e.nam } := by
 have e1 : EV u e left = less1 u.E e.dir e.nam := filter_all (fun x hx => by
  have := (mem_less1.1 hx).1
  by_cases q : x.dir = e.ref
  ·simp [q, hl x this q]
  ·simp [q])
 have e2 : LV u e left = u.L := filter_all (fun n hn => by
  rw [e1]
  by_cases q1 : n.ino = 1
  ·simp [q1]
  by_cases q2 : n.ino = e.ref
  ·simp [q2]
  obtain ⟨x, x1, x2⟩ := h.has n hn q1
  have : (less1 u.E e.dir e.nam).any (fun x => decide (x.ref = n.ino)) = true := List.any_eq_true.2 ⟨x, mem_less1.2 ⟨x1, fun q => by
   have := key_inj h.key x x1 e he q.1 q.2
   rw [this] at x2
   exact q2 x2.symm⟩, by simpa using x2⟩
  rw [this]; simp)
 unfold uV
 rw [e1, e2]
theorem mem_EV {left : ByteArray → Bool} {x : En} : x ∈ EV u e left ↔ x ∈ u.E ∧ ¬ (x.dir = e.dir ∧ x.nam = e.nam) ∧ (x.dir = e.ref → left x.nam = true) := by
 unfold EV
 rw [List.mem_filter, mem_less1]
 simp only [Bool.not_eq_true', Bool.and_eq_false_iff, decide_eq_false_iff_not]
 constructor
 ·rintro ⟨⟨h1, h2⟩, h3⟩
  refine ⟨h1, h2, fun q => ?_⟩
  rcases h3 with h3 | h3
  ·exact absurd q h3
  ·simpa using h3
 ·rintro ⟨h1, h2, h3⟩
  refine ⟨⟨h1, h2⟩, ?_⟩
  by_cases q : x.dir = e.ref
  ·right; simpa using h3 q
  ·left; exact q
theorem EV_step (left : ByteArray → Bool) (x : ByteArray) : EV u e (fun z => left z && !decide (z = x)) = less1 (EV u e left) e.ref x := by
 unfold EV
 show _ = List.filter _ (List.filter _ _)
 rw [List.filter_filter]
 apply List.filter_congr
 intro y _
 by_cases h1 : y.dir = e.ref <;> by_cases h2 : y.nam = x <;> cases hl : left y.nam <;> simp [h1, h2, hl]
theorem uV_en (h : Wf u) (he : e ∈ u.E) (hk : knd u e.ref = 1) {left : ByteArray → Bool} {x : ByteArray} {y : En} (hl : left x = true) (hy : en u e.ref x = some y) : en (uV u e left) e.ref x = some y := by
 obtain ⟨y1, y2, y3⟩ := en_some hy
 have hm : y ∈ EV u e left := mem_EV.2 ⟨y1, fun q => h.ne_dir he hk (q.1.symm.trans y2), fun _ => by rw [y3]; exact hl⟩
 have hkey : (EV u e left).Pairwise (fun a b => ¬ (a.dir = b.dir ∧ a.nam = b.nam)) := (h.key.filter _).filter _
 have := en_mem (u := uV u e left) hkey hm
 rw [y2, y3] at this
 exact this
theorem uV_nd (h : Wf u) {left : ByteArray → Bool} {r : Int} {n : Nod} (hn : nd u r = some n) (hr : r = 1 ∨ r = e.ref ∨ ∃ x ∈ EV u e left, x.ref = r) : nd (uV u e left) r = some n := by
 obtain ⟨h1, h2⟩ := nd_some hn
 have hm : n ∈ LV u e left := by
  unfold LV
  rw [List.mem_filter]
  refine ⟨h1, ?_⟩
  rw [h2]
  rcases hr with hr | hr | ⟨x, x1, x2⟩
  ·simp [hr]
  ·simp [hr]
  ·rw [List.any_eq_true.2 ⟨x, x1, by simpa using x2⟩]; simp
 have := nd_mem (u := uV u e left) ((List.filter_sublist.map Nod.ino).nodup h.ino) hm
 rw [h2] at this
 exact this
theorem uV_step (h : Wf u) (he : e ∈ u.E) (hk : knd u e.ref = 1) {left : ByteArray → Bool} {x : ByteArray} {y : En} (hl : left x = true) (hy : en u e.ref x = some y) (hyk : knd u y.ref = 4) : uV u e (fun z => left z && !decide (z = x)) = leafD (uV u e left) e.ref x y.ref := by
 obtain ⟨y1, y2, y3⟩ := en_some hy
 have yr1 : y.ref ≠ 1 := (h.ref y y1).1
 have yre : y.ref ≠ e.ref := fun z => by rw [z, hk] at hyk; cases hyk
 have hm : y ∈ EV u e left := mem_EV.2 ⟨y1, fun q => h.ne_dir he hk (q.1.symm.trans y2), fun _ => by rw [y3]; exact hl⟩
 have hs := EV_step (u := u) (e := e) left x
 have memS : ∀ z, z ∈ EV u e left ↔ z = y ∨ z ∈ EV u e (fun z => left z && !decide (z = x)) := fun z => by
  rw [hs, mem_less1]
  constructor
  ·intro hz
   by_cases q : z.dir = e.ref ∧ z.nam = x
   ·left
    exact key_inj h.key z (mem_EV.1 hz).1 y y1 (q.1.trans y2.symm) (q.2.trans y3.symm)
   ·exact .inr ⟨hz, q⟩
  ·rintro (rfl | ⟨hz, _⟩)
   ·exact hm
   ·exact hz
 have hlk : lks { uV u e left with E := less1 (uV u e left).E e.ref x } y.ref = (EV u e (fun z => left z && !decide (z = x))).countP (fun z => decide (z.ref = y.ref)) := by
  unfold lks cnt
  rw [if_neg yr1, hs]; rfl
 unfold leafD
 rw [hlk]
 by_cases hc : 0 < (EV u e (fun z => left z && !decide (z = x))).countP (fun z => decide (z.ref = y.ref))
 ·rw [if_pos hc]
  obtain ⟨z, z1, z2⟩ := List.countP_pos_iff.1 hc
  have z2 : z.ref = y.ref := by simpa using z2
  unfold uV
  simp only
  rw [← hs]
  have : LV u e (fun z => left z && !decide (z = x)) = LV u e left := by
   unfold LV
   apply List.filter_congr
   intro n _
   congr 1
   rw [Bool.eq_iff_iff, List.any_eq_true, List.any_eq_true]
   constructor
   ·rintro ⟨t, t1, t2⟩; exact ⟨t, (memS t).2 (.inr t1), t2⟩
   ·rintro ⟨t, t1, t2⟩
    rcases (memS t).1 t1 with rfl | t1
    ·exact ⟨z, z1, by rw [z2]; exact t2⟩
    ·exact ⟨t, t1, t2⟩
  rw [this]
 ·rw [if_neg hc]
  have hno : ∀ t ∈ EV u e (fun z => left z && !decide (z = x)), t.ref ≠ y.ref := fun t ht q => hc (List.countP_pos_iff.2 ⟨t, ht, by simpa using q⟩)
  unfold uV
  simp only
  rw [← hs]
  have : LV u e (fun z => left z && !decide (z = x)) = (LV u e left).filter (fun k => !decide (k.ino = y.ref)) := by
   unfold LV
   rw [List.filter_filter]
   apply List.filter_congr
   intro n _
   rw [Bool.eq_iff_iff]
   simp only [Bool.or_eq_true, Bool.and_eq_true, decide_eq_true_eq, List.any_eq_true, Bool.not_eq_true', decide_eq_false_iff_not]
   constructor
   ·rintro ((q | q) | ⟨t, t1, t2⟩)
    ·exact ⟨fun z => yr1 (z.symm.trans q), .inl (.inl q)⟩
    ·exact ⟨fun z => yre (z.symm.trans q), .inl (.inr q)⟩
    ·exact ⟨fun z => hno t t1 (t2.trans z), .inr ⟨t, (memS t).2 (.inr t1), t2⟩⟩
   ·rintro ⟨q0, (q | q) | ⟨t, t1, t2⟩⟩
    ·exact .inl (.inl q)
    ·exact .inl (.inr q)
    ·rcases (memS t).1 t1 with rfl | t1
     ·exact absurd t2.symm q0
     ·exact .inr ⟨t, t1, t2⟩
  rw [this]
theorem uV_end (h : Wf u) (he : e ∈ u.E) (hk : knd u e.ref = 1) {left : ByteArray → Bool} (hl : ∀ x, left x = false) : ({ uV u e left with L := (uV u e left).L.filter (fun k => !decide (k.ino = e.ref)) } : Us) = drop u e := by
 have hr1 := (h.ref e he).1
 obtain ⟨n, hn⟩ := h.ndr he
 obtain ⟨n1, n2⟩ := nd_some hn
 have only : ∀ x ∈ u.E, x.ref = e.ref → x = e := fun x hx q => h.one n n1 (by rw [knd_some hn] at hk; exact hk) x hx e he (q.trans n2.symm) n2.symm
 have hno : (less1 u.E e.dir e.nam).any (fun x => decide (x.ref = e.ref)) = false := by
  rw [List.any_eq_false]
  intro x hx q
  obtain ⟨x1, x2⟩ := mem_less1.1 hx
  have := only x x1 (by simpa using q)
  exact x2 (by rw [this]; exact ⟨rfl, rfl⟩)
 have e1 : EV u e left = (less1 u.E e.dir e.nam).filter (fun x => !decide (x.dir = e.ref)) := by
  unfold EV
  apply List.filter_congr
  intro x _
  rw [hl]; simp
 unfold drop
 rw [if_neg (by rw [hno]; simp)]
 unfold uV
 simp only
 rw [e1]
 have : (LV u e left).filter (fun k => !decide (k.ino = e.ref)) = u.L.filter (fun n => decide (n.ino = 1) || ((less1 u.E e.dir e.nam).filter (fun x => !decide (x.dir = e.ref))).any (fun x => decide (x.ref = n.ino))) := by
  unfold LV
  rw [List.filter_filter, e1]
  apply List.filter_congr
  intro k _
  by_cases q : k.ino = e.ref
  ·have q1 : decide (k.ino = 1) = false := by rw [q]; simpa using hr1
   have q2 : ((less1 u.E e.dir e.nam).filter (fun x => !decide (x.dir = e.ref))).any (fun x => decide (x.ref = k.ino)) = false := by
    rw [List.any_eq_false]
    intro x hx z
    rw [List.any_eq_false] at hno
    exact hno x (List.mem_filter.1 hx).1 (by rw [q] at z; exact z)
   rw [q1, q2]; simp [q]
  ·simp [q]
 rw [this]
theorem leaf_drop (h : Wf u) (he : e ∈ u.E) (hk : knd u e.ref ≠ 1) : leafD u e.dir e.nam e.ref = drop u e := by
 have hr1 := (h.ref e he).1
 have hlk : lks { u with E := less1 u.E e.dir e.nam } e.ref = (less1 u.E e.dir e.nam).countP (fun z => decide (z.ref = e.ref)) := by
  unfold lks cnt; rw [if_neg hr1]
 unfold leafD drop
 rw [hlk]
 by_cases hc : 0 < (less1 u.E e.dir e.nam).countP (fun z => decide (z.ref = e.ref))
 ·obtain ⟨z, z1, z2⟩ := List.countP_pos_iff.1 hc
  rw [if_pos hc, if_pos (List.any_eq_true.2 ⟨z, z1, z2⟩)]
 ·have hno : ¬ (less1 u.E e.dir e.nam).any (fun x => decide (x.ref = e.ref)) = true := fun q => by
   obtain ⟨z, z1, z2⟩ := List.any_eq_true.1 q
   exact hc (List.countP_pos_iff.2 ⟨z, z1, z2⟩)
  rw [if_neg hc, if_neg hno]
  have k0 := h.kin0 hk
  have e1 : (less1 u.E e.dir e.nam).filter (fun x => !decide (x.dir = e.ref)) = less1 u.E e.dir e.nam := filter_all (fun x hx => by
   unfold kin at k0
   rw [List.countP_eq_zero] at k0
   have := k0 x (mem_less1.1 hx).1
   simpa using this)
  rw [e1]
  congr 1
  apply List.filter_congr
  intro k hk
  by_cases q : k.ino = e.ref
  ·have q1 : decide (k.ino = 1) = false := by rw [q]; simpa using hr1
   have q2 : (less1 u.E e.dir e.nam).any (fun x => decide (x.ref = k.ino)) = false := by
    rw [q]; simpa using hno
   rw [q1, q2]; simp [q]
  ·have : decide (k.ino = 1) || (less1 u.E e.dir e.nam).any (fun x => decide (x.ref = k.ino)) := by
    by_cases q1 : k.ino = 1
    ·simp [q1]
    ·obtain ⟨x, x1, x2⟩ := h.has k hk q1
     rw [Bool.or_eq_true]
     right
     exact List.any_eq_true.2 ⟨x, mem_less1.2 ⟨x1, fun z => q (by rw [← key_inj h.key x x1 e he z.1 z.2]; exact x2.symm)⟩, by simpa using x2⟩
   rw [this]; simp [q]
end
end Upr
end Go.Proofs.YtbmeapehgajbkaaGreat
namespace Go.Proofs.YtbmeapehgajbkaaGreat
open Go.RowKit Go.Maps
open Nam Tre Tab
open Lz (g)
namespace Upr
section
variable {p : Nat} {c : Nat → Cl} {q : Int × Int × Int} {u : Us} {pr : Int → Int} {m : Nat} {nb eb : Int → Nat}
theorem fullB_white {u : Us} {r : Int} (h : fullB u r = false) : ∀ x ∈ u.E, x.dir = r → knd u x.ref = 4 := fun x hx hd => by
 unfold fullB at h
 rw [List.any_eq_false] at h
 have := h x hx
 simp only [Bool.and_eq_true, decide_eq_true_eq, Bool.not_eq_true', decide_eq_false_iff_not] at this
 exact Classical.byContradiction fun z => this ⟨hd, z⟩
theorem Wf.enm {u : Us} (h : Wf u) {x : En} (hx : x ∈ u.E) : x.nam.size ≤ maxLen := maxl (by have := valid_size (h.nam x hx); omega)
set_option maxRecDepth 100000 in
set_option maxHeartbeats 2000000 in
theorem udrop_any {w : World} (h : UB w p c q u (fun r => (lks u r : Int)) pr m nb eb) (hwf : Wf u) (hsm : Sm u) {d : Int} {s : ByteArray} {x : En} (hx : en u d s = some x) (hfu : fullB u x.ref = false) :
  Calls Tryz.prog 33 #[.pointer (some ⟨p, 0, none⟩), .pointer (some ⟨nb d, 0, none⟩), .string s] w fun e w' => e = .returned (.tuple #[]) ∧ UB w' p c q (drop u x) (fun r => (lks (drop u x) r : Int)) pr m nb eb ∧ Fr (fun k => c k ≠ .no) w w' := by
 obtain ⟨x1, x2, x3⟩ := en_some hx
 have hs : s.size ≤ maxLen := by rw [← x3]; exact hwf.enm x1
 obtain ⟨nD, hD, hkD⟩ := hwf.ndd x1
 rw [x2] at hD
 obtain ⟨n, hn⟩ := hwf.ndr x1
 have h1 := (hwf.ref x x1).1
 have hr : (Lit.int .i64 x.ref).wf = true := sm_ref hwf hsm hn
 by_cases hk : n.kind = 1
 ·have hkx : knd u x.ref = 1 := by rw [knd_some hn]; exact hk
  have hdr : x.dir ≠ x.ref := hwf.ne_dir x1 hkx
  have hwh := fullB_white hfu
  obtain ⟨_, _, vD, hvD⟩ := h.at hD
  have eD := hvD.e
  rw [if_pos hkD] at eD
  have l0 := (h.ents hD hkD).get Tryz.underlying71 (zeroI _) hs
  unfold enF at l0
  rw [hx] at l0
  simp only [Option.map_some, Option.getD_some] at l0
  obtain ⟨w2, r2, h2, f2, w3, hw3, h3, f3, s3, hG⟩ := drop_head h hD hkD hx hn h1 hs 0
  have c2 := h2.c2
  have hn2 : nd { u with E := less1 u.E d s } x.ref = some n := hn
  have l2 := h2.get hr hn2
  obtain ⟨_, _, v2, hv2⟩ := h2.at hn2
  have k10 := hv2.l
  have g10 := hv2.f 10
  obtain ⟨_, _, v3, hv3⟩ := h3.at hn2
  have j11 := hv3.e
  rw [if_pos hk] at j11
  have hone : lks u x.ref = 1 := by
   unfold lks cnt
   rw [if_neg h1]
   obtain ⟨n1, n2⟩ := nd_some hn
   have le := cnt_one (p := fun e : En => decide (e.ref = x.ref)) (hwf.key.imp_of_mem (fun {a b} ha hb hab q => by
    simp only [decide_eq_true_eq] at q
    have := hwf.one n n1 hk a ha b hb (q.1.trans n2.symm) (q.2.trans n2.symm)
    exact hab (by rw [this]; exact ⟨rfl, rfl⟩)))
   have pos : 0 < u.E.countP (fun e => decide (e.ref = x.ref)) := List.countP_pos_iff.2 ⟨x, x1, by simp⟩
   omega
  rw [hone] at k10 hw3
  have hw3' : w3 = w2.setCell ⟨nb x.ref, 10, none⟩ (.int .i64 0) := by rw [hw3]; rfl
  have e3 : w3.heap.size = w2.heap.size := by rw [hw3']; simp
  have hst : uV u x (fun y => (enF u x.ref y).isSome) = { u with E := less1 u.E d s } := by
   rw [← x2, ← x3]
   exact uV_start hwf x1 (fun y hy hd => by
    have := en_mem hwf.key hy
    rw [hd] at this
    unfold enF; rw [this]; rfl)
  have hfe : ∀ y, enF { u with E := less1 u.E d s } x.ref y = enF u x.ref y := fun y => by
   unfold enF
   rw [en_less, if_neg (fun z => hdr (x2.trans z.1.symm))]
  obtain ⟨w4, r4, hrg, hg4, hs4⟩ := (h3.ents hn2 hk).range Tryz.underlying71
  have b4 : Below w3.heap.size w3 w4 := (Below.refl _ _).grown hg4 (Nat.le_refl _) (fun k e => by cases e)
  have h4 := h3.below b4
  have hci : c w3.heap.size = .no := by
   by_cases e : c w3.heap.size = .no
   ·exact e
   ·have := h3.low _ e; omega
  have f4 : Fr (fun k => c k ≠ .no) w w4 := f3.then (Fr.of_below b4)
  have H0 : Hid (∃ (f : ByteArray → Option Value) (left : ByteArray → Bool) (cnt : Nat), RgS w4 (eb x.ref) w2.heap.size (kin { u with E := less1 u.E d s } x.ref) f left cnt ∧ (∀ y v, f y = some v → enF u x.ref y = some v) ∧ UB w4 p c q (uV u x left) (fun r => (lks (uV u x left) r : Int)) pr m nb eb ∧ Fr (fun k => c k ≠ .no) w w4) := by
   rw [e3] at hrg
   refine ⟨_, fun y => (enF u x.ref y).isSome, kin { u with E := less1 u.E d s } x.ref, ?_, fun y v hv => by rw [← hfe y]; exact hv, ?_, f4⟩
   ·have e : (fun y => (enF { u with E := less1 u.E d s } x.ref y).isSome) = (fun y => (enF u x.ref y).isSome) := by funext y; rw [hfe y]
    rw [← e]; exact hrg
   ·rw [hst]; exact h4
  rw [e3] at r4 hci
  have HC := hide hci
  have HS2 : Hid (w.heap.size ≤ w2.heap.size) := f2.size
  have HWf := hide hwf
  have HSm := hide hsm
  have HX := hide x1
  have HKx := hide hkx
  have HWh := hide hwh
  have HN := hide (And.intro hn hk)
  rw [hw3'] at r4 j11
  clear h h2 f2 h3 f3 hG hvD hD hkD hx hn hn2 hv2 hv3 hw3 hw3' hone hst hfe hrg hg4 hs4 b4 h4 hci f4 hwf hsm hkx hwh x1 x2 x3 e3 s3 hdr hfu
  go_enter Tryz.func33, Tryz.ntmps33
  go_wp2
  go_loopw [8] (fun _ wr => ∃ (f : ByteArray → Option Value) (left : ByteArray → Bool) (cnt : Nat), RgS wr (eb x.ref) w2.heap.size (kin { u with E := less1 u.E d s } x.ref) f left cnt ∧ (∀ y v, f y = some v → enF u x.ref y = some v) ∧ UB wr p c q (uV u x left) (fun r => (lks (uV u x left) r : Int)) pr m nb eb ∧ Fr (fun k => c k ≠ .no) w wr) (fun _ wr => wr.rangeLeft (eb x.ref) w2.heap.size)
  case atStart => exact H0.out
  case round =>
   obtain ⟨f, left, cnt, hrg, hfv, hub, hfr⟩ := hrel
   have HG := hide hrg
   have HV := hide hfv
   have HU := hide hub
   have HF := hide hfr
   clear hrg hfv hub hfr H0
   go_wp2_with (first
    | (at_next; refine wpList_next_s rfl _ rfl (eb x.ref) w2.heap.size _ _ _ _ rfl HG.out ?_ ?_)
    | go_in)
   ·intro hl
    have hnV := uV_nd HWf.out (e := x) (left := left) HN.out.1 (.inr (.inl rfl))
    obtain ⟨w7, r7, h7, f7, s7⟩ := HU.out.delN hnV hr 0
    have hc7 := HU.out.c2
    have HFin : Hid (UB w7 p c q (drop u x) (fun r => (lks (drop u x) r : Int)) pr m nb eb ∧ Fr (fun k => c k ≠ .no) w w7) := by
     refine ⟨?_, HF.out.trans f7 (fun k _ hk => by rw [hk]; intro e; cases e)⟩
     rw [← uV_end HWf.out HX.out HKx.out hl]
     exact h7
    clear h7 f7 s7 hl hnV
    go_wp2
    go_end0
    exact ⟨rfl, HFin.out⟩
   ·intro y vv w5 cnt2 hy hly hfy hrg2 hlt hg2 hs2 hen
    have f5 : Fr (fun k => k = w2.heap.size) wr w5 := Fr.of_grown hg2 (fun k e => by cases e; rfl)
    have hU5 := HU.out.fr f5 (fun k hk e => hk (by rw [e]; exact HC.out))
    have hF5 : Fr (fun k => c k ≠ .no) w w5 := HF.out.trans f5 (fun k hk e => by have := HS2.out; omega)
    have hen' : ∃ e', en u x.ref y = some e' := by
     have := HV.out y vv hfy
     unfold enF at this
     cases h : en u x.ref y with
     | none => rw [h] at this; cases this
     | some e' => exact ⟨e', rfl⟩
    obtain ⟨e', he'⟩ := hen'
    obtain ⟨e1, e2, e3⟩ := en_some he'
    have hw4 := HWh.out e' e1 e2
    obtain ⟨n2, hn2⟩ := HWf.out.ndr e1
    have hm' : e' ∈ EV u x left := mem_EV.2 ⟨e1, fun q => HWf.out.ne_dir HX.out HKx.out (q.1.symm.trans e2), fun _ => by rw [e3]; exact hly⟩
    have hLf := uleaf_any hU5 (uV_nd HWf.out (e := x) (left := left) HN.out.1 (.inr (.inl rfl))) HN.out.2 (uV_en HWf.out HX.out HKx.out hly he') (uV_nd HWf.out hn2 (.inr (.inr ⟨e', hm', rfl⟩))) (fun z => by rw [knd_some hn2] at hw4; rw [hw4] at z; cases z) (HWf.out.ref e' e1).1 hy (by
     have h1 : (EV u x left).length ≤ (less1 u.E x.dir x.nam).length := List.length_filter_le _ _
     have h2 : (less1 u.E x.dir x.nam).length ≤ u.E.length := List.length_filter_le _ _
     have := HSm.out.2.1
     show (EV u x left).length ≤ 100000
     omega) (sm_ref HWf.out HSm.out hn2)
    have est := uV_step HWf.out HX.out HKx.out hly he' hw4
    rw [← est] at hLf
    have HLf := hide hLf
    have HG5 := hide hrg2
    have HF5 := hide hF5
    have HLt : Hid (cnt2 < wr.rangeLeft (eb x.ref) w2.heap.size) := by show _ < _; rw [HG.out.left_eq]; exact hlt
    have HV5 := hide HV.out
    clear f5 hU5 hF5 hLf est hm' hrg2 hlt hg2 hs2 he' hn2 hw4 e1 e2 e3 hfy HV HU HF HG
    go_wp2_with fail
    refine HLf.out.mono ?_
    rintro e w6 ⟨rfl, k1, k2, k3⟩
    obtain ⟨cnt3, g6, hle⟩ := k3 _ _ _ _ _ HC.out HG5.out
    have el : (fun z => (left z && !decide (z = y)) && !decide (z = y)) = (fun z => left z && !decide (z = y)) := by
     funext z; cases left z <;> cases decide (z = y) <;> rfl
    rw [el] at g6
    have HR : Hid ((∃ (f : ByteArray → Option Value) (left : ByteArray → Bool) (cnt : Nat), RgS w6 (eb x.ref) w2.heap.size (kin { u with E := less1 u.E d s } x.ref) f left cnt ∧ (∀ y v, f y = some v → enF u x.ref y = some v) ∧ UB w6 p c q (uV u x left) (fun r => (lks (uV u x left) r : Int)) pr m nb eb ∧ Fr (fun k => c k ≠ .no) w w6) ∧ w6.rangeLeft (eb x.ref) w2.heap.size < wr.rangeLeft (eb x.ref) w2.heap.size) := by
     refine ⟨⟨_, _, cnt3, g6, fun z v hz => ?_, k1, HF5.out.then k2⟩, ?_⟩
     ·by_cases ez : z = y
      ·rw [if_pos ez] at hz; cases hz
      ·rw [if_neg ez] at hz; exact HV5.out z v hz
     ·rw [g6.left_eq]
      have := HLt.out
      omega
    clear k1 k2 k3 g6 el HLf HG5 HF5 HLt hle
    go_wp2
    exact HR.out
 ·have e1 : leafD u d s x.ref = drop u x := by
   have := leaf_drop hwf x1 (by rw [knd_some hn]; exact hk)
   rw [x2, x3] at this; exact this
  have := uleaf_any h hD hkD hx hn hk h1 hs hsm.2.1 hr
  rw [e1] at this
  refine this.mono ?_
  rintro e w' ⟨h1, h2, h3, _⟩
  exact ⟨h1, h2, h3⟩
end
theorem nd_filter {u : Us} {f : Nod → Bool} {E : List En} {nx : Int} (hi : (u.L.map Nod.ino).Nodup) {r : Int} {n : Nod} (h : nd ⟨u.L.filter f, E, nx⟩ r = some n) : nd u r = some n := by
 obtain ⟨h1, h2⟩ := nd_some h
 have := nd_mem (u := u) hi (List.mem_filter.1 h1).1
 rw [h2] at this; exact this
theorem drop_sub {u : Us} {x : En} (hi : (u.L.map Nod.ino).Nodup) : (∀ e ∈ (drop u x).E, e ∈ u.E) ∧ ∀ r n, nd (drop u x) r = some n → nd u r = some n := by
 unfold drop
 split
 ·exact ⟨fun e he => (mem_less1.1 he).1, fun r n h => h⟩
 ·exact ⟨fun e he => (mem_less1.1 (List.mem_filter.1 he).1).1, fun r n h => nd_filter hi h⟩
set_option maxRecDepth 100000 in
set_option maxHeartbeats 2000000 in
theorem uRemove_any {p : Nat} {c : Nat → Cl} {q : Int × Int} {u : Us} (d : Int) (s : ByteArray) (w : World) (h : Up w p c q u) (hsm : Sm u) (hd : (Lit.int .i64 d).wf = true) (hs : s.size ≤ maxLen) :
  Calls Tryz.prog 13 #[.pointer (some ⟨p, 0, none⟩), .int .i64 d, .string s] w fun e w' => e = .returned (.int .i64 (rm u d s).1) ∧ Up w' p c q (rm u d s).2 ∧ Fr (fun k => c k ≠ .no) w w' := by
 have HU := hide h
 obtain ⟨pr, m, nb, eb, hB, hwf, hpar⟩ := h
 have HD := hide (udir_any d w hd hB)
 have HSame : Hid (Up w p c q u ∧ Fr (fun k => c k ≠ .no) w w) := ⟨HU.out, Fr.refl _ _⟩
 by_cases hd0 : dirE u d = 0
 ·obtain ⟨n, hn, hk⟩ := dirE_zero.1 hd0
  have e0 : ptrD u nb d = some ⟨nb d, 0, none⟩ := by unfold ptrD; rw [if_pos hd0]
  rw [e0, hd0] at HD
  obtain ⟨_, _, v, hv⟩ := hB.at hn
  have e1 := hv.e
  rw [if_pos hk] at e1
  have l1 := (hB.ents hn hk).look Tryz.underlying71 (zeroI _) hs
  unfold enF at l1
  cases hx : en u d s with
  | none =>
   have e2 : rm u d s = (20, u) := by unfold rm; rw [if_neg (by rw [hd0]; simp), hx]
   rw [e2]
   rw [hx] at l1
   simp only [Option.map_none, Option.getD_none, Option.isSome_none] at l1
   clear hB hwf hpar hn hk e0 e2 hv hx hd0
   go_enter Tryz.func13, Tryz.ntmps13
   go_wp2_with (go_at_call 23; refine HD.out.mono ?_; rintro e w5 ⟨rfl, rfl⟩)
   go_ret
   exact ⟨rfl, HSame.out⟩
  | some x =>
   obtain ⟨x1, x2, x3⟩ := en_some hx
   obtain ⟨n2, hn2⟩ := hwf.ndr x1
   have hr := sm_ref hwf hsm hn2
   rw [hx] at l1
   simp only [Option.map_some, Option.getD_some, Option.isSome_some] at l1
   have c2 := hB.c2
   have l2 := hB.get hr hn2
   have HFu := hide (ufull_any x.ref w hB (fun e he => by obtain ⟨n, hn⟩ := hwf.ndr he; exact ⟨sm_ref hwf hsm hn, n, hn⟩) hn2 (fun hk => hwf.kin0 (by rw [knd_some hn2]; exact hk)))
   have hrm : rm u d s = if fullB u x.ref = true then (26, u) else (0, drop u x) := by
    unfold rm; rw [if_neg (by rw [hd0]; simp), hx]; rfl
   rw [hrm]
   have HUB := hide hB
   have HWf := hide hwf
   have HPar := hide hpar
   have HSm := hide hsm
   cases hfu : fullB u x.ref with
   | true =>
    rw [hfu] at HFu
    simp only [if_true]
    clear hB hwf hpar hn hk e0 hv hx hd0 hn2 hrm x1 x2 x3
    go_enter Tryz.func13, Tryz.ntmps13
    go_wp2_with (first
     | (go_at_call 23; refine HD.out.mono ?_; rintro e w5 ⟨rfl, rfl⟩)
     | (go_at_call 32; refine HFu.out.mono ?_; rintro e w6 ⟨rfl, hb6⟩))
    go_ret
    exact ⟨rfl, HU.out.below hb6, Fr.of_below hb6⟩
   | false =>
    rw [hfu] at HFu
    have HDr : Hid (∀ W, Below w.heap.size w W → Calls Tryz.prog 33 #[.pointer (some ⟨p, 0, none⟩), .pointer (some ⟨nb d, 0, none⟩), .string s] W fun e w' => e = .returned (.tuple #[]) ∧ Up w' p c q (drop u x) ∧ Fr (fun k => c k ≠ .no) w w') := fun W hW => by
     refine (udrop_any (HUB.out.below hW) HWf.out HSm.out hx hfu).mono ?_
     rintro e w' ⟨k1, k2, k3⟩
     have hdr : (rm u d s).2 = drop u x := by rw [hrm, hfu]; rfl
     have hsub := drop_sub (x := x) HWf.out.ino
     have hnx : (drop u x).nx = u.nx := by unfold drop; split <;> rfl
     refine ⟨k1, ⟨pr, m, nb, eb, by rw [hnx]; exact k2, by rw [← hdr]; exact rm_wf HWf.out d s, fun e he hk => ?_⟩, (Fr.of_below hW).then k3⟩
     refine HPar.out e (hsub.1 e he) ?_
     unfold knd at hk
     cases hz : nd (drop u x) e.ref with
     | none => rw [hz] at hk; cases hk
     | some n =>
      rw [hz] at hk
      rw [knd_some (hsub.2 _ _ hz)]
      exact hk
    simp only [Bool.false_eq_true, if_false]
    clear hB hwf hpar hn hk e0 hv hx hd0 hn2 hrm x1 x2 x3
    go_enter Tryz.func13, Tryz.ntmps13
    go_wp2_with (first
     | (go_at_call 23; refine HD.out.mono ?_; rintro e w5 ⟨rfl, rfl⟩)
     | (go_at_call 32; refine HFu.out.mono ?_; rintro e w6 ⟨rfl, hb6⟩; have HDr6 := hide (HDr.out _ hb6))
     | (go_at_call 33; refine HDr6.out.mono ?_; rintro e w7 ⟨rfl, hF⟩))
    go_ret
    exact ⟨rfl, hF⟩
 ·have e2 : rm u d s = (dirE u d, u) := by unfold rm; rw [if_pos hd0]
  have e0 : ptrD u nb d = none := by unfold ptrD; rw [if_neg hd0]
  rw [e2]
  rw [e0] at HD
  have k0 : (dirE u d == 0) = false := by simpa using hd0
  generalize dirE u d = ee at *
  clear hB hwf hpar e0 e2 hd0
  go_enter Tryz.func13, Tryz.ntmps13
  go_wp2_with (go_at_call 23; refine HD.out.mono ?_; rintro e w5 ⟨rfl, rfl⟩)
  go_ret
  exact ⟨rfl, HSame.out⟩
end Upr
end Go.Proofs.YtbmeapehgajbkaaGreat
namespace Go.Proofs.YtbmeapehgajbkaaGreat
open Go.RowKit Go.Maps
open Nam Tre Tab
open Lz (g)
namespace Upr
theorem step_mapUpdate {w w' : World} {ops : Array Oper} {o : Oper} {a : Act} {K : Act → World → Prop} {Q : Exit → Act → World → Prop} {E : Prop} (hgd : o.guard = none) (t : TypeId) (m k x : Operand) (ho : o.op = .mapUpdate t m k x)
  (vm vk vx : Value) (hm : a.eval m = vm) (hk : a.eval k = vk) (hx : a.eval x = vx) (hrun : (Instr.mapUpdate t vm vk vx).run Tryz.prog w = .ok () w') (h : K (a.put o.dst undef) w') : if Region.wanted o (yielded ops a.tmps) = true then Oper.wp Tryz.prog o a w K Q else E := by
 have hw : Region.wanted o (yielded ops a.tmps) = true := by simp [Region.wanted, hgd]
 rw [if_pos hw]
 unfold Oper.wp
 simp [execOp, ho, hm, hk, hx, hrun, Result.andThen]
 exact h
def colN (c : Nat → Cl) (lo b : Nat) (r : Int) (dir : Bool) (k : Nat) : Cl := if k = b then .nod r else if k = b + 1 ∧ dir = true then .ent r else if lo ≤ k ∧ k < b then .dat else c k
theorem colN_old {c : Nat → Cl} {lo b : Nat} {r : Int} {dir : Bool} {k : Nat} (h : k < lo) (hb : lo ≤ b) : colN c lo b r dir k = c k := by
 unfold colN
 rw [if_neg (by omega), if_neg (by omega), if_neg (by omega)]
theorem colN_dat {c : Nat → Cl} {lo b : Nat} {r : Int} {dir : Bool} {k : Nat} (h : newc lo b k = .dat) : colN c lo b r dir k = .dat := by
 obtain ⟨h1, h2⟩ := newc_dat.1 h
 unfold colN
 rw [if_neg (by omega), if_neg (by omega), if_pos ⟨h1, h2⟩]
theorem mk_fin {w4 w5 : World} {p : Nat} {c : Nat → Cl} {a1 a2 : Int} {u : Us} {pr : Int → Int} {m : Nat} {nb eb : Int → Nat} (h : UB w4 p c (a1, a2, u.nx) u (fun r => (lks u r : Int)) pr m nb eb) (hwf : Wf u) (hpar : ∀ e ∈ u.E, knd u e.ref = 1 → pr e.ref = e.dir) (hsm : Sm u)
  {d : Int} {s : ByteArray} {n : Nod} {b : Nat} {pv : Pv} (hf : frs u d s = 0) (hmy : mayU n = true) (hM : Made w4 w5 b n d pv) (hs : s.size ≤ maxLen) :
  ∃ w6, (Instr.mapUpdate 63 (.map (some m)) (.int .i64 u.nx) (.pointer (some ⟨b, 0, none⟩))).run Tryz.prog w5 = .ok () w6 ∧ (w6.cell? ⟨p, 2, none⟩ = some (.map (some m)) ∧ w6.cell? ⟨p, 3, none⟩ = some (.int .i64 u.nx) ∧ Fr (fun k => c k ≠ .no) w4 w6) ∧ w6.cell? ⟨nb d, 11, none⟩ = some (.map (some (eb d))) ∧
   ∃ w7, (Instr.mapUpdate 71 (.map (some (eb d))) (.string s) (.int .i64 u.nx)).run Tryz.prog w6.drew = .ok () w7 ∧ w7.cell? ⟨p, 3, none⟩ = some (.int .i64 u.nx) ∧
    ∃ c', Up w7 p c' (a1, a2) (mk u d s n).2 ∧ Fr (fun k => c k ≠ .no) w4 w7 ∧ Ext c c' w4 := by
 obtain ⟨⟨nD, hnD, hkD⟩, hvs, hen⟩ := frs_zero hf
 have hmk : (mk u d s n).2 = ⟨u.L ++ [{ n with names := [], opq := false, ino := u.nx }], u.E ++ [⟨d, s, u.nx⟩], u.nx + 1⟩ := by
  unfold mk; rw [if_neg (by rw [hf]; simp), if_neg (by rw [hmy]; simp)]
 have hdn : d ≠ u.nx := fun e => by rw [e, hwf.nxk] at hnD; cases hnD
 have hpos := hwf.pos
 have h5 := h.below hM.bel
 obtain ⟨c', hc'⟩ : ∃ c', c' = colN c w4.heap.size b u.nx (decide (n.kind = 1)) := ⟨_, rfl⟩
 have hold : ∀ k, k < w4.heap.size → c' k = c k := fun k hk => by rw [hc']; exact colN_old hk hM.lo
 have h5c : UB w5 p c' (a1, a2, u.nx) u (fun r => (lks u r : Int)) pr m nb eb := by
  refine h5.recol (fun k hk => hold k (h.low k hk)) (fun k hk => ?_)
  rw [hc'] at hk
  unfold colN at hk
  split at hk
  ·rename_i e; rw [e]; exact hM.hi
  ·split at hk
   ·rename_i e
    have hk1 : n.kind = 1 := by simpa using e.2
    rw [e.1]; exact (hM.mp hk1).lt
   ·split at hk
    ·rename_i e; have := hM.hi; omega
    ·have := h.low k hk; have := hM.bel.size; omega
 obtain ⟨w6, r6, h6, f6⟩ := h5c.addN (n := { n with names := [], opq := false, ino := u.nx }) (b := b) (e0 := b + 1) (v := pv) (d := d) rfl (mayU_set hmy _ _ _) hsm.1 (wf_i64 (by omega) (by have := hsm.2.2; omega)) (by omega) (by rw [hc']; unfold colN; rw [if_pos rfl])
  (by
   have := hM.nb.col (c' := c') (fun k hk => by rw [hc']; exact colN_dat hk)
   exact ⟨this.box, this.data, this.dcol, this.dc, this.dcm, this.dnil, this.xs, this.xc, this.xcm, this.xnil⟩)
  (fun hk => ⟨hM.mp hk, by rw [hc']; unfold colN; rw [if_neg (by omega), if_pos ⟨rfl, by simpa using hk⟩]⟩)
  (hwf.kin0 (by unfold knd; rw [hwf.nxk]; decide)) (fun y => hwf.nxe y)
 have ndu : ∀ x, x ≠ u.nx → nd ⟨u.L ++ [{ n with names := [], opq := false, ino := u.nx }], u.E, u.nx + 1⟩ x = nd u x := fun x hx => by
  unfold nd
  rw [List.find?_append, List.find?_cons_of_neg (by simpa using Ne.symm hx)]
  simp
 have hnD6 := (ndu d hdn).trans hnD
 have h6d : UB w6.drew p c' _ _ _ _ _ _ _ := h6.drewN 1
 obtain ⟨w7, r7, h7, f7⟩ := h6d.putE hnD6 hkD hen hs hsm.2.1 u.nx
 rw [if_neg hdn] at r7
 have low : ∀ k, k < w4.heap.size → ∀ x, c' k = x → x ≠ .no → c k ≠ .no := fun k hk x h1 h2 => by rw [← hold k hk, h1]; exact h2
 have fb : Fr (fun k => c k ≠ .no) w4 w6 := (Fr.of_below hM.bel).trans f6 (fun k hk hx => low k hk _ hx (by intro e; cases e))
 refine ⟨w6, r6, ⟨h6.c2, h6.c3, fb⟩, ?_, w7, r7, h7.c3, c', ?_, ?_, hold⟩
 ·obtain ⟨_, _, v, hv⟩ := h6.at hnD6
  have := hv.e
  rw [if_pos hkD, if_neg hdn, if_neg hdn] at this
  exact this
 ·rw [hmk]
  refine ⟨fun x => if x = u.nx then d else pr x, m, fun x => if x = u.nx then b else nb x, fun x => if x = u.nx then b + 1 else eb x, ?_, by rw [← hmk]; exact mk_wf hwf d s n, ?_⟩
  ·have e1 : (u.nx + 1 - 1 : Int) = u.nx := by omega
   show UB w7 p c' (a1, a2, u.nx + 1 - 1) _ _ _ m _ _
   rw [e1]
   refine h7.lks (fun x hx => ?_) (fun _ _ _ => rfl)
   show (if x.ino = u.nx then (1 : Int) else (lks u x.ino : Int)) = _
   have e := lks_snoc (u := u) d s u.nx x.ino (u.L ++ [{ n with names := [], opq := false, ino := u.nx }]) (u.nx + 1)
   show _ = ((lks (⟨u.L ++ [{ n with names := [], opq := false, ino := u.nx }], u.E ++ [⟨d, s, u.nx⟩], u.nx + 1⟩ : Us) x.ino : Nat) : Int)
   rw [e]
   by_cases ex : x.ino = u.nx
   ·rw [if_pos ex, if_pos ⟨by omega, ex⟩, ex, lks_nx hwf]; rfl
   ·rw [if_neg ex, if_neg (fun z => ex z.2)]
  ·intro e he hk
   show (if e.ref = u.nx then d else pr e.ref) = e.dir
   rcases List.mem_append.1 he with q | q
   ·have ne := hwf.nxr e q
    rw [if_neg ne]
    refine hpar e q ?_
    have : knd ⟨u.L ++ [{ n with names := [], opq := false, ino := u.nx }], u.E ++ [⟨d, s, u.nx⟩], u.nx + 1⟩ e.ref = knd u e.ref := by
     unfold knd
     rw [show nd ⟨u.L ++ [{ n with names := [], opq := false, ino := u.nx }], u.E ++ [⟨d, s, u.nx⟩], u.nx + 1⟩ e.ref = nd u e.ref from ndu e.ref ne]
    rw [this] at hk; exact hk
   ·rw [List.mem_singleton.1 q]
    show (if u.nx = u.nx then d else pr u.nx) = d
    rw [if_pos rfl]
 ·exact fb.trans ((show Fr _ w6.drew w7 from f7).undrew) (fun k hk hx => low k hk _ hx (by intro e; cases e))
set_option maxRecDepth 100000 in
set_option maxHeartbeats 2000000 in
theorem uMake_any {p : Nat} {c : Nat → Cl} {q : Int × Int} {u : Us} (d : Int) (s : ByteArray) (v : Nv) (n : Nod) (w : World) (h : Up w p c q u) (hsm : Sm u) (hr : (Lit.int .i64 d).wf = true) (hs : s.size ≤ maxLen) (hv : ∀ W, Fr (fun k => c k ≠ .no) w W → Rep W v n) :
  Calls Tryz.prog 9 #[.pointer (some ⟨p, 0, none⟩), .int .i64 d, .string s, .agg v.cells] w fun e w' => e = .returned (.tuple #[.int .i64 (mk u d s n).1.1, .int .i64 (mk u d s n).1.2]) ∧ ∃ c', Up w' p c' q (mk u d s n).2 ∧ Fr (fun k => c k ≠ .no) w w' ∧ Ext c c' w := by
 have HU := hide h
 obtain ⟨pr, m, nb, eb, hB, hwf, hpar⟩ := h
 obtain ⟨Vc, hVc⟩ : ∃ Vc, Vc = v.cells := ⟨_, rfl⟩
 rw [← hVc]
 have HVc := hide hVc
 obtain ⟨w1, hw1⟩ : ∃ w1, w1 = w.alloc (.cells Vc 44) := ⟨_, rfl⟩
 have b1 : Below w.heap.size w w1 := by rw [hw1]; exact below_one _ _
 have hbx : w1.heap[w.heap.size]? = some (.cells Vc 44 (0, 0)) := by rw [hw1]; exact heap_new rfl
 have hB1 := hB.below b1
 have HPl := hide (uplace_any d s w1 hB1 hr hs)
 have HB1 := hide b1
 have HBx : Hid (∀ wX, Below w1.heap.size w1 wX → wX.heap[w.heap.size]? = some (.cells Vc 44 (0, 0))) := fun wX hX => (hX.block _ (heap_lt hbx)).trans hbx
 have HUB := hide hB1
 have HWf := hide hwf
 have HPar := hide hpar
 have HSm := hide hsm
 have HRp := hide hv
 have hnx : u.nx ≤ 100000 := hsm.2.2
 have hnp := hwf.pos
 have HVs : Hid (Vc.size = 10) := by show _ = _; rw [hVc]; rfl
 clear hB hwf hpar hB1 b1 hbx hsm hv hVc
 by_cases hf : frs u d s = 0
 ·have e0 : ptrD u nb d = some ⟨nb d, 0, none⟩ := by
   unfold ptrD; rw [if_pos]
   have := frs_zero hf
   exact dirE_zero.2 this.1
  rw [hf, e0] at HPl
  have HF := hide hf
  clear e0
  by_cases hm : mayU n = true
  ·have e1 : (mk u d s n).1 = (u.nx, 0) := by unfold mk; rw [if_neg (by rw [hf]; simp), if_neg (by rw [hm]; simp)]
   rw [e1]
   have HM := hide hm
   subst hw1
   clear hf hm e1
   go_enter Tryz.func9, Tryz.ntmps9
   go_wp2_with fail
   refine HPl.out.mono ?_
   rintro e w2 ⟨rfl, hb2⟩
   have HX2 := hide (HBx.out w2 hb2)
   have HB2 := hide hb2
   have HMy := hide (umay_any v n w2 (HRp.out w2 (Fr.of_below (HB1.out.trans (hb2.mono HB1.out.size)))))
   rw [← HVc.out, HM.out] at HMy
   clear hb2 HPl
   go_wp2_with (first
    | (refine wpList_load_row rfl _ _ rfl w.heap.size rfl 44 Vc (0, 0) _ HX2.out Tryz.underlying44 rfl (by rw [HVs.out]; exact uinfoNode) ?_))
   refine HMy.out.mono ?_
   rintro e w3 ⟨rfl, hb3⟩
   have HB3 := hide (HB2.out.trans (hb3.mono HB2.out.size))
   have h3 := HUB.out.below HB3.out
   obtain ⟨h4, f4⟩ := h3.last u.nx
   have HX3 := hide (HBx.out w3 HB3.out)
   have c3 := h3.c3
   have g3 := h3.f3 3
   have HU4 := hide h4
   have HF4 := hide f4
   have i1 : IntKind.i64.wrap (u.nx - 1 + 1) = u.nx := by rw [IntKind.wrap_i64]; omega
   have HX4 : Hid ((w3.setCell ⟨p, 3, none⟩ (.int .i64 u.nx)).heap[w.heap.size]? = some (.cells Vc 44 (0, 0))) := (f4.block _ (heap_lt HX3.out) (fun hx => by have := HU.out.low _ (by rw [hx]; intro e; cases e); omega)).trans HX3.out
   clear hb3 h3 h4 f4 HMy HX2
   go_wp2_with fail
   obtain ⟨w4, hw4⟩ : ∃ w4, w4 = w3.setCell ⟨p, 3, none⟩ (.int .i64 u.nx) := ⟨_, rfl⟩
   rw [← hw4] at HU4 HF4 HX4 ⊢
   have HF40 : Hid (Fr (fun k => c k ≠ .no) w w4) := (Fr.of_below (HB1.out.trans (HB3.out.mono HB1.out.size))).trans HF4.out (fun k _ hk => by rw [hk]; intro e; cases e)
   have HMd : Hid (∀ W, Below w4.heap.size w4 W → Calls Tryz.prog 27 #[.agg v.cells, .int .i64 d] W fun e w' => ∃ b pv, e = .returned (.pointer (some ⟨b, 0, none⟩)) ∧ Made W w' b n d pv) := fun W hW => by
    obtain ⟨m1, m2, m3, m4, _⟩ := may_small HM.out
    exact umade_any v n d W (HRp.out W (HF40.out.then (Fr.of_below hW))) ⟨by omega, by omega, fun x hx => by have := (m4 x hx).2; omega⟩
   rw [← HVc.out] at HMd
   have HCs : Hid (∀ W, Below w4.heap.size w4 W → W.cell? ⟨p, 2, none⟩ = some (.map (some m)) ∧ W.cell? ⟨p, 3, none⟩ = some (.int .i64 u.nx) ∧ W.heap[w.heap.size]? = some (.cells Vc 44 (0, 0))) := fun W hW => by
    have := HU4.out.below hW
    exact ⟨this.c2, this.c3, (hW.block _ (heap_lt HX4.out)).trans HX4.out⟩
   clear hw4 c3 g3
   refine wp_region_held_drew (S := fun wX => wX.cell? ⟨p, 2, none⟩ = some (.map (some m)) ∧ wX.cell? ⟨p, 3, none⟩ = some (.int .i64 u.nx) ∧ wX.heap[w.heap.size]? = some (.cells Vc 44 (0, 0))) (by kernel_rfl) (HCs.out _ (below_drewN (Below.refl _ _) 1)) (fun hHeld => ?_)
   refine wpAnyH_take (i := 0) (oi := ⟨some 32, _, _, _, _, _⟩) (v := ?_) rfl (by kernel_rfl) (by kernel_rfl) (by kernel_rfl) (fun _ _ _ h => h) (Or.inl ⟨by rfl, ?_⟩) (by assumption) ?_
   rotate_left
   ·(intro wS hSw; go_simp; try with_reducible rfl)
   try simp only [Act.put, List.setIfInBounds_toArray, List.set_cons_zero, List.set_cons_succ]
   refine wpAnyH_take (i := 1) (oi := ⟨some 33, _, _, _, _, _⟩) (v := ?_) rfl (by kernel_rfl) (by kernel_rfl) (by kernel_rfl) (fun _ _ _ h => h) (Or.inl ⟨by rfl, ?_⟩) (by assumption) ?_
   rotate_left
   ·(intro wS hSw; go_simp; try with_reducible rfl)
   try simp only [Act.put, List.setIfInBounds_toArray, List.set_cons_zero, List.set_cons_succ]
   refine wpAnyH_take (i := 2) (oi := ⟨some 34, _, _, _, _, _⟩) (v := ?_) rfl (by kernel_rfl) (by kernel_rfl) (by kernel_rfl) (fun _ _ _ h => h) (Or.inl ⟨by rfl, ?_⟩) (by assumption) ?_
   rotate_left
   ·(intro wS hSw; go_simp; try with_reducible rfl)
   try simp only [Act.put, List.setIfInBounds_toArray, List.set_cons_zero, List.set_cons_succ]
   refine wpAnyH_take (i := 3) (oi := ⟨some 35, _, _, _, _, _⟩) (v := ?_) rfl (by kernel_rfl) (by kernel_rfl) (by kernel_rfl) (fun _ _ _ h => h) (Or.inl ⟨by rfl, ?_⟩) (by assumption) ?_
   rotate_left
   ·(intro wS hSw; obtain ⟨q2, q3, q4⟩ := hSw; go_simp; try with_reducible rfl)
   try simp only [Act.put, List.setIfInBounds_toArray, List.set_cons_zero, List.set_cons_succ]
   refine wpAnyH_take (i := 4) (oi := ⟨some 36, _, _, _, _, _⟩) (v := ?_) rfl (by kernel_rfl) (by kernel_rfl) (by kernel_rfl) (fun _ _ _ h => h) (Or.inl ⟨by rfl, ?_⟩) (by assumption) ?_
   rotate_left
   ·(intro wS hSw; go_simp; try with_reducible rfl)
   try simp only [Act.put, List.setIfInBounds_toArray, List.set_cons_zero, List.set_cons_succ]
   refine wpAnyH_take (i := 5) (oi := ⟨some 37, _, _, _, _, _⟩) (v := ?_) rfl (by kernel_rfl) (by kernel_rfl) (by kernel_rfl) (fun _ _ _ h => h) (Or.inl ⟨by rfl, ?_⟩) (by assumption) ?_
   rotate_left
   ·(intro wS hSw; go_simp; try with_reducible rfl)
   try simp only [Act.put, List.setIfInBounds_toArray, List.set_cons_zero, List.set_cons_succ]
   refine wpAnyH_take (i := 6) (oi := ⟨some 38, _, _, _, _, _⟩) (v := ?_) rfl (by kernel_rfl) (by kernel_rfl) (by kernel_rfl) (fun _ _ _ h => h) (Or.inl ⟨by rfl, ?_⟩) (by assumption) ?_
   rotate_left
   ·(intro wS hSw; go_simp; try with_reducible rfl)
   try simp only [Act.put, List.setIfInBounds_toArray, List.set_cons_zero, List.set_cons_succ]
   refine wpAnyH_take (i := 7) (oi := ⟨some 39, _, _, _, _, _⟩) (v := ?_) rfl (by kernel_rfl) (by kernel_rfl) (by kernel_rfl) (fun _ _ _ h => h) (Or.inl ⟨by rfl, ?_⟩) (by assumption) ?_
   rotate_left
   ·(intro wS hSw; obtain ⟨q2, q3, q4⟩ := hSw; go_simp; try with_reducible rfl)
   try simp only [Act.put, List.setIfInBounds_toArray, List.set_cons_zero, List.set_cons_succ]
   refine wpAnyH_take (i := 8) (oi := ⟨some 40, _, _, _, _, _⟩) (v := .agg Vc) rfl (by kernel_rfl) (by kernel_rfl) (by kernel_rfl) (fun _ _ _ h => h) (yieldsIf_load_row (by rfl) _ _ rfl w.heap.size rfl Vc (fun w' h' => uload_nod h'.2.2 HVs.out)) (by assumption) ?_
   try simp only [Act.put, List.setIfInBounds_toArray, List.set_cons_zero, List.set_cons_succ]
   refine wpAnyH_take (i := 9) (oi := ⟨some 41, _, _, _, _, _⟩) (v := ?_) rfl (by kernel_rfl) (by kernel_rfl) (by kernel_rfl) (fun _ _ _ h => h) (Or.inl ⟨by rfl, ?_⟩) (by assumption) ?_
   rotate_left
   ·(intro wS hSw; go_simp; try with_reducible rfl)
   try simp only [Act.put, List.setIfInBounds_toArray, List.set_cons_zero, List.set_cons_succ]
   refine wpAnyH_ready (rs := [10]) (by kernel_rfl) (by simp) ?_
   refine AllReadyH.cons (o := ⟨some 42, _, _, _, _, _⟩) rfl (fun K hK => ?_) AllReadyH.nil
   go_simp
   refine (HMd.out _ (below_drewN (Below.refl _ _) 1)).mono ?_
   rintro r w5 ⟨b, pv, rfl, hM⟩
   have hM5 : Made w4 w5 b n d pv := ⟨hM.lo, hM.hi, ⟨hM.bel.os, hM.bel.tape, hM.bel.output, hM.bel.size, hM.bel.block⟩, hM.nb, hM.mp⟩
   have HB5 := hide hM5.bel
   have HFi := hide (mk_fin HU4.out HWf.out HPar.out HSm.out HF.out HM.out hM5 hs)
   refine hK.out _ _ (HCs.out _ HB5.out) (fun hHeld => ?_)
   clear hM hM5
   clear hK K
   try simp only [Act.put, List.setIfInBounds_toArray, List.set_cons_zero, List.set_cons_succ]
   obtain ⟨w6, r6, p6, e6, w7, r7, p7, hfin⟩ := HFi.out
   have HR6 := hide r6
   have HP6 := hide p6
   have HX6 : Hid (w6.heap[w.heap.size]? = some (.cells Vc 44 (0, 0))) := (HP6.out.2.2.block _ (heap_lt HX4.out) (fun hx => by have := HU.out.low _ hx; omega)).trans HX4.out
   have HFin := hide hfin
   clear r6 HFi p6 hfin
   refine wpAnyH_switch (S' := fun wX => wX = w6) (fun wX h => by rw [h]; exact ⟨HP6.out.1, HP6.out.2.1, HX6.out⟩) _ _ _ _ ?_
   refine wpAnyH_ready (rs := [11]) (by kernel_rfl) (by simp) ?_
   refine AllReadyH.cons (o := ⟨none, _, _, _, _, _⟩) rfl (fun K hK => ?_) AllReadyH.nil
   refine step_mapUpdate (by rfl) 63 (.tmp 35) (.tmp 39) (.tmp 42) (by rfl) (.map (some m)) (.int .i64 u.nx) (.pointer (some ⟨b, 0, none⟩)) (by rfl) (by rfl) (by rfl) HR6.out ?_
   refine hK.out _ _ rfl (fun hHeld => ?_)
   clear hK K
   simp only [Act.put]
   refine wpAnyH_done (by kernel_rfl) ?_ _
   clear hHeld HR6 HX6 HB5 HMd HCs HX4
   have p6 := HP6.out.2.1
   go_wp2_with fail
   go_region
   go_wp2
   go_ret2
   obtain ⟨c', k1, k2, k3⟩ := HFin.out
   exact ⟨rfl, c', k1, HF40.out.then k2, fun k hk => k3 k (Nat.lt_of_lt_of_le hk HF40.out.size)⟩
  ·have e1 : (mk u d s n) = ((0, 1), u) := by unfold mk; rw [if_neg (by rw [hf]; simp), if_pos (by simpa using hm)]
   rw [e1]
   have hm' : mayU n = false := by simpa using hm
   have HM := hide hm'
   subst hw1
   clear hf hm hm' e1
   go_enter Tryz.func9, Tryz.ntmps9
   go_wp2_with fail
   refine HPl.out.mono ?_
   rintro e w2 ⟨rfl, hb2⟩
   have HX2 := hide (HBx.out w2 hb2)
   have HB2 := hide hb2
   have HMy := hide (umay_any v n w2 (HRp.out w2 (Fr.of_below (HB1.out.trans (hb2.mono HB1.out.size)))))
   rw [← HVc.out, HM.out] at HMy
   clear hb2 HPl
   go_wp2_with (first
    | (refine wpList_load_row rfl _ _ rfl w.heap.size rfl 44 Vc (0, 0) _ HX2.out Tryz.underlying44 rfl (by rw [HVs.out]; exact uinfoNode) ?_))
   refine HMy.out.mono ?_
   rintro e w3 ⟨rfl, hb3⟩
   have HB3 := hide (HB1.out.trans ((HB2.out.trans (hb3.mono HB2.out.size)).mono HB1.out.size))
   clear hb3 HMy HX2
   go_wp2
   go_ret2
   exact ⟨rfl, c, HU.out.below HB3.out, Fr.of_below HB3.out, Ext.refl _ _⟩
 ·have e1 : (mk u d s n) = ((0, frs u d s), u) := by unfold mk; rw [if_pos hf]
  rw [e1]
  have k0 : (frs u d s == 0) = false := by simpa using hf
  subst hw1
  generalize frs u d s = ee at *
  clear hf e1
  go_enter Tryz.func9, Tryz.ntmps9
  go_wp2_with fail
  refine HPl.out.mono ?_
  rintro e w2 ⟨rfl, hb2⟩
  have HB2 := hide (HB1.out.trans (hb2.mono HB1.out.size))
  clear hb2 HPl
  go_wp2
  go_ret2
  exact ⟨rfl, c, HU.out.below HB2.out, Fr.of_below HB2.out, Ext.refl _ _⟩
end Upr
end Go.Proofs.YtbmeapehgajbkaaGreat
namespace Go.Proofs.YtbmeapehgajbkaaGreat
open Go.RowKit Go.Maps
open Nam Tre Tab
open Lz (g)
namespace Upr
def v0 : Nv := { nv0 with kind := 1, mode := 493 }
def n0 : Nod := ⟨[], 0, 1, 493, 0, 0, [], ⟨#[]⟩, [], false⟩
theorem rep0 (w : World) : Rep w v0 n0 :=
 ⟨Rs.nil _ _, Nat.le_refl _, by simp [v0, nv0], fun _ => rfl, rfl, by simp [v0, nv0]; decide, rfl, rfl, rfl, rfl, (New.none _).bs, Nat.le_refl _, by simp [v0, nv0], fun _ => rfl, rfl, by show (0 : Nat) ≤ _; omega, XsR.nil _ _, Nat.le_refl _, by simp [v0, nv0], fun _ => rfl, rfl⟩
theorem new_fin {w1 w2 : World} {b : Nat} {pv : Pv} (hM : Made w1 w2 b n0 1 pv) (a1 a2 : Int) :
  ∃ w4, (Instr.mapUpdate 63 (.map (some w2.heap.size)) (.int .i64 1) (.pointer (some ⟨b, 0, none⟩))).run Tryz.prog (w2.alloc (.map #[] 0)) = .ok () w4 ∧ Below w2.heap.size w2 w4 ∧ w2.heap.size < w4.heap.size ∧
   ∃ c, Up (w4.alloc (.cells #[.int .i64 a1, .int .i64 a2, .map (some w2.heap.size), .int .i64 1] 65)) w4.heap.size c (a1, a2) u0 ∧ ∀ k, k < w1.heap.size → c k = .no := by
 obtain ⟨w4, r4, m4, g4⟩ := (MpI.new w2).store Tryz.underlying63 (x := 1) (wf_i64 (by decide) (by decide)) (by decide) (.pointer (some ⟨b, 0, none⟩))
 have b4 : Below w2.heap.size w2 w4 := (below_one w2 _).grown g4 (by simp) (fun k e => by cases e; exact Nat.le_refl _)
 have s4 : w2.heap.size < w4.heap.size := by have := g4.size; simp at this; omega
 obtain ⟨W, hW⟩ : ∃ W, W = w4.alloc (.cells #[.int .i64 a1, .int .i64 a2, .map (some w2.heap.size), .int .i64 1] 65) := ⟨_, rfl⟩
 have bW : Below w4.heap.size w4 W := by rw [hW]; exact below_one _ _
 have b2W : Below w2.heap.size w2 W := b4.trans (bW.mono b4.size)
 have hmp := hM.mp rfl
 have hb1 := hmp.lt
 have hlo := hM.lo
 have hhi := hM.hi
 have sW : W.heap.size = w4.heap.size + 1 := by rw [hW]; simp
 obtain ⟨c, hc⟩ : ∃ c : Nat → Cl, c = fun k => if k = w4.heap.size then .up else if k = w2.heap.size then .nds else colN (fun _ => .no) w1.heap.size b 1 true k := ⟨_, rfl⟩
 have cN : ∀ k, k < w2.heap.size → c k = colN (fun _ => .no) w1.heap.size b 1 true k := fun k hk => by rw [hc]; show (if _ then _ else _) = _; rw [if_neg (by omega), if_neg (by omega)]
 have hb : c b = .nod 1 := by rw [cN b hhi]; unfold colN; rw [if_pos rfl]
 have he : c (b + 1) = .ent 1 := by rw [cN _ hb1]; unfold colN; rw [if_neg (by omega), if_pos ⟨rfl, rfl⟩]
 refine ⟨w4, r4, b4, s4, c, ?_⟩
 rw [← hW]
 refine ⟨⟨fun _ => 1, w2.heap.size, fun _ => b, fun _ => b + 1, ?_, u0_wf, fun e he => by simp [u0] at he⟩, fun k hk => ?_⟩
 ·refine ⟨by rw [hW]; exact heap_new rfl, by rw [hc]; show (if _ then _ else _) = _; rw [if_pos rfl], by rw [hc]; show (if _ then _ else _) = _; rw [if_neg (by omega), if_pos rfl], ?_, ?_, ?_, ?_, ?_, ?_, u0_wf.ino, u0_wf.rng, u0_wf.key, u0_wf.may⟩
  ·refine (show MpI w4 _ 1 _ from m4).same (bW.block _ (by omega)) |>.of (fun x => ?_)
   unfold ndF nd u0
   by_cases e : x = 1
   ·subst e; rfl
   ·rw [if_neg e, List.find?_cons_of_neg (by simpa using Ne.symm e)]; rfl
  ·intro n hn
   obtain rfl := List.mem_singleton.1 hn
   refine ⟨pv, ?_⟩
   have h1 := hM.nb.fr (S := fun _ => False) (Fr.of_below b2W) (fun h => h) (fun _ _ h => h)
   have h2 := h1.col (c' := c) (fun k hk => by
    have := (newc_dat.1 hk)
    rw [cN k (by omega)]
    exact colN_dat hk)
   exact ⟨h2.box, h2.data, h2.dcol, h2.dc, h2.dcm, h2.dnil, h2.xs, h2.xc, h2.xcm, h2.xnil⟩
  ·intro n hn
   obtain rfl := List.mem_singleton.1 hn
   exact hb
  ·intro n hn _
   obtain rfl := List.mem_singleton.1 hn
   exact (hmp.same (b2W.block _ hb1)).of (fun x => by unfold enF en u0; rfl)
  ·intro n hn _
   obtain rfl := List.mem_singleton.1 hn
   exact he
  ·intro k hk
   rw [hc] at hk
   simp only at hk
   split at hk
   ·omega
   ·split at hk
    ·omega
    ·unfold colN at hk
     split at hk
     ·omega
     ·split at hk
      ·omega
      ·split at hk
       ·omega
       ·exact absurd rfl hk
 ·have := hM.bel.size
  rw [cN k (by omega)]
  exact colN_old hk hlo
set_option maxRecDepth 100000 in
set_option maxHeartbeats 1000000 in
theorem uNew_any (a1 a2 : Int) (w : World) :
  Calls Tryz.prog 14 #[.agg #[.int .i64 a1, .int .i64 a2]] w fun e w' => ∃ p c, e = .returned (.pointer (some ⟨p, 0, none⟩)) ∧ Up w' p c (a1, a2) u0 ∧ Below w.heap.size w w' ∧ ∀ k, k < w.heap.size → c k = .no := by
 obtain ⟨w1, hw1⟩ : ∃ w1, w1 = w.alloc (.cells #[.int .i64 a1, .int .i64 a2] 30) := ⟨_, rfl⟩
 have b1 : Below w.heap.size w w1 := by rw [hw1]; exact below_one _ _
 have hbx : w1.heap[w.heap.size]? = some (.cells #[.int .i64 a1, .int .i64 a2] 30 (0, 0)) := by rw [hw1]; exact heap_new rfl
 have HM := hide (umade_any v0 n0 1 w1 (rep0 _) ⟨by decide, by decide, fun x hx => by simp [n0] at hx⟩)
 have HBx : Hid (∀ wX, Below w1.heap.size w1 wX → wX.cell? ⟨w.heap.size, 0, none⟩ = some (.int .i64 a1) ∧ wX.cell? ⟨w.heap.size, 1, none⟩ = some (.int .i64 a2)) := fun wX hX => by
  have := (hX.block _ (heap_lt hbx)).trans hbx
  simp [World.cell?, this]
 have HB1 := hide b1
 have mkm : ∀ w' : World, (Instr.makeMap 63 none).run Tryz.prog w' = .ok (.map (some w'.heap.size)) (w'.alloc (.map #[] 0)) := fun w' => by simp [Instr.makeMap, Result.andThen]
 clear b1 hbx
 subst hw1
 go_enter Tryz.func14, Tryz.ntmps14
 go_wp2_with fail
 refine HM.out.mono ?_
 rintro e w2 ⟨b, pv, rfl, hM⟩
 obtain ⟨y0, y1⟩ := HBx.out w2 hM.bel
 obtain ⟨w4, r4, b4, s4, c, hup, hno⟩ := new_fin hM a1 a2
 have HF : Hid (Up (w4.alloc (.cells #[.int .i64 a1, .int .i64 a2, .map (some w2.heap.size), .int .i64 1] 65)) w4.heap.size c (a1, a2) u0 ∧ Below w.heap.size w (w4.alloc (.cells #[.int .i64 a1, .int .i64 a2, .map (some w2.heap.size), .int .i64 1] 65)) ∧ ∀ k, k < w.heap.size → c k = .no) := by
  have h2 := HB1.out.trans (hM.bel.mono HB1.out.size)
  have h4 := h2.trans (b4.mono h2.size)
  exact ⟨hup, h4.trans ((below_one w4 _).mono h4.size), fun k hk => hno k (Nat.lt_of_lt_of_le hk HB1.out.size)⟩
 clear hM b4 s4 hup hno HBx HM
 go_wp2
 go_ret
 exact ⟨_, c, rfl, HF.out⟩
end Upr
end Go.Proofs.YtbmeapehgajbkaaGreat
namespace Go.Proofs.YtbmeapehgajbkaaGreat
open Go.RowKit Go.Maps
open Nam Tre Tab
open Lz (g)
namespace Upr
structure LS (W0 w : World) (p : Nat) (c : Nat → Cl) (q : Int × Int) (u : Us) (B : List (Nat × Array Value × TypeId)) : Prop where
 up : Up w p c q u
 bel : Below W0.heap.size W0 w
 col : ∀ k, k < W0.heap.size → c k = .no
 box : ∀ x ∈ B, w.heap[x.1]? = some (.cells x.2.1 x.2.2 (0, 0)) ∧ c x.1 = .no ∧ W0.heap.size ≤ x.1
section
variable {W0 w w' : World} {p : Nat} {c c' : Nat → Cl} {q : Int × Int} {u u' : Us} {B : List (Nat × Array Value × TypeId)}
theorem LS.step (h : LS W0 w p c q u B) (hup : Up w' p c' q u') (hf : Fr (fun k => c k ≠ .no) w w') (he : Ext c c' w) : LS W0 w' p c' q u' B := by
 have hs := h.bel.size
 refine ⟨hup, h.bel.trans (hf.below _ hs (fun k hk => ?_)), fun k hk => by rw [he k (by omega)]; exact h.col k hk, fun x hx => ?_⟩
 ·by_cases e : k < W0.heap.size
  ·exact absurd (h.col k e) hk
  ·omega
 ·obtain ⟨h1, h2, h3⟩ := h.box x hx
  exact ⟨(hf.block _ (heap_lt h1) (fun z => z h2)).trans h1, by rw [he _ (heap_lt h1)]; exact h2, h3⟩
theorem LS.below (h : LS W0 w p c q u B) (hb : Below w.heap.size w w') : LS W0 w' p c q u B := h.step (h.up.below hb) (Fr.of_below hb) (Ext.refl _ _)
theorem LS.free (h : LS W0 w p c q u B) {k : Nat} (hk : w.heap.size ≤ k) : c k = .no := by
 by_cases e : c k = .no
 ·exact e
 ·have := h.up.low k e; omega
theorem LS.alloc (h : LS W0 w p c q u B) (cs : Array Value) (t : TypeId) : LS W0 (w.alloc (.cells cs t)) p c q u ((w.heap.size, cs, t) :: B) := by
 have hb := h.below (below_one w (.cells cs t))
 refine ⟨hb.up, hb.bel, hb.col, fun x hx => ?_⟩
 rcases List.mem_cons.1 hx with rfl | hx
 ·exact ⟨heap_new rfl, h.free (Nat.le_refl _), h.bel.size⟩
 ·exact hb.box x hx
theorem LS.at (h : LS W0 w p c q u B) {b : Nat} {cs : Array Value} {t : TypeId} (hx : (b, cs, t) ∈ B) : w.heap[b]? = some (.cells cs t (0, 0)) := (h.box _ hx).1
theorem LS.drop (h : LS W0 w p c q u B) {B' : List (Nat × Array Value × TypeId)} (hs : ∀ x ∈ B', x ∈ B) : LS W0 w p c q u B' := ⟨h.up, h.bel, h.col, fun x hx => h.box x (hs x hx)⟩
end
section
variable {w : World} {p : Nat} {c : Nat → Cl} {q : Int × Int} {u : Us}
theorem Up.refs (h : Up w p c q u) (hs : Sm u) : ∀ e ∈ u.E, (Lit.int .i64 e.ref).wf = true ∧ ∃ n, nd u e.ref = some n := fun e he => by
 obtain ⟨n, hn⟩ := h.wf.ndr he
 exact ⟨sm_ref h.wf hs hn, n, hn⟩
theorem Up.lookC (d : Int) (s : ByteArray) (h : Up w p c q u) (hr : (Lit.int .i64 d).wf = true) (hn : s.size ≤ maxLen) (hs : Sm u) :
  Calls Tryz.prog 8 #[.pointer (some ⟨p, 0, none⟩), .int .i64 d, .string s] w fun e w' => e = .returned (.tuple #[.agg #[.string (lookV u d s).1.1, .int .i64 (lookV u d s).1.2.1, .int .i64 (lookV u d s).1.2.2], .int .i64 (lookV u d s).2]) ∧ Below w.heap.size w w' := by
 have hrf := h.refs hs
 obtain ⟨pr, m, nb, eb, h1, _⟩ := h
 exact uLook_any d s w hr hn h1 hrf
theorem Up.read (r off k : Int) (h : Up w p c q u) (hr : (Lit.int .i64 r).wf = true) (ho : In64 off) (hk : In64 k) :
  Calls Tryz.prog 10 #[.pointer (some ⟨p, 0, none⟩), .int .i64 r, .int .i64 off, .int .i64 k] w fun e w' => ∃ ao c', e = .returned (.tuple #[.slice ao (rdB u r off k).length c', .int .i64 (rdE u r off k)]) ∧ New w w' ao (rdB u r off k).length c' (rdB u r off k) := by
 obtain ⟨pr, m, nb, eb, h1, _⟩ := h
 exact uRead_any r off k w hr ho hk h1
theorem Up.xattrs (r : Int) (h : Up w p c q u) (hr : (Lit.int .i64 r).wf = true) :
  Calls Tryz.prog 11 #[.pointer (some ⟨p, 0, none⟩), .int .i64 r] w fun e w' => ∃ ao' c', e = .returned (.tuple #[.slice ao' (xaV u r).length c', .int .i64 (statE u r)]) ∧ NewX w w' ao' (xaV u r).length c' (xaV u r) := by
 obtain ⟨pr, m, nb, eb, h1, _⟩ := h
 exact uXattrs_any r w hr h1
end
def vF (da : Option Addr) (dn dc : Nat) : Nv := { nv0 with kind := 2, da := da, dn := dn, dc := dc }
def nF (zs : List Int) : Nod := ⟨[], 0, 2, 0, 0, 0, zs, ⟨#[]⟩, [], false⟩
theorem rep_file {w : World} {da : Option Addr} {dn dc : Nat} {zs : List Int} (hb : Bs w da dn zs) (hc : dn ≤ dc) (hm : dc ≤ 9223372036854775807) (hn : da = none → dc = 0) : Rep w (vF da dn dc) (nF zs) :=
 ⟨Rs.nil _ _, Nat.le_refl _, by simp [vF, nv0], fun _ => rfl, rfl, by simp [vF, nv0]; decide, rfl, rfl, rfl, rfl, hb, hc, hm, hn, rfl, by show (0 : Nat) ≤ _; omega, XsR.nil _ _, Nat.le_refl _, by simp [vF, nv0], fun _ => rfl, rfl⟩
theorem may_file {zs : List Int} (h : zs.length ≤ 4096) : mayU (nF zs) = true := mayU_data (n := nF []) (by simp [nF, mayU, may, kdOk, attrOk, xsOk, xs1]) rfl h
end Upr
end Go.Proofs.YtbmeapehgajbkaaGreat
namespace Go.Proofs.YtbmeapehgajbkaaGreat
open Go.RowKit Go.Maps
open Nam Tre Mrg Brn Upr
namespace Brn
structure Fs where
 u : Us
 R : Int → Option Int
 way : List Int
def lst (n : Nod) : ByteArray := gs n.names (n.names.length - 1)
def putU (s : Fs) (n : Nod) : Int × Us :=
 if n.names.length = 0 then (1, (sx (sa s.u 1 n.mode n.uid n.gid).2 1 n.xs).2)
 else match s.R n.ino with
  | some r => (r, (ln s.u (Lz.g s.way (n.names.length - 1)) (lst n) r).2)
  | none => ((mk s.u (Lz.g s.way (n.names.length - 1)) (lst n) n).1.1, (mk s.u (Lz.g s.way (n.names.length - 1)) (lst n) n).2)
def putF (s : Fs) (n : Nod) : Fs :=
 ⟨if n.opq = true then (so (putU s n).2 (putU s n).1 true).2 else (putU s n).2, fun x => if x = n.ino then some (putU s n).1 else s.R x, s.way.take n.names.length ++ [(putU s n).1]⟩
end Brn
theorem own_fr {S : Nat → Prop} {w w' : World} {B : Nat} {e : TypeId} {size n : Nat} {v : Value} {xs : List Value} (h : w.ownsRow B e size v n xs) (hf : Fr S w w') (hs : ∀ g, v.ownBlock = some g → ¬ S g) : w'.ownsRow B e size v n xs := by
 refine ⟨h.1, ?_⟩
 rcases h.2 with h0 | ⟨g, cap, cur, hv, hb, hh, h1⟩
 ·exact .inl h0
 ·exact .inr ⟨g, cap, cur, hv, hb, (hf.block _ (heap_lt hh) (hs g (by rw [hv]; rfl))).trans hh, h1⟩
section
variable {W0 w w' : World} {p fb mb : Nat} {B : List (Nat × Array Value)} {c c' : Nat → Cl} {u u' : Us}
def RM (w : World) (mb k : Nat) (R : Int → Option Int) : Prop := ∃ sz f, sz ≤ k ∧ MpV 3 w mb sz f ∧ ∀ x : Int, f (.int .i64 x) = (R x).map (fun r => .int .i64 r)
structure FP (W0 w : World) (p fb mb : Nat) (B : List (Nat × Array Value)) (c : Nat → Cl) (k : Nat) (s : Fs) : Prop where
 up : Up w p c (0, 0) s.u
 bel : Below W0.heap.size W0 w
 col : ∀ k, k < W0.heap.size → c k = .no
 fbo : c fb = .no ∧ W0.heap.size ≤ fb
 mbo : c mb = .no ∧ W0.heap.size ≤ mb
 map : RM w mb k s.R
 keep : ∀ x ∈ B, w.heap[x.1]? = some (.cells x.2 44 (0, 0)) ∧ c x.1 = .no
 row : ∃ a n cc, w.heap[fb]? = some (.cells #[.pointer (some ⟨p, 0, none⟩), .map (some mb), .slice a n cc] 58 (0, 0)) ∧ w.ownsRow W0.heap.size 3 1 (.slice a n cc) n (s.way.map (fun x => .int .i64 x)) ∧ ∀ g, (Value.slice a n cc).ownBlock = some g → c g = .no
theorem FP.call {k : Nat} {s : Fs} (h : FP W0 w p fb mb B c k s) (hup : Up w' p c' (0, 0) u') (hf : Fr (fun k => c k ≠ .no) w w') (he : Ext c c' w) : FP W0 w' p fb mb B c' k { s with u := u' } := by
 have hs := h.bel.size
 obtain ⟨a, n, cc, r1, r2, r3⟩ := h.row
 obtain ⟨sz, f, m1, m2, m3⟩ := h.map
 refine ⟨hup, h.bel.trans (hf.below _ hs (fun k hk => ?_)), fun k hk => by rw [he k (by omega)]; exact h.col k hk, ⟨by rw [he _ (heap_lt r1)]; exact h.fbo.1, h.fbo.2⟩, ⟨by rw [he _ m2.lt]; exact h.mbo.1, h.mbo.2⟩, ⟨sz, f, m1, m2.same (hf.block _ m2.lt (fun z => z h.mbo.1)), m3⟩, fun x hx => ⟨(hf.block _ (heap_lt (h.keep x hx).1) (fun z => z (h.keep x hx).2)).trans (h.keep x hx).1, by rw [he _ (heap_lt (h.keep x hx).1)]; exact (h.keep x hx).2⟩, a, n, cc, (hf.block _ (heap_lt r1) (fun z => z h.fbo.1)).trans r1, ?_, fun g hg => by rw [he _ (r2.lt g hg).2]; exact r3 g hg⟩
 ·by_cases e : k < W0.heap.size
  ·exact absurd (h.col k e) hk
  ·omega
 ·exact own_fr r2 hf (fun g hg hx => hx (r3 g hg))
theorem FP.drop {k : Nat} {s : Fs} (h : FP W0 w p fb mb B c k s) {B' : List (Nat × Array Value)} (hs : ∀ x ∈ B', x ∈ B) : FP W0 w p fb mb B' c k s := ⟨h.up, h.bel, h.col, h.fbo, h.mbo, h.map, fun x hx => h.keep x (hs x hx), h.row⟩
theorem FP.below {k : Nat} {s : Fs} (h : FP W0 w p fb mb B c k s) (hb : Below w.heap.size w w') : FP W0 w' p fb mb B c k s := h.call (h.up.below hb) (Fr.of_below hb) (Ext.refl _ _)
theorem FP.box {k : Nat} {s : Fs} (h : FP W0 w p fb mb B c k s) (cs : Array Value) : FP W0 (w.alloc (.cells cs 44)) p fb mb ((w.heap.size, cs) :: B) c k s := by
 have h1 := h.below (below_one w (.cells cs 44))
 refine ⟨h1.up, h1.bel, h1.col, h1.fbo, h1.mbo, h1.map, fun x hx => ?_, h1.row⟩
 rcases List.mem_cons.1 hx with rfl | hx
 ·refine ⟨heap_new rfl, ?_⟩
  by_cases e : c w.heap.size = .no
  ·exact e
  ·have := h.up.low _ e; omega
 ·exact h1.keep x hx
theorem FP.cells {k : Nat} {s : Fs} (h : FP W0 w p fb mb B c k s) : ∃ a n cc, w.cell? ⟨fb, 0, none⟩ = some (.pointer (some ⟨p, 0, none⟩)) ∧ w.cell? ⟨fb, 1, none⟩ = some (.map (some mb)) ∧ w.cell? ⟨fb, 2, none⟩ = some (.slice a n cc) ∧ (∀ j, w.frozen? ⟨fb, j, none⟩ = false) ∧ w.ownsRow W0.heap.size 3 1 (.slice a n cc) n (s.way.map (fun x => .int .i64 x)) := by
 obtain ⟨a, n, cc, r1, r2, _⟩ := h.row
 exact ⟨a, n, cc, by simp [World.cell?, r1], by simp [World.cell?, r1], by simp [World.cell?, r1], fun j => by simp [World.frozen?, r1], r2⟩
end
theorem brw1 : (Lit.int .i64 1).wf = true := by decide
theorem uRoot_any (v : Value) (w : World) : Calls Tryz.prog 71 #[v] w fun e w' => e = .returned (.int .i64 1) ∧ w' = w := by
 go_enter Tryz.func71, Tryz.ntmps71
 go_wp2
 go_ret
 exact ⟨rfl, rfl⟩
set_option maxRecDepth 100000 in
set_option maxHeartbeats 2000000 in
theorem root_any {W0 w : World} {p fb mb k : Nat} {B : List (Nat × Array Value)} {c : Nat → Cl} {s : Fs} (v : Nv) (n : Nod) (h : FP W0 w p fb mb B c k s) (hr : Rep W0 v n) :
  Calls Tryz.prog 41 #[.pointer (some ⟨fb, 0, none⟩), .agg v.cells] w fun e w' => e = .returned (.int .i64 1) ∧ ∃ c', FP W0 w' p fb mb B c' k { s with u := (sx (sa s.u 1 n.mode n.uid n.gid).2 1 n.xs).2 } := by
 have hb0 := h.bel
 obtain ⟨w1, hw1⟩ : ∃ w1, w1 = w.alloc (.cells v.cells 44) := ⟨_, rfl⟩
 have hb1 : Below w.heap.size w w1 := by rw [hw1]; exact below_one _ _
 have hP1 := h.below hb1
 have hbx : w1.heap[w.heap.size]? = some (.cells v.cells 44 (0, 0)) := by rw [hw1]; exact heap_new rfl
 have hcw : c w.heap.size = .no := by
  by_cases e : c w.heap.size = .no
  ·exact e
  ·have := h.up.low _ e; omega
 obtain ⟨a, m, cc, f0, f1, f2, _, _⟩ := hP1.cells
 obtain ⟨c0, c1, c2, c3, c4, c5, c6, c7, c8, c9, _⟩ := nbox hbx
 have HSa : Hid (∀ W, Below w1.heap.size w1 W → Calls Tryz.prog 72 #[.pointer (some ⟨p, 0, none⟩), .int .i64 1, .agg #[.int .i64 v.mode, .int .i64 v.uid, .int .i64 v.gid]] W fun e w2 => e = .returned (.int .i64 (sa s.u 1 v.mode v.uid v.gid).1) ∧ ∃ c2, FP W0 w2 p fb mb B c2 k { s with u := (sa s.u 1 v.mode v.uid v.gid).2 } ∧ c2 w.heap.size = .no ∧ w2.heap[w.heap.size]? = some (.cells v.cells 44 (0, 0))) := fun W hW => by
  have hPW := hP1.below hW
  have hbW := (hW.block _ (heap_lt hbx)).trans hbx
  refine (uSetAttr_any 1 v.mode v.uid v.gid W hPW.up brw1).mono ?_
  rintro e w2 ⟨rfl, c2, h1, h2, h3⟩
  exact ⟨rfl, c2, hPW.call h1 h2 h3, (h3 _ (heap_lt hbW)).trans hcw, (h2.block _ (heap_lt hbW) (fun z => z hcw)).trans hbW⟩
 rw [hr.mode, hr.uid, hr.gid]
 have HR := hide hr
 clear hb0 hP1 hbx h hr
 rw [hw1] at f0 f1 f2 c0 c1 c2 c3 c4 c5 c6 c7 c8 c9 HSa
 clear hw1 hb1
 unfold Nv.cells at *
 go_enter Tryz.func41, Tryz.ntmps41
 go_wp2_with (go_at_call 71; refine (uRoot_any _ _).mono ?_; rintro e wx ⟨rfl, rfl⟩)
 go_region_held3 (fun wX => wX.cell? ⟨fb, 0, none⟩ = some (.pointer (some ⟨p, 0, none⟩)) ∧ wX.cell? ⟨w.heap.size, 3, none⟩ = some (.int .i64 v.mode) ∧ wX.cell? ⟨w.heap.size, 4, none⟩ = some (.int .i64 v.uid) ∧ wX.cell? ⟨w.heap.size, 5, none⟩ = some (.int .i64 v.gid)) (go_keep)
  ((go_at_call 72; refine (HSa.out _ (by first | exact Below.refl _ _ | exact below_drewN (Below.refl _ _) 1)).mono ?_; rintro e w2 ⟨rfl, c2, hP2, hcw2, hbx2⟩; have HCw2 := hide hcw2; have HP2 := hide hP2; have HX2 := hide hbx2; obtain ⟨a2, m2, cc2, g0, g1, g2, _, _⟩ := hP2.cells; obtain ⟨d0, d1, d2, d3, d4, d5, d6, d7, d8, d9, _⟩ := nbox (v := v) hbx2; clear hP2 hbx2 hcw2))
 all_goals
  go_wp2
  go_region_held3 (fun wX => wX.cell? ⟨fb, 0, none⟩ = some (.pointer (some ⟨p, 0, none⟩)) ∧ wX.cell? ⟨w.heap.size, 8, none⟩ = some (.slice v.xa v.xn v.xc)) (go_keep)
   ((go_at_call 73; have HPd := hide (HP2.out.below (below_drewN (Below.refl _ _) 1)); have HXd : Hid (w2.drew.heap[w.heap.size]? = some (.cells v.cells 44 (0, 0))) := HX2.out; have HCd := HCw2; refine (uSetXattrs_any 1 _ _ _ n.xs _ HPd.out.up brw1 ((HR.out.below HPd.out.bel).xs) HR.out.xc HR.out.xcm HR.out.xnil).mono ?_; rintro e w3 ⟨rfl, c3, h1, h2, h3⟩; have HP3 := hide (HPd.out.call h1 h2 h3); obtain ⟨a3, m3, cc3, i0, i1, i2, _, _⟩ := HP3.out.cells; have hx3 := (h2.block _ (heap_lt HXd.out) (fun z => z (HCd.out))).trans HXd.out; obtain ⟨j0, j1, j2, j3, j4, j5, j6, j7, j8, j9, _⟩ := nbox (v := v) hx3; clear h1 h2 h3 hx3))
  all_goals
   go_wp2
   go_ret
   exact ⟨rfl, _, HP3.out⟩
theorem zeroInt' (w : World) : (zeroValue 3).run Tryz.prog w = .ok (.int .i64 0) w := by kernel_rfl
theorem FP.look {W0 w : World} {p fb mb k : Nat} {B : List (Nat × Array Value)} {c : Nat → Cl} {s : Fs} (h : FP W0 w p fb mb B c k s) {x : Int} (hx : (Lit.int .i64 x).wf = true) :
  (Instr.lookup 55 (.map (some mb)) (.int .i64 x) true).run Tryz.prog w = .ok (.tuple #[.int .i64 ((s.R x).getD 0), .bool (s.R x).isSome]) w := by
 obtain ⟨sz, f, _, m2, m3⟩ := h.map
 have := m2.look (int_keyed Tryz.underlying3) Tryz.underlying55 (zeroInt' w) (keyOf_int_mk Tryz.underlying3 hx) (show WideAt.IsKeyLit (.int .i64 x) from trivial)
 rw [this, m3 x]
 cases s.R x with
 | none => rfl
 | some r => rfl
theorem FP.wayAt {W0 w : World} {p fb mb k : Nat} {B : List (Nat × Array Value)} {c : Nat → Cl} {s : Fs} (h : FP W0 w p fb mb B c k s) {j : Nat} (hj : j < s.way.length) : ∃ g cc, w.cell? ⟨fb, 2, none⟩ = some (.slice (some ⟨g, 0, none⟩) s.way.length cc) ∧ w.cell? ⟨g, j, none⟩ = some (.int .i64 (Lz.g s.way j)) ∧ g < w.heap.size ∧ c g = .no := by
 obtain ⟨a, n, cc, r1, ho, r3⟩ := h.row
 have hl : n = s.way.length := by have := ho.1; simpa using this.symm
 subst hl
 obtain ⟨g, cap, e⟩ := ho.form (by omega)
 have e1 := e.1
 obtain ⟨rfl, rfl⟩ : a = some ⟨g, 0, none⟩ ∧ cc = cap := by simpa using e1
 refine ⟨g, cc, by simp [World.cell?, r1], ?_, (ho.lt g rfl).2, r3 g rfl⟩
 rw [ho.cellAt j (by omega)]
 simp [Lz.g, hj]
theorem FP.putR {W0 w : World} {p fb mb k : Nat} {B : List (Nat × Array Value)} {c : Nat → Cl} {s : Fs} (h : FP W0 w p fb mb B c k s) (hk : k ≤ 100000) {x : Int} (hx : (Lit.int .i64 x).wf = true) (r : Int) :
  ∃ w', (Instr.mapUpdate 55 (.map (some mb)) (.int .i64 x) (.int .i64 r)).run Tryz.prog w = .ok () w' ∧ FP W0 w' p fb mb B c (k + 1) { s with R := fun y => if y = x then some r else s.R y } ∧ ∀ b i, b < w.heap.size → b ≠ mb → w'.cell? ⟨b, i, none⟩ = w.cell? ⟨b, i, none⟩ := by
 obtain ⟨sz, f, m1, m2, m3⟩ := h.map
 obtain ⟨w', hr, hm, hg⟩ := m2.store (int_keyed Tryz.underlying3) Tryz.underlying55 (keyOf_int_mk Tryz.underlying3 hx) (show WideAt.IsKeyLit (.int .i64 x) from trivial) (by omega) (.int .i64 r)
 have hf : Fr (fun i => i = mb) w w' := Fr.of_grown hg (fun i hi => by cases hi; rfl)
 have hmb := h.mbo
 obtain ⟨a, n, cc, r1, r2, r3⟩ := h.row
 have hfm : fb ≠ mb := m2.ne r1
 refine ⟨w', hr, ⟨h.up.fr hf (fun i hi e => hi (by rw [show i = mb from e]; exact hmb.1)), h.bel.trans (hf.below _ h.bel.size (fun i hi => by rw [show i = mb from hi]; exact hmb.2)), h.col, h.fbo, hmb, ⟨_, _, ?_, hm, fun y => ?_⟩, fun x hx => ⟨(hf.block _ (heap_lt (h.keep x hx).1) (m2.ne (h.keep x hx).1)).trans (h.keep x hx).1, (h.keep x hx).2⟩, a, n, cc, (hf.block _ (heap_lt r1) hfm).trans r1, ?_, r3⟩, fun b i hb hne => hf.cell (q := ⟨b, i, none⟩) hb hne⟩
 ·split <;> omega
 ·unfold updV
  change _ = Option.map _ (if y = x then some r else s.R y)
  by_cases e : y = x
  ·subst e; rw [if_pos rfl, if_pos rfl]; rfl
  ·rw [if_neg (fun h => e (by injection h)), if_neg e, m3 y]
 ·refine own_fr r2 hf (fun g hg e => ?_)
  obtain ⟨cur, hc⟩ := owns_obj r2 hg
  rw [show g = mb from e] at hc
  exact m2.ne hc rfl
theorem own_take {w : World} {B : Nat} {e : TypeId} {n cc d : Nat} {a : Option Addr} {xs : List Value} (h : w.ownsRow B e 1 (.slice a n cc) n xs) (hd : d ≤ n) : w.ownsRow B e 1 (.slice a d cc) d (xs.take d) := by
 have hl : xs.length = n := by have := h.1; omega
 refine ⟨by rw [List.length_take]; omega, ?_⟩
 rcases h.2 with ⟨h0, h1⟩ | ⟨g, cap, cur, hv, hb, hh, h1, h2, h3, h4⟩
 ·subst h1
  obtain ⟨rfl, rfl⟩ : a = none ∧ cc = 0 := by simpa using h0
  obtain rfl : d = 0 := by omega
  exact .inl ⟨rfl, by simp⟩
 ·obtain ⟨rfl, rfl⟩ : a = some ⟨g, 0, none⟩ ∧ cc = cap := by simpa using hv
  exact .inr ⟨g, cc, cur, rfl, hb, hh, by omega, h2, h3, by rw [← h4, List.take_take]; congr 1; omega⟩
theorem FP.putW {W0 w w2 : World} {p fb mb k d : Nat} {B : List (Nat × Array Value)} {c : Nat → Cl} {s : Fs} (h : FP W0 w p fb mb B c k s) {a : Option Addr} {n cc g cap : Nat} (hrow : w.heap[fb]? = some (.cells #[.pointer (some ⟨p, 0, none⟩), .map (some mb), .slice a n cc] 58 (0, 0))) (r : Int)
  (ho : w2.ownsRow W0.heap.size 3 1 (.slice (some ⟨g, 0, none⟩) (d + 1) cap) (d + 1) ((s.way.take d ++ [r]).map (fun x => .int .i64 x))) (hg : w.grownBy w2 (Value.slice a d cc).ownBlock) (hgg : (Value.slice a d cc).ownBlock = some g ∨ g = w.heap.size) :
  FP W0 (w2.setCell ⟨fb, 2, none⟩ (.slice (some ⟨g, 0, none⟩) (d + 1) cap)) p fb mb B c k { s with way := s.way.take d ++ [r] } := by
 obtain ⟨a', n', cc', r1, r2, r3⟩ := h.row
 obtain ⟨rfl, rfl, rfl⟩ : a = a' ∧ n = n' ∧ cc = cc' := by
  rw [hrow] at r1; simpa using r1
 have hob : ∀ x, (Value.slice a d cc).ownBlock = some x → (Value.slice a n cc).ownBlock = some x := fun x hx => by
  cases a with
  | none => simp [Value.ownBlock] at hx
  | some ad => simpa [Value.ownBlock] using hx
 have hold : ∀ x, (Value.slice a d cc).ownBlock = some x → c x = .no ∧ W0.heap.size ≤ x := fun x hx => ⟨r3 x (hob x hx), (r2.lt x (hob x hx)).1⟩
 have hcg : c g = .no := by
  rcases hgg with e | e
  ·exact (hold g e).1
  ·by_cases q : c g = .no
   ·exact q
   ·have := h.up.low g q; omega
 have hf : Fr (fun i => (Value.slice a d cc).ownBlock = some i ∨ i = fb) w (w2.setCell ⟨fb, 2, none⟩ (.slice (some ⟨g, 0, none⟩) (d + 1) cap)) :=
  (Fr.of_grown (S := fun i => (Value.slice a d cc).ownBlock = some i ∨ i = fb) hg (fun i hi => .inl hi)).set (p := ⟨fb, 2, none⟩) _ (fun _ => .inr rfl)
 have hno : ∀ i, ((Value.slice a d cc).ownBlock = some i ∨ i = fb) → c i = .no ∧ W0.heap.size ≤ i := fun i hi => by
  rcases hi with hi | rfl
  ·exact hold i hi
  ·exact h.fbo
 obtain ⟨sz, f, m1, m2, m3⟩ := h.map
 have hmf : ¬ ((Value.slice a d cc).ownBlock = some mb ∨ mb = fb) := by
  rintro (e | e)
  ·obtain ⟨cur, hc⟩ := owns_obj r2 (hob _ e)
   exact m2.ne hc rfl
  ·exact m2.ne r1 e.symm
 have hif : ∀ x ∈ B, ¬ ((Value.slice a d cc).ownBlock = some x.1 ∨ x.1 = fb) := fun x hx => by
  have hkx := (h.keep x hx).1
  rintro (e | e)
  ·obtain ⟨cur, hc⟩ := owns_obj r2 (hob _ e)
   rw [hkx] at hc
   injection hc with hc
   injection hc with _ hc _
   exact absurd hc (by decide)
  ·have h1 := hkx
   rw [e, r1] at h1
   injection h1 with h1
   injection h1 with _ h1 _
   exact absurd h1 (by decide)
 have hgfb : g ≠ fb := by
  rcases hgg with e | e
  ·obtain ⟨cur, hc⟩ := owns_obj r2 (hob _ e)
   intro e2
   rw [e2, r1] at hc
   injection hc with hc
   injection hc with _ hc _
   exact absurd hc (by decide)
  ·have := heap_lt r1; omega
 have hfb2 : w2.heap[fb]? = some (.cells #[.pointer (some ⟨p, 0, none⟩), .map (some mb), .slice a n cc] 58 (0, 0)) := by
  refine (hg.block fb (heap_lt r1) (fun e => ?_)).trans r1
  obtain ⟨cur, hc⟩ := owns_obj r2 (hob _ e.symm)
  rw [r1] at hc
  injection hc with hc
  injection hc with _ hc _
  exact absurd hc (by decide)
 refine ⟨h.up.fr hf (fun i hi e => hi (hno i e).1), h.bel.trans (hf.below _ h.bel.size (fun i hi => (hno i hi).2)), h.col, h.fbo, h.mbo, ⟨sz, f, m1, m2.same (hf.block _ m2.lt hmf), m3⟩, fun x hx => ⟨(hf.block _ (heap_lt (h.keep x hx).1) (hif x hx)).trans (h.keep x hx).1, (h.keep x hx).2⟩, _, _, _, (heap_setCell_self hfb2 _).trans rfl, ?_, fun x hx => by cases hx; exact hcg⟩
 exact own_fr ho ((Fr.refl (fun i => i = fb) w2).set (p := ⟨fb, 2, none⟩) _ (fun _ => rfl)) (fun x hx e => by cases hx; exact hgfb e)
end Go.Proofs.YtbmeapehgajbkaaGreat
namespace Go.Proofs.YtbmeapehgajbkaaGreat
open Go.RowKit Go.Maps
open Nam Tre Tab
open Lz (g)
namespace Upr
theorem w1 : (Lit.int .i64 1).wf = true := by decide
end Upr
end Go.Proofs.YtbmeapehgajbkaaGreat
namespace Go.Proofs.YtbmeapehgajbkaaGreat
open Go.RowKit Go.Maps
open Nam Tre Tab
open Lz (g)
namespace Upr
theorem wrap_wrap (a b : Int) : wrap64 (wrap64 a + b) = wrap64 (a + b) := by
 unfold wrap64; omega
theorem wrap_wrap2 (a b : Int) : wrap64 (a + wrap64 b) = wrap64 (a + b) := by
 rw [Int.add_comm, wrap_wrap, Int.add_comm]
def csX (xs : List (ByteArray × List Int)) : Nat := (xs.map (fun x => x.1.size + x.2.length)).sum
theorem csX_succ (xs : List (ByteArray × List Int)) (i : Nat) (h : i < xs.length) : csX (xs.take (i + 1)) = csX (xs.take i) + ((gx xs i).1.size + (gx xs i).2.length) := by
 unfold csX
 rw [List.take_succ_eq_append_getElem h, List.map_append, List.sum_append, gx_lt _ _ h]
 simp
def csE (r : Int) (left : ByteArray → Bool) : List En → Nat
 | [] => 0
 | y :: E => (if y.dir = r ∧ left y.nam = false then y.nam.size else 0) + csE r left E
theorem csE_all {r : Int} {left : ByteArray → Bool} : ∀ (E : List En), (∀ y ∈ E, y.dir = r → left y.nam = true) → csE r left E = 0
 | [], _ => rfl
 | y :: E, h => by
  unfold csE
  rw [csE_all E (fun z hz => h z (by simp [hz])), if_neg]
  rintro ⟨h1, h2⟩
  rw [h y (by simp) h1] at h2; cases h2
theorem csE_none {r : Int} {left : ByteArray → Bool} : ∀ (E : List En), (∀ y ∈ E, y.dir ≠ r) → csE r left E = 0
 | [], _ => rfl
 | y :: E, h => by
  unfold csE
  rw [csE_none E (fun z hz => h z (by simp [hz])), if_neg (fun q => h y (by simp) q.1)]
theorem csE_same {r : Int} {x : ByteArray} {left : ByteArray → Bool} : ∀ (E : List En), (∀ y ∈ E, ¬ (y.dir = r ∧ y.nam = x)) → csE r (fun z => left z && !decide (z = x)) E = csE r left E
 | [], _ => rfl
 | y :: E, h => by
  unfold csE
  rw [csE_same E (fun z hz => h z (by simp [hz]))]
  have := h y (by simp)
  by_cases e : y.dir = r
  ·have hx : y.nam ≠ x := fun q => this ⟨e, q⟩
   simp [e, hx]
  ·rw [if_neg (fun q => e q.1), if_neg (fun q => e q.1)]
theorem csE_step {r : Int} {x : ByteArray} {left : ByteArray → Bool} (hl : left x = true) : ∀ (E : List En), E.Pairwise (fun a b => ¬ (a.dir = b.dir ∧ a.nam = b.nam)) → (∃ e ∈ E, e.dir = r ∧ e.nam = x) → csE r (fun z => left z && !decide (z = x)) E = csE r left E + x.size
 | [], _, ⟨_, h, _⟩ => by simp at h
 | y :: E, hp, ⟨e, he, h1, h2⟩ => by
  obtain ⟨hp1, hp2⟩ := List.pairwise_cons.1 hp
  unfold csE
  by_cases q : y.dir = r ∧ y.nam = x
  ·rw [csE_same E (fun z hz hh => hp1 z hz ⟨q.1.trans hh.1.symm, q.2.trans hh.2.symm⟩)]
   rw [if_pos ⟨q.1, by simp [q.2]⟩, if_neg (by rw [q.2, hl]; simp), q.2]
   omega
  ·have he' : e ∈ E := by
    rcases List.mem_cons.1 he with rfl | h
    ·exact absurd ⟨h1, h2⟩ q
    ·exact h
   rw [csE_step hl E hp2 ⟨e, he', h1, h2⟩]
   by_cases e1 : y.dir = r
   ·have hx : y.nam ≠ x := fun z => q ⟨e1, z⟩
    simp [e1, hx]
    omega
   ·rw [if_neg (fun z => e1 z.1), if_neg (fun z => e1 z.1)]
    omega
def cst (u : Us) (n : Nod) : Nat := 64 + n.data.length + n.target.size + csX n.xs + csE n.ino (fun _ => false) u.E
section
variable {p : Nat} {c : Nat → Cl} {q : Int × Int × Int} {u : Us} {lk pr : Int → Int} {m : Nat} {nb eb : Int → Nat}
set_option maxRecDepth 100000 in
set_option maxHeartbeats 2000000 in
theorem ucost_any (r : Int) (w : World) (h : UB w p c q u lk pr m nb eb) {n : Nod} (hn : nd u r = some n) (h0 : n.kind ≠ 1 → kin u r = 0) :
  Calls Tryz.prog 22 #[.pointer (some ⟨nb r, 0, none⟩)] w fun e w' => e = .returned (.int .i64 (wrap64 (cst u n))) ∧ Below w.heap.size w w' := by
 obtain ⟨n1, n2, v, hv⟩ := h.at hn
 have e1 := hv.e
 have d1 := hv.d
 have x1 := hv.x
 have t1 : w.cell? ⟨nb r, 7, none⟩ = some (.string n.target) := by simp [World.cell?, hv.box, ncs]
 have hdl := hv.data.1
 have hxl := hv.xs.1
 have HX := hide hv.xs.2
 have hxc := hv.xc
 have hxm := hv.xcm
 have HBox : Hid (∀ W, Below w.heap.size w W → W.cell? ⟨nb r, 11, none⟩ = some (.map (if n.kind = 1 then some (eb r) else none))) := fun W hW => (hW.cell (p := ⟨nb r, 11, none⟩) (heap_lt hv.box)).trans e1
 have HH := hide h
 have hc : Hid (cst u n = 64 + n.data.length + n.target.size + csX n.xs + csE r (fun _ => false) u.E) := by show _ = _; unfold cst; rw [n2]
 clear h hv e1
 go_enter Tryz.func22, Tryz.ntmps22
 go_wp2
 go_region
 go_wp2
 go_loopw [3, 27] (fun s3 s27 wr => ∃ i : Nat, s3 = .int .i64 (wrap64 ((64 + v.dn + n.target.size + csX (n.xs.take i) : Nat) : Int)) ∧ s27 = .int .i64 i ∧ i ≤ v.xn ∧ Below w.heap.size w wr) (fun _ s27 _ => v.xn - (intOf s27).toNat)
 case atStart =>
  refine ⟨0, ?_, rfl, by omega, below_drewN (Below.refl _ _) 1⟩
  have : csX (n.xs.take 0) = 0 := rfl
  rw [this, wrap_wrap]
  rfl
 case round =>
  obtain ⟨i, rfl, rfl, hi, hb⟩ := hrel
  have HB := hide hb
  by_cases hgo : i < v.xn
  ·have g1 : (i : Int) < v.xn := by omega
   obtain ⟨b, off, hxa, hlt, _, hx⟩ := HX.out.resolve_left (by omega)
   obtain ⟨c1, va, vn, vc, c2, hbs, _⟩ := hx i hgo
   have c3 := (hb.cell (p := ⟨b, off + i * 2, none⟩) hlt).trans c1
   have c4 := (hb.cell (p := ⟨b, off + i * 2 + 1, none⟩) hlt).trans c2
   have hvn := hbs.1
   have HSu := hide (csX_succ n.xs i (by omega))
   rw [hxa] at x1 ⊢
   clear hb hx c1 c2 hbs
   have hT : ((64 + v.dn + n.target.size + csX (n.xs.take (i + 1)) : Nat) : Int) = 64 + v.dn + n.target.size + (csX (n.xs.take i) : Nat) + (((gx n.xs i).1.size : Nat) + vn) := by
    have := HSu.out
    omega
   have HT := hide hT
   clear hT
   go_wp2
   refine ⟨⟨i + 1, ?_, by go_num, by omega, HB.out.alloc HB.out.size _⟩, by simp [intOf]; omega⟩
   rw [wrap_wrap, wrap_wrap2, HT.out]
  ·have HBx := HBox.out wr HB.out
   have hti : n.xs.take i = n.xs := List.take_of_length_le (by omega)
   rw [hti]
   have hcs := hc.out
   by_cases hk : n.kind = 1
   ·rw [if_pos hk] at HBx
    obtain ⟨wo, hwo⟩ : ∃ x, x = wr := ⟨_, rfl⟩
    subst hwo
    obtain ⟨w1, rr, hrg, hg1, hs1⟩ := ((HH.out.below HB.out).ents hn hk).range Tryz.underlying71
    have HR := hide hrg
    have HB1 : Hid (Below w.heap.size w w1) := HB.out.grown hg1 HB.out.size (fun k e => by cases e)
    have HKey := hide HH.out.key
    have HC0 : Hid (csE r (fun x => (enF u r x).isSome) u.E = 0) := csE_all _ (fun y hy hd => by
     have := en_mem HKey.out hy
     rw [hd] at this
     simp [enF, this])
    have HWr : Hid (w.heap.size ≤ wo.heap.size) := HB.out.size
    obtain ⟨T, hT⟩ : ∃ T, T = 64 + v.dn + n.target.size + csX n.xs := ⟨_, rfl⟩
    rw [← hT]
    rw [hdl, ← hT] at hcs
    have HCs := hide hcs
    clear hrg hg1 hb hcs hT HX
    go_wp2
    go_loopw [3] (fun s3 w2 => ∃ (left : ByteArray → Bool) (cnt : Nat), s3 = .int .i64 (wrap64 ((T + csE r left u.E : Nat) : Int)) ∧ RgS w2 (eb r) wo.heap.size (kin u r) (enF u r) left cnt ∧ Below w.heap.size w w2) (fun _ w2 => w2.rangeLeft (eb r) wo.heap.size)
    case atStart => exact ⟨_, _, by rw [HC0.out, Nat.add_zero], HR.out, HB1.out⟩
    case round =>
     obtain ⟨left, cnt, rfl, hrg, hbr⟩ := hrel
     have HG := hide hrg
     have HB2 := hide hbr
     clear hrg hbr
     go_wp2_with (first
      | (at_next; refine wpList_next_s rfl _ rfl (eb r) wo.heap.size _ _ _ _ rfl HG.out ?_ ?_)
      | go_in)
     ·intro hl
      obtain rfl : left = fun _ => false := funext hl
      clear hl
      go_wp2
      go_ret
      exact ⟨by rw [HCs.out]; rfl, HB2.out⟩
     ·intro x vv w3 cnt2 hx hlx hfx hrg2 hlt hg2 hs2 hen
      have hb3 : Below w.heap.size w w3 := HB2.out.grown hg2 HB2.out.size (fun k e => by cases e; exact HWr.out)
      unfold enF at hfx
      cases hex : en u r x with
      | none => rw [hex] at hfx; cases hfx
      | some e =>
       obtain ⟨x1, x2, x3⟩ := en_some hex
       have HS := hide (csE_step (left := left) hlx u.E HKey.out ⟨e, x1, x2, x3⟩)
       have HB3 := hide hb3
       have HG2 := hide hrg2
       have HM : Hid (w3.rangeLeft (eb r) wo.heap.size < wr.rangeLeft (eb r) wo.heap.size) := by
        show _ < _
        rw [hrg2.left_eq, HG.out.left_eq]; exact hlt
       have HT : Hid (((T + csE r (fun z => left z && !decide (z = x)) u.E : Nat) : Int) = T + (csE r left u.E : Nat) + (x.size : Nat)) := by
        show _ = _
        rw [HS.out]; omega
       clear hb3 hrg2 hg2 hlt hfx hlx
       go_wp2
       refine ⟨⟨_, cnt2, ?_, HG2.out, HB3.out⟩, HM.out⟩
       rw [wrap_wrap, HT.out]
   ·rw [if_neg hk] at HBx
    have HF : Hid (csE r (fun _ => false) u.E = 0) := csE_none _ (fun y hy hd => by
     have := h0 hk
     unfold kin at this
     rw [List.countP_eq_zero] at this
     exact this y hy (by simpa using hd))
    rw [HF.out, Nat.add_zero, hdl] at hcs
    have HCs := hide hcs
    have hrg := run_range_nilMap (P := Tryz.prog) wr 71 9 3 Tryz.underlying71
    have hnx : ∀ ty, (Instr.next (.pointer (some ⟨wr.heap.size, 0, none⟩)) false ty).run Tryz.prog (wr.alloc (.mapIter none 0 #[] 0)) = _ := fun ty => run_next_nilMap wr ty 0 0 #[]
    clear hcs hb h0 hk hn HX
    go_wp2
    refine wp_loop_rounds 1 ?_
    rw [rounds_succ]
    go_wp2
    go_ret
    exact ⟨by rw [HCs.out]; rfl, HB.out.alloc HB.out.size _⟩
end
end Upr
end Go.Proofs.YtbmeapehgajbkaaGreat
namespace Go.Proofs.YtbmeapehgajbkaaGreat
open Go.RowKit Go.Maps
open Nam Tre Tab
open Lz (g)
namespace Upr
theorem uinfoQuota : (Tryz.prog.info? 30).map (fun i => i.size) = some 2 := by kernel_rfl
theorem uload_quota {w : World} {b : Nat} {t : TypeId} {cs : Array Value} {fr : Nat × Nat} (h : w.heap[b]? = some (.cells cs t fr)) (hs : cs.size = 2) : (loadVar 30 ⟨b, 0, none⟩).run Tryz.prog w = .ok (.agg cs) w :=
 run_loadVar_row w b t 30 cs fr _ h Tryz.underlying30 rfl (by rw [hs]; exact uinfoQuota)
def csN (u : Us) (left : Int → Bool) : List Nod → Nat
 | [] => 0
 | y :: L => (if left y.ino = false then cst u y else 0) + csN u left L
theorem csN_all {u : Us} {left : Int → Bool} : ∀ (L : List Nod), (∀ y ∈ L, left y.ino = true) → csN u left L = 0
 | [], _ => rfl
 | y :: L, h => by
  unfold csN
  rw [csN_all L (fun z hz => h z (by simp [hz])), if_neg (by rw [h y (by simp)]; simp)]
theorem csN_same {u : Us} {x : Int} {left : Int → Bool} : ∀ (L : List Nod), (∀ y ∈ L, y.ino ≠ x) → csN u (fun z => left z && !decide (z = x)) L = csN u left L
 | [], _ => rfl
 | y :: L, h => by
  unfold csN
  rw [csN_same L (fun z hz => h z (by simp [hz]))]
  simp [h y (by simp)]
theorem csN_step {u : Us} {n : Nod} {left : Int → Bool} (hl : left n.ino = true) : ∀ (L : List Nod), (L.map Nod.ino).Nodup → n ∈ L → csN u (fun z => left z && !decide (z = n.ino)) L = csN u left L + cst u n
 | [], _, h => by simp at h
 | y :: L, hp, h => by
  rw [List.map_cons, List.nodup_cons] at hp
  obtain ⟨hp1, hp2⟩ := hp
  unfold csN
  rcases List.mem_cons.1 h with rfl | h'
  ·rw [csN_same L (fun z hz e => hp1 (by rw [← e]; exact List.mem_map_of_mem hz))]
   rw [if_pos (by simp), if_neg (by rw [hl]; simp)]
   omega
  ·rw [csN_step hl L hp2 h']
   have hne : y.ino ≠ n.ino := fun e => hp1 (by rw [e]; exact List.mem_map_of_mem h')
   simp [hne]
   omega
section
variable {p : Nat} {c : Nat → Cl} {q : Int × Int × Int} {u : Us} {lk pr : Int → Int} {m : Nat} {nb eb : Int → Nat}
set_option maxRecDepth 100000 in
set_option maxHeartbeats 2000000 in
theorem uUsed_any (w : World) (h : UB w p c q u lk pr m nb eb) (h0 : ∀ n ∈ u.L, n.kind ≠ 1 → kin u n.ino = 0) :
  Calls Tryz.prog 7 #[.pointer (some ⟨p, 0, none⟩)] w fun e w' => e = .returned (.agg #[.int .i64 (u.L.length : Nat), .int .i64 (wrap64 (csN u (fun _ => false) u.L : Nat))]) ∧ Below w.heap.size w w' := by
 have HH := hide h
 have B1 : Below w.heap.size w (w.alloc (.cells #[.int .i64 0, .int .i64 0] 30)) := below_one _ _
 have h1 := h.below B1
 have c21 := h1.c2
 have l1 := h1.map.len Tryz.underlying63 3
 have HB2 : Hid (Below w.heap.size w ((w.alloc (.cells #[.int .i64 0, .int .i64 0] 30)).alloc (.cells #[.int .i64 (u.L.length : Nat), .int .i64 0] 30))) := B1.alloc B1.size _
 have h2 := h.below HB2.out
 have c22 := h2.c2
 obtain ⟨w3, rr, hrg, hg3, hs3⟩ := h2.map.range Tryz.underlying63
 have e2 : ((w.alloc (.cells #[.int .i64 0, .int .i64 0] 30)).alloc (.cells #[.int .i64 (u.L.length : Nat), .int .i64 0] 30)).heap.size = w.heap.size + 1 + 1 := by simp
 rw [e2] at rr hrg hs3
 have HB3 : Hid (Below w.heap.size w w3) := HB2.out.grown hg3 HB2.out.size (fun k e => by cases e)
 have hx3 : w3.heap[w.heap.size + 1]? = some (.cells #[.int .i64 (u.L.length : Nat), .int .i64 0] 30 (0, 0)) := by
  rw [hg3.block (w.heap.size + 1) (by rw [e2]; omega) (fun e => by cases e)]
  exact heap_new (by simp)
 have hy3 : w3.heap[w.heap.size]? = some (.cells #[.int .i64 0, .int .i64 0] 30 (0, 0)) := by
  rw [hg3.block w.heap.size (by rw [e2]; omega) (fun e => by cases e)]
  exact ((below_one _ _).block w.heap.size (by simp)).trans (heap_new rfl)
 have HR := hide hrg
 have HX3 := hide hx3
 have HY3 := hide hy3
 have HCst : Hid (∀ W, Below w.heap.size w W → ∀ n ∈ u.L, Calls Tryz.prog 22 #[.pointer (some ⟨nb n.ino, 0, none⟩)] W fun e w' => e = .returned (.int .i64 (wrap64 (cst u n))) ∧ Below W.heap.size W w') := fun W hW n hn => ucost_any n.ino W (HH.out.below hW) (HH.out.ndd hn) (h0 n hn)
 have HC0 : Hid (csN u (fun x => (ndF u nb x).isSome) u.L = 0) := csN_all _ (fun y hy => by simp [ndF, HH.out.ndd hy])
 clear h h0 hrg hg3 hs3 hx3 hy3 e2 B1 h1 h2
 go_enter Tryz.func7, Tryz.ntmps7
 go_wp2
 go_loopw [] (fun wr => ∃ (left : Int → Bool) (cnt : Nat), RgI wr m (w.heap.size + 1 + 1) u.L.length (ndF u nb) left cnt ∧ wr.heap[w.heap.size + 1]? = some (.cells #[.int .i64 (u.L.length : Nat), .int .i64 (wrap64 (csN u left u.L : Nat))] 30 (0, 0)) ∧ wr.heap[w.heap.size]? = some (.cells #[.int .i64 0, .int .i64 0] 30 (0, 0)) ∧ Below w.heap.size w wr) (fun wr => wr.rangeLeft m (w.heap.size + 1 + 1))
 case atStart => exact ⟨_, _, HR.out, by rw [HC0.out, show wrap64 ((0 : Nat) : Int) = 0 from by unfold wrap64; omega]; exact HX3.out, HY3.out, HB3.out⟩
 case round =>
  obtain ⟨left, cnt, hrg, hx, hy, hbr⟩ := hrel
  have HG := hide hrg
  have HX := hide hx
  have HY := hide hy
  have HB := hide hbr
  clear hrg hx hy hbr
  go_wp2_with (first
   | (at_next; refine wpList_next_i rfl _ rfl m (w.heap.size + 1 + 1) _ _ _ _ rfl HG.out ?_ ?_)
   | go_in)
  ·intro hl
   obtain rfl : left = fun _ => false := funext hl
   clear hl
   have k0 : wr.cell? ⟨w.heap.size + 1, 0, none⟩ = some (.int .i64 (u.L.length : Nat)) := by simp [World.cell?, HX.out]
   have k1 : wr.cell? ⟨w.heap.size + 1, 1, none⟩ = some (.int .i64 (wrap64 (csN u (fun _ => false) u.L : Nat))) := by simp [World.cell?, HX.out]
   have k2 : wr.cell? ⟨w.heap.size, 0, none⟩ = some (.int .i64 0) := by simp [World.cell?, HY.out]
   have k3 : wr.cell? ⟨w.heap.size, 1, none⟩ = some (.int .i64 0) := by simp [World.cell?, HY.out]
   have k4 : wr.frozen? ⟨w.heap.size, 0, none⟩ = false := by simp [World.frozen?, HY.out]
   have k5 : wr.frozen? ⟨w.heap.size, 1, none⟩ = false := by simp [World.frozen?, HY.out]
   have hA : ((wr.setCell ⟨w.heap.size, 0, none⟩ (.int .i64 (u.L.length : Nat))).setCell ⟨w.heap.size, 1, none⟩ (.int .i64 (wrap64 (csN u (fun _ => false) u.L : Nat)))).heap[w.heap.size]? = some (.cells #[.int .i64 (u.L.length : Nat), .int .i64 (wrap64 (csN u (fun _ => false) u.L : Nat))] 30 (0, 0)) := by
    rw [heap_setCell_self (heap_setCell_self HY.out _) _]; rfl
   have HA := hide hA
   have HBe : Hid (Below w.heap.size w ((wr.setCell ⟨w.heap.size, 0, none⟩ (.int .i64 (u.L.length : Nat))).setCell ⟨w.heap.size, 1, none⟩ (.int .i64 (wrap64 (csN u (fun _ => false) u.L : Nat))))) := (HB.out.setCell (by exact Nat.le_refl _) _).setCell (by exact Nat.le_refl _) _
   clear hA
   go_wp2
   refine bodyPost_ret (v := .agg #[.int .i64 (u.L.length : Nat), .int .i64 (wrap64 (csN u (fun _ => false) u.L : Nat))]) ?_ rfl ⟨rfl, HBe.out⟩
   exact results_cr1 (p := 2) rfl _ _ w.heap.size _ rfl (uload_quota HA.out rfl)
  ·intro x vv w3 cnt2 hx hlx hfx hrg2 hlt hg2 hs2 hen
   unfold ndF at hfx
   cases hnx : nd u x with
   | none => rw [hnx] at hfx; cases hfx
   | some n =>
    rw [hnx] at hfx
    obtain rfl : Value.pointer (some ⟨nb x, 0, none⟩) = vv := by simpa using hfx
    obtain ⟨n1, n2⟩ := nd_some hnx
    subst n2
    have hb3 : Below w.heap.size w w3 := HB.out.grown hg2 HB.out.size (fun k e => by cases e; omega)
    have hX : w3.heap[w.heap.size + 1]? = some (.cells #[.int .i64 (u.L.length : Nat), .int .i64 (wrap64 (csN u left u.L : Nat))] 30 (0, 0)) := by
     rw [hg2.block (w.heap.size + 1) (heap_lt HX.out) (fun e => by simp at e)]; exact HX.out
    have hY : w3.heap[w.heap.size]? = some (.cells #[.int .i64 0, .int .i64 0] 30 (0, 0)) := by
     rw [hg2.block w.heap.size (heap_lt HY.out) (fun e => by simp at e; omega)]; exact HY.out
    have HC := hide (HCst.out w3.drew (below_drewN hb3 1) n n1)
    have k1 : w3.cell? ⟨w.heap.size + 1, 1, none⟩ = some (.int .i64 (wrap64 (csN u left u.L : Nat))) := by simp [World.cell?, hX]
    have HK : Hid (∀ w9, Below w3.heap.size w3.drew w9 → w9.cell? ⟨w.heap.size + 1, 1, none⟩ = some (.int .i64 (wrap64 (csN u left u.L : Nat))) ∧ w9.frozen? ⟨w.heap.size + 1, 1, none⟩ = false) := fun w9 h9 => by
     have := (h9.block (w.heap.size + 1) (heap_lt hX)).trans hX
     exact ⟨by simp [World.cell?, this], by simp [World.frozen?, this]⟩
    have HS := hide (csN_step (u := u) hlx u.L HH.out.ino n1)
    have HM : Hid (w3.rangeLeft m (w.heap.size + 1 + 1) < wr.rangeLeft m (w.heap.size + 1 + 1)) := by
     show _ < _
     rw [hrg2.left_eq, HG.out.left_eq]; exact hlt
    have HG2 := hide hrg2
    have HX2 := hide hX
    have HY2 := hide hY
    have HB2 := hide hb3
    have HFin : Hid (∀ w9 W, Below w3.heap.size w3.drew w9 → W = w9.setCell ⟨w.heap.size + 1, 1, none⟩ (.int .i64 (IntKind.i64.wrap (wrap64 (csN u left u.L : Nat) + wrap64 (cst u n : Nat)))) →
      (∃ (left : Int → Bool) (cnt : Nat), RgI W m (w.heap.size + 1 + 1) u.L.length (ndF u nb) left cnt ∧ W.heap[w.heap.size + 1]? = some (.cells #[.int .i64 (u.L.length : Nat), .int .i64 (wrap64 (csN u left u.L : Nat))] 30 (0, 0)) ∧ W.heap[w.heap.size]? = some (.cells #[.int .i64 0, .int .i64 0] 30 (0, 0)) ∧ Below w.heap.size w W) ∧ W.rangeLeft m (w.heap.size + 1 + 1) < wr.rangeLeft m (w.heap.size + 1 + 1)) := fun w9 W h9 hW => by
     have hwv : IntKind.i64.wrap (wrap64 (csN u left u.L : Nat) + wrap64 (cst u n : Nat)) = wrap64 (csN u (fun z => left z && !decide (z = n.ino)) u.L : Nat) := by
      rw [HS.out, IntKind.wrap_i64]; unfold wrap64; omega
     rw [hwv] at hW
     have hml := hrg2.mp
     have hmlt : m < w.heap.size := by
      have := HH.out.map.lt
      exact this
     have hm9 : W.heap[m]? = w3.heap[m]? := by
      rw [hW, Below.heap_setCell _ _ _ _ (by show m ≠ w.heap.size + 1; omega)]
      exact h9.block m (Nat.lt_of_lt_of_le hmlt hb3.size)
     have hi9 : W.heap[w.heap.size + 1 + 1]? = w3.heap[w.heap.size + 1 + 1]? := by
      rw [hW, Below.heap_setCell _ _ _ _ (by show w.heap.size + 1 + 1 ≠ w.heap.size + 1; omega)]
      exact h9.block _ hrg2.lt
     have hr := hrg2.same hm9 hi9
     refine ⟨⟨_, cnt2, hr, ?_, ?_, ?_⟩, by rw [hr.left_eq, HG.out.left_eq]; exact hlt⟩
     ·have := (h9.block (w.heap.size + 1) (heap_lt hX)).trans hX
      rw [hW, heap_setCell_self this _]; rfl
     ·rw [hW, Below.heap_setCell _ _ _ _ (by show w.heap.size ≠ w.heap.size + 1; omega)]
      exact (h9.block _ (heap_lt hY)).trans hY
     ·rw [hW]
      exact (hb3.trans (Below.mono (⟨h9.os, h9.tape, h9.output, h9.size, h9.block⟩ : Below w3.heap.size w3 w9) hb3.size)).setCell (by show w.heap.size ≤ w.heap.size + 1; omega) _
    clear hb3 hX hY hrg2 hlt hg2 hs2 hlx hfx
    go_wp2
    go_region_with (go_at_call 22; refine HC.out.mono ?_; rintro e w9 ⟨rfl, h9⟩; obtain ⟨k9, g9⟩ := HK.out w9 h9; have H9 := hide h9; clear h9)
    all_goals
     have HE := hide (HFin.out w9 _ H9.out rfl)
     go_wp2
     exact HE.out
end
end Upr
end Go.Proofs.YtbmeapehgajbkaaGreat
namespace Go.Proofs.YtbmeapehgajbkaaGreat
open Go.RowKit Go.Maps
open Nam Tre Tab
open Lz (g)
open Cur
theorem gx_drop (xs : List (ByteArray × List Int)) (i : Nat) (h : i < xs.length) : xs.drop i = gx xs i :: xs.drop (i + 1) := by
 rw [gx_lt xs i h]; exact List.drop_eq_getElem_cons h
set_option maxRecDepth 100000 in
set_option maxHeartbeats 1000000 in
theorem xsSame_any (a b : Option Addr) (n m c d : Nat) (xs ys : List (ByteArray × List Int)) (w : World) (ha : XsR w a n xs) (hb : XsR w b m ys) (hn : n ≤ 1000000) (hm : m ≤ 1000000) (q : Bool) (hq : decide (xs = ys) = q) :
  Calls Tryz.prog 31 #[.slice a n c, .slice b m d] w fun e w' => e = .returned (.bool q) ∧ ∃ j, w' = w.drewN j := by
 have hl := ha.1
 have hk := hb.1
 by_cases e : n = m
 ·subst e
  have HA := hide ha
  have HB := hide hb
  have HQ : Hid (decide (xs.drop 0 = ys.drop 0) = q) := by rw [List.drop_zero, List.drop_zero]; exact hq
  clear ha hb hq
  go_enter Tryz.func31, Tryz.ntmps31
  go_wp2
  go_loopw [5] (fun r wr => ∃ i j : Nat, r = .int .i64 i ∧ i ≤ n ∧ wr = w.drewN j ∧ Hid (decide (xs.drop i = ys.drop i) = q)) (fun r _ => n - (intOf r).toNat)
  case atStart => exact ⟨0, 0, rfl, Nat.zero_le _, rfl, HQ⟩
  case round =>
   obtain ⟨i, j, rfl, hi, rfl, HI⟩ := hrel
   by_cases hp : i < n
   ·obtain ⟨b1, o1, rfl, hb1, hc1⟩ := HA.out.at (by omega)
    obtain ⟨b2, o2, rfl, hb2, hc2⟩ := HB.out.at (by omega)
    obtain ⟨n1, va, vn, vc, v1, B1, _⟩ := hc1 i hp
    obtain ⟨n2, ua, un, uc, v2, B2, _⟩ := hc2 i hp
    have HS1 := hide (gx_drop xs i (by omega))
    have HS2 := hide (gx_drop ys i (by omega))
    have hd : (i : Int) < (n : Int) := by omega
    clear hc1 hc2
    generalize gx xs i = A at *
    generalize gx ys i = C at *
    obtain ⟨an, av⟩ := A
    obtain ⟨cn, cv⟩ := C
    simp only at n1 n2 v1 v2 B1 B2 HS1 HS2
    have s1 : ∀ nq, (convert 38 9 (.slice va vn vc)).run Tryz.prog (w.drewN nq) = .ok (.string (strOfNums av)) (w.drewN nq) := fun nq => str_any (w := w.drewN nq) B1 vc
    have s2 : ∀ nq, (convert 38 9 (.slice ua un uc)).run Tryz.prog (w.drewN nq) = .ok (.string (strOfNums cv)) (w.drewN nq) := fun nq => str_any (w := w.drewN nq) B2 uc
    have hs : ∀ x y : ByteArray, (x.toList == y.toList) = decide (x = y) := fun x y => by
     rw [Bool.eq_iff_iff, beq_iff_eq, decide_eq_true_eq]
     exact ⟨toList_inj, fun h => by rw [h]⟩
    have t1 := B1.bytes
    have t2 := B2.bytes
    clear B1 B2
    by_cases h1 : an = cn
    ·subst h1
     by_cases h2 : av = cv
     ·subst h2
      go_wp2
      go_quiet (fail)
      go_wp2
      go_roundw
      case rel => exact ⟨i + 1, _, rfl, by omega, rfl, by show _ = _; have := HI.out; rw [HS1.out, HS2.out] at this; rw [← this]; simp⟩
      case measure => simp [intOf]; omega
     ·have HF : Hid (false = q) := by show _ = _; have := HI.out; rw [HS1.out, HS2.out] at this; rw [← this]; simp [h2]
      have h4 : ((strOfNums av).toList == (strOfNums cv).toList) = false := by
       rw [hs, decide_eq_false]
       intro h
       have := congrArg sb h
       rw [Cap.sb_str t1, Cap.sb_str t2] at this
       exact h2 this
      clear hs t1 t2
      go_wp2
      go_quiet (fail)
      go_wp2
      go_ret
      exact ⟨ret_bool HF.out, dr2 _ _ _⟩
    ·have HF : Hid (false = q) := by show _ = _; have := HI.out; rw [HS1.out, HS2.out] at this; rw [← this]; simp [h1]
     have h4 : (an.toList == cn.toList) = false := by rw [hs, decide_eq_false h1]
     clear hs t1 t2
     go_wp2
     go_quiet (fail)
     go_wp2
     go_ret
     exact ⟨ret_bool HF.out, dr2 _ _ _⟩
   ·obtain rfl : i = n := by omega
    go_wp2
    go_ret
    exact ⟨ret_bool (by have := HI.out; rw [List.drop_of_length_le (by omega), List.drop_of_length_le (by omega)] at this; rw [← this]; simp), j, rfl⟩
 ·have hne : ((n : Int) != (m : Int)) = true := by simp; omega
  have hq' : q = false := by rw [← hq]; simp; intro h; rw [h] at hl; omega
  go_enter Tryz.func31, Tryz.ntmps31
  go_wp2
  go_ret
  exact ⟨ret_bool hq'.symm, 0, rfl⟩
end Go.Proofs.YtbmeapehgajbkaaGreat
namespace Go.Proofs.YtbmeapehgajbkaaGreat
open Go.RowKit Go.Maps
open Nam Tre Mrg Brn
def broV : Nv := ⟨none, 0, 0, 1, 1, 0, 0, 0, none, 0, 0, ⟨#[]⟩, none, 0, 0, false⟩
def broN : Nod := ⟨[], 1, 1, 0, 0, 0, [], ⟨#[]⟩, [], false⟩
def bwhV (p : Nat) : Nv := ⟨some ⟨p, 0, none⟩, 1, 1, 2, 4, 0, 0, 0, none, 0, 0, ⟨#[]⟩, none, 0, 0, false⟩
def bwhN : Nod := ⟨[⟨#[97]⟩], 2, 4, 0, 0, 0, [], ⟨#[]⟩, [], false⟩
def binV (p : Nat) : Nv := ⟨some ⟨p, 0, none⟩, 2, 2, 3, 2, 0, 0, 0, none, 0, 0, ⟨#[]⟩, none, 0, 0, false⟩
def binN : Nod := ⟨[⟨#[97]⟩, ⟨#[98]⟩], 3, 2, 0, 0, 0, [], ⟨#[]⟩, [], false⟩
theorem rep_bare {w : World} (na : Option Addr) (nn : Nat) (l : List ByteArray) (i k : Int) (h : Rs w na nn l) (hn : na = none → nn = 0) (hl : nn ≤ 9223372036854775807) (hi : (Lit.int .i64 i).wf = true) : Rep w ⟨na, nn, nn, i, k, 0, 0, 0, none, 0, 0, ⟨#[]⟩, none, 0, 0, false⟩ ⟨l, i, k, 0, 0, 0, [], ⟨#[]⟩, [], false⟩ where
 names := h
 nc := Nat.le_refl _
 ncm := hl
 nnil := hn
 ino := rfl
 in64 := hi
 kind := rfl
 mode := rfl
 uid := rfl
 gid := rfl
 data := bs_zero _ _
 dc := Nat.le_refl _
 dcm := (by decide : (0 : Nat) ≤ 9223372036854775807)
 dnil := fun _ => rfl
 tg := rfl
 tgm := (by decide : (0 : Nat) ≤ 9223372036854775807)
 xs := XsR.nil _ _
 xc := Nat.le_refl _
 xcm := (by decide : (0 : Nat) ≤ 9223372036854775807)
 xnil := fun _ => rfl
 op := rfl
theorem may_bro : mayB broN = true := by
 simp [mayB, may, kdOk, attrOk, xsOk, xs1, broN]
theorem may_bwh : mayB bwhN = true := by
 have : (⟨#[]⟩ : ByteArray).toList = [] := toList_mk []
 simp [mayB, bwhN, this]
theorem wrong_bwh : wrong [broN, bwhN] = 0 := by
 have h1 : valid [97] = 0 := by decide
 simp [wrong, broN, bwhN, fv, h1]
theorem wrong_bin : wrong [broN, bwhN, binN] = 0 := by
 have h1 : valid [97] = 0 := by decide
 have h2 : valid [98] = 0 := by decide
 simp [wrong, broN, bwhN, binN, fv, h1, h2]
theorem check_bwh : checkB [broN, bwhN] = 0 := by
 unfold checkB
 rw [if_neg (by decide), if_neg (by rw [wrong_bwh]; simp), if_neg (by decide), if_neg (by simp [broN, bwhN]), if_neg (by simp [isDir, broN]), if_neg (by simp [inDir, isDir, broN, bwhN]), if_neg (by rw [List.all_cons, List.all_cons, may_bro, may_bwh]; simp), if_neg (by simp [broN, bwhN])]
theorem check_bin : checkB [broN, bwhN, binN] = 5 := by
 unfold checkB
 rw [if_neg (by decide), if_neg (by rw [wrong_bin]; simp), if_neg (by decide), if_neg (by simp [broN, bwhN, binN]), if_neg (by simp [isDir, broN]), if_pos (by simp [inDir, isDir, broN, bwhN, binN])]
theorem bCheck_at (a : Option Addr) (n c : Nat) (L : List (Nv × Nod)) (z : Int) (w : World) (hz : checkB (nds L) = z) (hl : Sh w a n (L.map (·.1))) (hr : ∀ p ∈ L, Rep w p.1 p.2) (hc : n ≤ c) (hcm : c ≤ 1000) :
  Calls Tryz.prog 16 #[.slice a n c] w fun e w' => e = .returned (.int .i64 z) ∧ Below w.heap.size w w' := by
 subst hz
 exact bCheck_any a n c L w (hl.ns hr) hc (by omega) (by omega)
theorem ta_nil1 (w : World) : (Instr.typeAssert .nilIface 84 100 true).run Tryz.prog w = .ok (.tuple #[.pointer none, .bool false]) w := by kernel_rfl
theorem ta_nil2 (w : World) : (Instr.typeAssert .nilIface 84 25 true).run Tryz.prog w = .ok (.tuple #[.pointer none, .bool false]) w := by kernel_rfl
theorem ta_up1 (v : Value) (w : World) : (Instr.typeAssert (.iface 25 v) 84 100 true).run Tryz.prog w = .ok (.tuple #[.pointer none, .bool false]) w := by kernel_rfl
theorem ta_up2 (v : Value) (w : World) : (Instr.typeAssert (.iface 25 v) 84 25 true).run Tryz.prog w = .ok (.tuple #[v, .bool true]) w := by kernel_rfl
set_option maxRecDepth 100000 in
theorem kindOf_nil (w : World) : Calls Tryz.prog 34 #[.nilIface] w fun e w' => e = .returned (.int .i64 0) ∧ w' = w := by
 have t1 := ta_nil1
 have t2 := ta_nil2
 go_enter Tryz.func34, Tryz.ntmps34
 go_wp2
 go_ret
 exact ⟨rfl, rfl⟩
theorem Kind_nil (w : World) : Calls Tryz.prog 15 #[.nilIface] w fun e w' => e = .returned (.int .i64 0) ∧ w' = w := by
 go_enter Tryz.func15, Tryz.ntmps15
 go_wp2_with (go_at_call 34; refine (kindOf_nil _).mono ?_; rintro e w1 ⟨rfl, rfl⟩)
 go_ret
 exact ⟨rfl, rfl⟩
set_option maxRecDepth 100000 in
theorem kindOf_up (v : Value) (w : World) : Calls Tryz.prog 34 #[.iface 25 v] w fun e w' => e = .returned (.int .i64 2) ∧ w' = w := by
 have t1 := ta_up1 v
 have t2 := ta_up2 v
 go_enter Tryz.func34, Tryz.ntmps34
 go_wp2
 go_ret
 exact ⟨rfl, rfl⟩
theorem Kind_up (v : Value) (w : World) : Calls Tryz.prog 15 #[.iface 25 v] w fun e w' => e = .returned (.int .i64 2) ∧ w' = w := by
 go_enter Tryz.func15, Tryz.ntmps15
 go_wp2_with (go_at_call 34; refine (kindOf_up _ _).mono ?_; rintro e w1 ⟨rfl, rfl⟩)
 go_ret
 exact ⟨rfl, rfl⟩
def cells3 (v u x : Nv) : Array Value := #[.slice v.na v.nn v.nc, .int .i64 v.ino, .int .i64 v.kind, .int .i64 v.mode, .int .i64 v.uid, .int .i64 v.gid, .slice v.da v.dn v.dc, .string v.tg, .slice v.xa v.xn v.xc, .bool v.op, .slice u.na u.nn u.nc, .int .i64 u.ino, .int .i64 u.kind, .int .i64 u.mode, .int .i64 u.uid, .int .i64 u.gid, .slice u.da u.dn u.dc, .string u.tg, .slice u.xa u.xn u.xc, .bool u.op, .slice x.na x.nn x.nc, .int .i64 x.ino, .int .i64 x.kind, .int .i64 x.mode, .int .i64 x.uid, .int .i64 x.gid, .slice x.da x.dn x.dc, .string x.tg, .slice x.xa x.xn x.xc, .bool x.op]
theorem sh_three' {w : World} {v u x : Nv} {p : Nat} (hp : p = w.heap.size) : Sh (w.alloc (.cells (cells3 v u x) 44)) (some ⟨p, 0, none⟩) 3 [v, u, x] := by
 subst hp
 refine ⟨rfl, .inr ⟨w.heap.size, 0, rfl, by simp, fun i hi => ?_⟩⟩
 match i, hi with
 | 0, _ => constructor <;> simp [cells3, gv]
 | 1, _ => constructor <;> simp [cells3, gv]
 | 2, _ => constructor <;> simp [cells3, gv]
theorem brs_one {W : World} {b : Nat} {s : ByteArray} (h : W.heap[b]? = some (.cells #[.string s] 9 (0, 0))) : Rs W (some ⟨b, 0, none⟩) 1 [s] := by
 refine ⟨rfl, .inr ⟨b, 0, rfl, heap_lt h, fun i hi => ?_⟩⟩
 match i, hi with
 | 0, _ => simp [World.cell?, h, gs]
theorem brs_two {W : World} {b : Nat} {s t : ByteArray} (h : W.heap[b]? = some (.cells #[.string s, .string t] 9 (0, 0))) : Rs W (some ⟨b, 0, none⟩) 2 [s, t] := by
 refine ⟨rfl, .inr ⟨b, 0, rfl, heap_lt h, fun i hi => ?_⟩⟩
 match i, hi with
 | 0, _ => simp [World.cell?, h, gs]
 | 1, _ => simp [World.cell?, h, gs]
structure Bx5 (w W : World) (q : Nat) : Prop where
 a : W.heap[q]? = some (.cells broV.cells 44 (0, 0))
 b : W.heap[q + 1 + 1]? = some (.cells (bwhV (q + 1)).cells 44 (0, 0))
 c : W.heap[q + 1 + 1 + 1 + 1]? = some (.cells (binV (q + 1 + 1 + 1)).cells 44 (0, 0))
 s : Rs W (some ⟨q + 1, 0, none⟩) 1 [⟨#[97]⟩]
 t : Rs W (some ⟨q + 1 + 1 + 1, 0, none⟩) 2 [⟨#[97]⟩, ⟨#[98]⟩]
 bel : Below w.heap.size w W
theorem Bx5.below {w W W' : World} {q : Nat} (h : Bx5 w W q) (hb : Below W.heap.size W W') : Bx5 w W' q :=
 ⟨(hb.block _ (heap_lt h.a)).trans h.a, (hb.block _ (heap_lt h.b)).trans h.b, (hb.block _ (heap_lt h.c)).trans h.c, h.s.below hb, h.t.below hb, h.bel.trans (hb.mono h.bel.size)⟩
theorem Bx5.new {w wn : World} (h : Below w.heap.size w wn) : Bx5 w (((((wn.alloc (.cells broV.cells 44)).alloc (.cells #[.string ⟨#[97]⟩] 9)).alloc (.cells (bwhV (wn.heap.size + 1)).cells 44)).alloc (.cells #[.string ⟨#[97]⟩, .string ⟨#[98]⟩] 9)).alloc (.cells (binV (wn.heap.size + 1 + 1 + 1)).cells 44)) wn.heap.size := by
 have h1 := heap_alloc_new wn (.cells broV.cells 44)
 generalize hw1 : wn.alloc (.cells broV.cells 44) = w1 at *
 have s1 : w1.heap.size = wn.heap.size + 1 := by rw [← hw1]; simp
 have b1 : Below w.heap.size w w1 := by rw [← hw1]; exact h.trans ((below_one _ _).mono h.size)
 have h2 := heap_alloc_new w1 (.cells #[.string ⟨#[97]⟩] 9)
 have g2 := below_one w1 (.cells #[.string ⟨#[97]⟩] 9)
 generalize hw2 : w1.alloc (.cells #[.string ⟨#[97]⟩] 9) = w2 at *
 have s2 : w2.heap.size = wn.heap.size + 1 + 1 := by rw [← hw2]; simp [s1]
 have h3 := heap_alloc_new w2 (.cells (bwhV (wn.heap.size + 1)).cells 44)
 have g3 := below_one w2 (.cells (bwhV (wn.heap.size + 1)).cells 44)
 generalize hw3 : w2.alloc (.cells (bwhV (wn.heap.size + 1)).cells 44) = w3 at *
 have s3 : w3.heap.size = wn.heap.size + 1 + 1 + 1 := by rw [← hw3]; simp [s2]
 have h4 := heap_alloc_new w3 (.cells #[.string ⟨#[97]⟩, .string ⟨#[98]⟩] 9)
 have g4 := below_one w3 (.cells #[.string ⟨#[97]⟩, .string ⟨#[98]⟩] 9)
 generalize hw4 : w3.alloc (.cells #[.string ⟨#[97]⟩, .string ⟨#[98]⟩] 9) = w4 at *
 have s4 : w4.heap.size = wn.heap.size + 1 + 1 + 1 + 1 := by rw [← hw4]; simp [s3]
 have h5 := heap_alloc_new w4 (.cells (binV (wn.heap.size + 1 + 1 + 1)).cells 44)
 have g5 := below_one w4 (.cells (binV (wn.heap.size + 1 + 1 + 1)).cells 44)
 generalize w4.alloc (.cells (binV (wn.heap.size + 1 + 1 + 1)).cells 44) = w5 at *
 rw [s1] at h2
 rw [s2] at h3
 rw [s3] at h4
 rw [s4] at h5
 have k4 : Below w3.heap.size w3 w5 := g4.trans (g5.mono g4.size)
 have k3 : Below w2.heap.size w2 w5 := g3.trans (k4.mono g3.size)
 have k2 : Below w1.heap.size w1 w5 := g2.trans (k3.mono g2.size)
 exact ⟨(k2.block _ (by omega)).trans h1, (k4.block _ (by omega)).trans h3, h5, brs_one ((k3.block _ (by omega)).trans h2), brs_two ((g5.block _ (by omega)).trans h4), b1.trans (k2.mono b1.size)⟩
theorem Bx5.ex {w wn : World} (h : Below w.heap.size w wn) : ∃ W5, W5 = (((((wn.alloc (.cells broV.cells 44)).alloc (.cells #[.string ⟨#[97]⟩] 9)).alloc (.cells (bwhV (wn.heap.size + 1)).cells 44)).alloc (.cells #[.string ⟨#[97]⟩, .string ⟨#[98]⟩] 9)).alloc (.cells (binV (wn.heap.size + 1 + 1 + 1)).cells 44)) ∧ Bx5 w W5 wn.heap.size ∧ wn.heap.size + 1 + 1 + 1 + 1 + 1 = W5.heap.size := ⟨_, rfl, Bx5.new h, by simp⟩
theorem brep_ro (w : World) : Rep w broV broN := rep_bare none 0 [] 1 1 (Rs.nil _ _) (fun _ => rfl) (by omega) (by decide)
theorem brep_wh {w : World} {q : Nat} (h : Rs w (some ⟨q, 0, none⟩) 1 [⟨#[97]⟩]) : Rep w (bwhV q) bwhN := rep_bare _ 1 _ 2 4 h (fun e => by cases e) (by omega) (by decide)
theorem brep_in {w : World} {q : Nat} (h : Rs w (some ⟨q, 0, none⟩) 2 [⟨#[97]⟩, ⟨#[98]⟩]) : Rep w (binV q) binN := rep_bare _ 2 _ 3 2 h (fun e => by cases e) (by omega) (by decide)
theorem bCheck_bwh {w W : World} {q p : Nat} (h : Bx5 w W q) (hp : p = W.heap.size) :
  Calls Tryz.prog 16 #[.slice (some ⟨p, 0, none⟩) 2 2] (W.alloc (.cells (cells2 broV (bwhV (q + 1))) 44)) fun e w' => e = .returned (.int .i64 0) ∧ Bx5 w w' q := by
 have hb := below_one W (.cells (cells2 broV (bwhV (q + 1))) 44)
 have h1 := h.below hb
 refine (bCheck_at _ 2 2 [(broV, broN), (bwhV (q + 1), bwhN)] 0 _ check_bwh (sh_two' hp) (fun p hp => ?_) (by omega) (by omega)).mono ?_
 ·simp only [List.mem_cons, List.not_mem_nil, or_false] at hp
  rcases hp with rfl | rfl
  ·exact brep_ro _
  ·exact brep_wh h1.s
 ·rintro e w' ⟨rfl, hb2⟩
  exact ⟨rfl, h1.below hb2⟩
theorem bCheck_bin {w W : World} {q p : Nat} (h : Bx5 w W q) (hp : p = W.heap.size) :
  Calls Tryz.prog 16 #[.slice (some ⟨p, 0, none⟩) 3 3] (W.alloc (.cells (cells3 broV (bwhV (q + 1)) (binV (q + 1 + 1 + 1))) 44)) fun e w' => e = .returned (.int .i64 5) ∧ Bx5 w w' q := by
 have hb := below_one W (.cells (cells3 broV (bwhV (q + 1)) (binV (q + 1 + 1 + 1))) 44)
 have h1 := h.below hb
 refine (bCheck_at _ 3 3 [(broV, broN), (bwhV (q + 1), bwhN), (binV (q + 1 + 1 + 1), binN)] 5 _ check_bin (sh_three' hp) (fun p hp => ?_) (by omega) (by omega)).mono ?_
 ·simp only [List.mem_cons, List.not_mem_nil, or_false] at hp
  rcases hp with rfl | rfl | rfl
  ·exact brep_ro _
  ·exact brep_wh h1.s
  ·exact brep_in h1.t
 ·rintro e w' ⟨rfl, hb2⟩
  exact ⟨rfl, h1.below hb2⟩
set_option maxRecDepth 100000 in
set_option maxHeartbeats 1000000 in
theorem bshown_any (w : World) : Calls Tryz.prog 4 #[] w fun e w' => e = .returned (.bool true) ∧ Below w.heap.size w w' := by
 go_enter Tryz.func4, Tryz.ntmps4
 go_wp2_with (first
  | (go_at_call 14; refine (Upr.uNew_any 0 0 w).mono ?_; rintro e wn ⟨p, c, rfl, hup, hb, hcl⟩; obtain ⟨W5, hW5, hB5, hs5⟩ := Bx5.ex hb; simp only [Nv.cells, broV, bwhV, binV] at hW5; have HB5 := hide hB5; have HC5 := bCheck_bwh HB5.out hs5; simp only [cells2, broV, bwhV] at HC5; have HC5 := hide HC5; have HW5 := hide hW5; clear hup hb hcl hB5 hW5 hs5)
  | (go_at_call 15; refine (Kind_nil _).mono ?_; rintro e wa ⟨rfl, rfl⟩)
  | (go_at_call 15; refine (Kind_up _ _).mono ?_; rintro e wb ⟨rfl, rfl⟩)
  | (go_at_call 16; refine H7C.out.mono ?_; rintro e w8 ⟨rfl, h8⟩; have H8 := hide h8; clear h8)
  | (go_at_call 16; rw [← HW5.out]; refine HC5.out.mono ?_; rintro e w7 ⟨rfl, h7⟩; have H7 := hide h7; have h7c := bCheck_bin h7 rfl; simp only [cells3, broV, bwhV, binV] at h7c; have H7C := hide h7c; clear h7 h7c; obtain ⟨a0, a1, a2, a3, a4, a5, a6, a7, a8, a9, _⟩ := cbox H7.out.a; obtain ⟨b0, b1, b2, b3, b4, b5, b6, b7, b8, b9, _⟩ := cbox H7.out.b; obtain ⟨d0, d1, d2, d3, d4, d5, d6, d7, d8, d9, _⟩ := cbox H7.out.c))
 go_ret
 exact ⟨rfl, H8.out.bel⟩
end Go.Proofs.YtbmeapehgajbkaaGreat
